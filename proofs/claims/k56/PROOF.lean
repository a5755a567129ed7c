import PyProof.Rows.All
import Wide.All
import OpenK.AllK
import Wide.FinOn
import Lean
import PyProof.EqAt
import PyProof.EqKinds
import PyProof.TupleCall
import PyProof.NeKinds
import KE.KSortTup
import KE.KItemsList
import KE.KPairComp
import KE.KDictOf
import PyProof.AttrMissHeap
import PySem.Challenge.RW_sashiko_k56_texts_of_no_chest
open List renaming length_map->ξ,mem_cons_self->Θ,mem_cons->Ξ,mem_cons_of_mem->Au,length_append->Av,getElem?_map->BD,getElem?_eq_getElem->E_,getElem?_eq_some_iff->F_,size_toArray->HH,not_mem_nil->HJ,mem_singleton->HL,length_cons->HM,map_append->HN,length_singleton->HU,mem_append->Hj,getD_eq_getElem?_getD->Hl,map_cons->Ho,take_of_length_le->Hr,mem_map->Hv,length_take->Hw,mem_of_getElem?->H_,mem_append_right->IE,length_drop->IG,mem_of_mem_take->IP,map_map->IV,all_eq_true->IW,range->Io,getElem_mem->Iq,append_assoc->Iw,mem_of_mem_drop->JE,getElem?_append_right->Ja,getElem?_append_left->Je,find?_cons->Jf,mem_append_left->Ji,any_cons->Jk,nodup_cons->Jo,map->Jp,take_add_one->Jx,lookup->J5,set_set->J6,map_congr_left->J_,filterMap_cons->KA,filter_cons_of_pos->KN,filter_cons_of_neg->KO,length_range->KU,getElem?_set_self->KW,drop_zero->KY,eraseIdx_eq_take_drop_succ->Kd,append_nil->Kr,toList_toArray->Ky,all_map->K1,mem_filterMap->K7,map_singleton->K8,drop_eq_getElem_cons->LI,lookup_cons->Lg,find?_cons_of_pos->Lq,find?_cons_of_neg->Lr,range_succ->Lv,of_mem_zip->Lw,mem_filter->Lx,length_filter_le->L5,take_zero->ME,mem_range->MF,getElem?_set_ne->MG,getElem?_of_mem->MH,length_pos_iff->MO,map_take->MR,map_drop->MS,set_eq_take_append_cons_drop->Mg,map_nil->Mp,take->M6,length->NG,length_set->NI,length_nil->NJ,forIn_cons->NK,replicate->Nd,nodup_nil->Nf,mem_or_eq_of_mem_set->Np,take_append_getElem->Ny,mem_of_mem_eraseIdx->Nz,length_eraseIdx_le->N7,sum_nil->N_,drop_eq_nil_of_le->OA,take_append_drop->OQ,map_eq_nil_iff->Od,contains_cons->Ou
open PySem renaming wpAny_bind->θ,Addr->ς,Value->η,Shared->χ,wpAny_pure->Aw,sizeLine->BC,wpAny->BG,model->B_,starEach->D_,Program->HS,wpAny_mono->Hq,Around->IA,Heap->IC,World->ID,Expr->II,FuncData->IJ,bootBuiltins->IM,wpAny_field->IU,compareOp->Ie,wpAny_holding->Ij,eval->Ip,Obj->Iz,PyData->JB,backTo->JD,wpAny_Call_Name_kw->JF,wpAny_loadPart_at->JL,codeAny_mono->JM,mainGlobals->JQ,wpAny_newObj_type->JX,wpAny_callSpecial?_slot->JY,wpAny_standAt->Jd,wpAny_truthy_bool->Jl,wpAny_call->Jw,wpAny_passesOwn->J1,strLen_append->J4,mem_of_lookup->J7,Pos->J8,wpAny_seqItems->KC,sysModules->KD,keywordEach->KG,wpAny_call_entry->KI,behindInMarks->KQ,codeAny->KR,wpAny_setField_rec->KZ,Stmt->Kf,wpAny_setField->Kg,rawInt->Kh,IsPair->Km,assignEach->Kv,attributeBase->Kz,sliceBounds->K3,sizeLine_eq->K4,codeAny_call_builtin->K5,letOwnedTupleGo->LC,Scope->LG,entryPlaceOf->LK,Sem->LL,ExcBaseFacts->LM,setFlight->LO,getMethod->LP,Env->LU,wpAny_rule->LW,wpAny_pyIter_tuple->LX,typeIs_str->LY,tupleKind_room_in1->LZ,call_meets->La,binaryOp->Lb,backToKw->Lc,NameKind->Ld,Within->Lk,readyFrames->Ln,holding->Lo,getItem->Lp,wpAny_pyIter_zip->L6,swapsWith->L7,noteFrame->L8,cLine->L_,bindArgs->MA,IsPart->ML,wpAny_execs_nil->MM,Model->MN,wpAny_loadPart->Ma,setField->Mb,callWith->Mc,behindIsImport->Me,IsZip->Mi,valueAt->Ml,standAt->Mm,callerA->Mn,Builtin->Mq,wpAny_isSubtype_exc->Mt,wpAny_attempt->M4,field->M5,typeOf->M7,isInstance->M8,cameBackBy->M9,wpAny_pyIter_list->NN,leaving->NO,keptBack->NP,foldedSetIterable->NQ,bindName->NR,ZipApart->NS,intText?->NU,BindsTo->NZ,plainObj_wpAny_Assign_Attribute->Na,wpAny_lookBehind->Nh,wpAny_execs_cons->Ni,tupleKind->Nj,pastItsLine_dict->Nl,frameOf->Nm,subscripted->Nr,frameObject->Nt,Keyword->OB,wpAny_newFunctionEnv_cells->OD,pyNext->OG,atKey->OH,assign->OI,JoinOk->OR,wpAny_letOwnedTupleGo_zip->OT,codeAny_handlers_suite_as->OU,wpAny_onRaise->OX,wpAny_comprehension_free->OY,assignInOrder->Oa,call->Oc,strValues->Of,raiseStmt->Og,joinParts->Oh,cellsFrom->Oi,bindL->Oj,bindC->Ol,Tok->Om,CmpOp->Ox
open PySem.Heap renaming get?_push_of_some->Δ,lt_size->BE,get?_push_size->HE,get?_update_other->Ib,get?_update_self->I_,size_push->JJ,SameBut->Jj,update->Kp,FlyingW->K2,MadeExcOf->K9,get?_none_of_le->MI,get?_some_iff->MX,Left->N8,HeldW->Ov
open Nat renaming le_refl->Ω,le_trans->BA,le_add_right->C_,lt_of_le_of_lt->HX,ne_of_lt->Hi,zero_le->Hs,lt_of_lt_of_le->Ht,succ_le_succ->IS,lt_irrefl->KJ,ne_of_gt->Ka,lt_succ_self->Kl,min_eq_left->Kx,min_eq_right->Ll,le_succ->MK,sub_zero->Mv,sub_self->Mw,le_total->Mx,le_of_lt->Mz,min_le_right->NF,add_le_add->Nn,le_of_eq->OO
open PySem.W renaming Frag->A_,mg_of->Hh,kitOne->IF,hideAll_none->IY,mg_none_of->Ic,hideAll_get->Ii,exmOne->Ik,hideAll->Im,findIn->JG,subIn->JR,funFrames_hide->Jb,of_hideAll->Jr,callWith_K->Js,kia_one->Jz,methodCall_KW->KP,emptyDict->KS,keepIn->Ke,specialIn->Kw,instObj->LF,looks_findIn->LJ,mroIn->Lf,fnOf->Lh,findIn->Lu,plainGet->MB,hasDictIn->MP,excIn->MV,typeIn->NB,kitCls->ND,cellsFrom_some->NT,Looks->NV,plainOver->Nb,sub->Nk,tail_of_in->OE,tailIn->OF,plainGet_of->OJ,callWith_K0->OL,Looks->OP,makesIn->OV,OpenLaw->Oo
open PySem.F renaming excBase_ValueError->BF,plainAttrs_list->HV,type_list_append->HY,slot_list_append->HZ,plainAttrs_str->Hu,type_str_join->Ir,slot_str_join->Iu,type_str_split->JU,slot_str_split->JV,slot_tuple_iterator_next->J9,slot_zip_next->MJ,args_str_split_2->M0,entry_str_split->NH,slot_str_split->NX,args_tuple_iterator_next_1->Nq,slot_dict_pop->Nx,entry_tuple_iterator_next->N1,store_object->N6,attrBase_ValueError->Ow
open PySem.Value renaming ref->Bl,none->Il,str->K0,bool->Li,int->MD,type->MQ,float->OM
open Sum renaming inr->Bm,inl->Mu
open PySem.PyData renaming strOk->Bp,eqv->JS,canLayAll0->Ju,int->J0,str->KH,depthAll->Ko,depth->Kq,eqvAll->LH,canLay0->Lz
open Int renaming toNat_natCast->G_,emod_lt_of_pos->Jc,emod_nonneg->Jv
open Array renaming length_toList->HK,getElem?_toList->IK,getElem?_eq_some_iff->JH,mem_toList_iff->MC,all_eq_true_iff_forall_mem->Mj
open Bool renaming and_eq_true->Hy,false_ne_true->IB,eq_iff_iff->Ks,and_false->LA,true_and->LV,or_true->Ls,false_eq_true->MZ,not_eq_true'->Mr,eq_false_iff->Ms,not_true->N3,false_or->N4
open False renaming elim->Hz
open Ne renaming symm->IL
open Or renaming inl->IQ,inr->L0
open Option.some renaming inj->IT
open PySem.Obj renaming mapFields->IZ,data_mapFields->LD,mapSeq->Mf,isFreed_of_fields->OW
open PySem.Sem renaming bind->Ia,wp->JN
open PyProof.Rows renaming slot_tuple_getitem->Ig,callWith_type1->Jm,zipApart_new->Jt,envOfC->KL,kindOf->Ku,AllBare->LN,Keyed->Mh,assignInOrder_cons->M_,subscriptTail->OZ
open PySem.Builtin.SmallTypes renaming nextOf->Ih,ownedTupleIsFree->JP,ownedTupleHandOut->K_
open PySem.PassesOwn renaming never->Iv,leaving->N9
open PySem.Str renaming join->JA,ofString->JK,empty->JT
open Option renaming isSome_some->JC,isSome_none->JO,map_eq_some_iff->JW,bind_eq_some_iff->LQ,isSome_map->MW,isSome_iff_exists->Nc,getD_some->Oq,getD_none->Ot
open True renaming intro->JI
open PySem.StrLaws renaming join_split->JZ,subAt_one->K6,strSub_toList->Nu,occ_length_le->Nv,split_free->ON,occ_head->Ob
open PySem.EntryCells renaming newEntry->Jg
open PySem.Builtin.Str renaming occurrences->Jh,partsBetween->M3,strKind->Ng
open PySem.Builtin.Slice renaming slicePlaces->Jq,sliceAdjust->Kn,sliceApplied->MU
open PySem.Builtin.Tuple renaming tupleExact->Jy,tupleItemsOf->MT
open PySem.Calls renaming evalArgs_plain->J2,callWith_builtin->Lm,Name_function_global->NY,spliced_cons->Oe,spliced_nil->Oz
open PySem.NameKind renaming free->Kc
open Nat.succ renaming inj->LR
open ForInStep renaming yield->LS
open PySem.SeqAt renaming shaped->Lj
open PySem.Within renaming cons->Ly
open PySem.Code renaming quiet_builtin->MY,isFrame->OC
open PySem.Heap.SameBut renaming update->NW
open PySem.Around renaming under->N5
open PySem.Heap.Ns1 renaming of_empty->OS
set_option Elab.async false
set_option linter.all false
set_option maxRecDepth 100000
namespace L2
open PySem PySem.Spec PyProof.Rows
noncomputable abbrev Key:=Sum Int Str
noncomputable def ni:Key->η->Bool
 | .inl k,v=>Value.isInt k v
 | .inr x,v=>Value.isStrOf x v
noncomputable def G5 (w:ID):Key->Int
 | .inl k=>hashInt k
 | .inr x=>hashStr w x
theorem cw:∀ {k:Key} {v:η},ni k v=true->(∃ i t,k=Mu i/\v=MD i t)\/(∃ x t,k=Bm x/\v=K0 x t)
 | .inl i,v,h=>by
  obtain ⟨t,e⟩:=Value.isInt_shape (k:=i) (v:=v) h;exact .inl ⟨i,t,rfl,e⟩
 | .inr x,v,h=>by
  obtain ⟨t,e⟩:=Value.isStrOf_shape (x:=x) (v:=v) h;exact .inr ⟨x,t,rfl,e⟩
theorem yz (i:Int) (t:Om):ni (.inl i) (.int i t)=true:=by simp [ni,Value.isInt]
theorem yB (x:Str) (t:Om):ni (.inr x) (.str x t)=true:=by simp [ni,Value.isStrOf]
theorem Ew (a b:Int):decide ((Mu a:Key)=Mu b)=(a==b):=by
 by_cases e:a=b
 ·subst e; simp
 ·have h:¬ (Mu a:Key)=Mu b:=fun q=>e (Sum.inl.inj q);rw [decide_eq_false h];exact (beq_eq_false_iff_ne.mpr e).symm
theorem Ez (a b:Str):decide ((Bm a:Key)=Bm b)=decide (a=b):=by
 by_cases e:a=b
 ·subst e; simp
 ·have h:¬ (Bm a:Key)=Bm b:=fun q=>e (Sum.inr.inj q);rw [decide_eq_false h,decide_eq_false e]
theorem Ex (a:Int) (b:Str):decide ((Mu a:Key)=Bm b)=false:=decide_eq_false (fun q=>nomatch q)
theorem Ey (a:Str) (b:Int):decide ((Bm a:Key)=Mu b)=false:=decide_eq_false (fun q=>nomatch q)
noncomputable def cL (prog:HS) (w:ID):PySem.KeyKind prog w Key where
 is:=ni
 hash:=G5 w
 inj:=fun v a b ha hb=>by
  rcases cw ha with ⟨i,t,rfl,rfl⟩ | ⟨x,t,rfl,rfl⟩
  ·rcases cw hb with ⟨j,u,rfl,e⟩ | ⟨y,u,rfl,e⟩
   ·injection e with e1 _; rw [e1]
   ·exact nomatch e
  ·rcases cw hb with ⟨j,u,rfl,e⟩ | ⟨y,u,rfl,e⟩
   ·exact nomatch e
   ·injection e with e1 _; rw [e1]
 byValue:=fun k v h=>by
  rcases cw h with ⟨i,t,rfl,rfl⟩ | ⟨x,t,rfl,rfl⟩<;>rfl
 pyHash:=fun hv h=>by
  rcases cw hv with ⟨i,t,rfl,rfl⟩ | ⟨x,t,rfl,rfl⟩
  ·exact wpAny_pyHash_int h
  ·exact wpAny_pyHash_str h
 eqBool:=fun hu hv h=>by
  rcases cw hu with ⟨i,t,rfl,rfl⟩ | ⟨x,t,rfl,rfl⟩
  ·rcases cw hv with ⟨j,u,rfl,rfl⟩ | ⟨y,u,rfl,rfl⟩
   ·rw [Ew] at h; exact wpAny_eqBool_int h
   ·rw [Ex] at h; exact SeqAt.EqAt.int_str i t y u _ _ _ _ h
  ·rcases cw hv with ⟨j,u,rfl,rfl⟩ | ⟨y,u,rfl,rfl⟩
   ·rw [Ey] at h; exact SeqAt.EqAt.str_int x t j u _ _ _ _ h
   ·rw [Ez] at h; exact wpAny_eqBool_str h
 «strs»:=fun k x t v h=>by
  rcases cw h with ⟨i,u,rfl,e⟩ | ⟨y,u,rfl,e⟩
  ·exact nomatch e
  ·injection e with e1 _;subst e1
   cases v<;>rfl
theorem uJ (prog:HS) (w:ID) (i:Int) (t:Om):(cL prog w).is (.inl i) (.int i t)=true:=yz i t
theorem uK (prog:HS) (w:ID) (x:Str) (t:Om):(cL prog w).is (.inr x) (.str x t)=true:=yB x t
inductive V where
 | non | bl (b:Bool) | int (i:Int) | str (x:Str) | byt (b:Array UInt8) | flt (b:UInt64) | ref (a:ς) | ty (n:String)
 deriving DecidableEq
def bF:V->η->Prop
 | .non,u=>u=Il
 | .bl b,u=>u=Li b
 | .int i,u=>∃ t,u=MD i t
 | .str x,u=>∃ t,u=K0 x t
 | .byt b,u=>∃ t,u=Value.bytes b t
 | .flt b,u=>∃ t,u=OM b t
 | .ref a,u=>u=Bl a
 | .ty n,u=>u=MQ n
abbrev bq:List V->List η->Prop:=Paired bF
theorem bq.length {xs:List V} {us:List η} (r:bq xs us):xs.length=us.length:=Paired.length r
theorem bq.get:∀ {xs:List V} {us:List η} {i:Nat} {x:V},bq xs us->xs[i]?=some x->∃ u,us[i]?=some u/\bF x u
 | _,_,_,_,.nil,e=>by simp at e
 | _,_,0,_,.cons r _,e=>by simp at e; subst e; exact ⟨_,rfl,r⟩
 | _,_,i+1,x,.cons _ t,e=>by
  obtain ⟨u,h1,h2⟩:=bq.get (i:=i) (x:=x) t (by simpa using e);exact ⟨u,by simpa using h1,h2⟩
theorem bq.set {x:V} {u:η} (r:bF x u):∀ {xs:List V} {us:List η} (i:Nat),bq xs us->bq (xs.set i x) (us.set i u)
 | _,_,_,.nil=>.nil
 | _,_,0,.cons _ t=>.cons r t
 | _,_,i+1,.cons q t=>.cons q (bq.set r i t)
theorem bq.append:∀ {xs ys:List V} {us ws:List η},bq xs us->bq ys ws->bq (xs++ys) (us++ws)
 | _,_,_,_,.nil,s=>s
 | _,_,_,_,.cons r t,s=>.cons r (bq.append t s)
theorem bq.take:∀ {xs:List V} {us:List η} (n:Nat),bq xs us->bq (xs.take n) (us.take n)
 | _,_,0,_=>.nil
 | _,_,_+1,.nil=>.nil
 | _,_,n+1,.cons r t=>.cons r (bq.take n t)
theorem bq.drop:∀ {xs:List V} {us:List η} (n:Nat),bq xs us->bq (xs.drop n) (us.drop n)
 | _,_,0,r=>r
 | _,_,_+1,.nil=>.nil
 | _,_,n+1,.cons _ t=>bq.drop n t
def gz:Option V->Option η->Prop
 | some v,some u=>bF v u
 | none,none=>True
 | _,_=>False
def KV {κ:Type}:List (κ×V)->List (κ×η)->Prop:=Paired fun (p:κ×V) (q:κ×η)=>p.1=q.1/\bF p.2 q.2
noncomputable def kV:Key->V
 | .inl i=>.int i
 | .inr x=>.str x
inductive HO where
 | lst (xs:List V)
 | tup (xs:List V)
 | dK (kvs:List (Key×V)) | dT (kvs:List (List Key×V))
 | set (S:Int->Bool) (n:Nat)
 | ins (C dx:ς) (fs:List (Str×V))
 | own (x:ς)
 | xd (fs:List (Str×V))
 | met (f x:ς)
 | rng (lo hi:Int)
 | frz (o:Iz) (u:HO)
 | tbl (ps:Array η)
 | ext (φ:IC->Prop)
noncomputable abbrev Hp:=ς->Option HO
noncomputable def upd (H:Hp) (a:ς) (o:HO):Hp:=fun b=>if b=a then some o else H b
theorem af {H:Hp} {a:ς} {o:HO}:upd H a o a=some o:=by unfold upd; rw [if_pos rfl]
theorem aE {H:Hp} {a b:ς} {o:HO} (h:b≠a):upd H a o b=H b:=by unfold upd; rw [if_neg h]
theorem mP {H:Hp} {a:ς} {o u:HO}:upd (upd H a o) a u=upd H a u:=by
 funext b; unfold upd; split<;>rfl
theorem iD {H:Hp} {a b:ς} {o u:HO} (h:H a=some o) (h':H b=some u) (d:o≠u):a≠b:=by
 intro e; subst e; rw [h] at h'; exact d (IT h')
theorem cj {H:Hp} {a b:ς} {o:HO} (h:H a=some o) (h':H b=none):a≠b:=by
 intro e; subst e; rw [h] at h'; cases h'
section
variable (P:HS) (w:ID)
def bP (H:Hp) (h:IC) (a:ς):HO->Prop
  | .lst xs => xs.length <= BC /\ ∃ (its : List η) (n : Nat), bq xs its /\ h.get? a = some { cls := .type "list", data := .seq its.toArray n }
  | .tup xs => xs.length <= BC /\ ∃ its : List η, bq xs its /\ IsTup h a its.toArray
  | .dK kvs => kvs.length <= BC /\ (a == KD) = false /\ ∃ vs, KV kvs vs /\ h.DictOf (cL P w) a vs
  | .dT kvs => kvs.length <= BC /\ (a == KD) = false /\ ∃ xs : List (List Key × ς × η),
      Paired (fun (p:List Key×V) (q:List Key×ς×η)=>p.1=q.1/\H q.2.1=some (.tup (p.1.map kV))/\bF p.2 q.2.2) kvs xs /\
      ∃ o es ep,h.get? a=some o/\o.ExactDict/\o.data=.dict es ep/\es.toList=xs.map (entryOfKey (Nj (cL P w)))/\(xs.map (·.1)).Nodup
  | .set S n => h.SetOf (intKind P w) a S n
  | .ins C dx fs => H dx = some (.own a) /\ fs.length <= 1000 /\ dx ≠ a /\ h.get? a = some (LF C dx) /\
      ∃ mA,h.Ns1 dx mA/\(∀ f,gz (fs.lookup f) (mA f))/\Lk mA (fs.map (·.1))
  | .own _ => ∃ o, h.get? a = some o
  | .xd fs => ∃ mA, h.Ns1 a mA /\ ∀ f, gz (fs.lookup f) (mA f)
  | .rng lo hi => ∃ t u v, h.get? a = some { cls := .type "range", data := .fields #[.int lo t, .int hi u, .int 1 v] }
  | .frz o u => h.get? a = some o /\ bP H h a u
  | .tbl ps => h.get? a = some { cls := .none, data := .fields ps }
  | .met f x => h.get? a = some (W.methodObj (.ref f) (.ref x))
  | .ext φ => φ h /\ (∃ o, h.get? a = some o) /\ ∀ h1 h2 : IC, φ h1 -> (∀ o, h1.get? a = some o -> h2.get? a = some o) -> φ h2
def HOk (H:Hp) (h:IC):Prop:=∀ a o,H a=some o->bP P w H h a o
end
section
variable {P:HS} {w:ID} {H H':Hp} {h h':IC} {a:ς} {o:HO}
theorem bP.lt (x:bP P w H h a o):a<h.objs.size:=by
 cases o with
 | lst xs=>obtain ⟨_,_,_,_,e⟩:=x; exact BE e
 | tup xs=>obtain ⟨_,_,_,p⟩:=x; exact p.lt
 | dK kvs=>obtain ⟨_,_,_,_,o,_,_,e,_⟩:=x; exact BE e
 | dT kvs=>obtain ⟨_,_,_,_,o,_,_,e,_⟩:=x; exact BE e
 | set S n=>obtain ⟨o,_,_,_,e,_⟩:=x; exact BE e
 | ins C dx fs=>obtain ⟨_,_,_,e,_⟩:=x; exact BE e
 | own y=>obtain ⟨_,e⟩:=x; exact BE e
 | xd fs=>obtain ⟨_,⟨_,_,_,e,_⟩,_⟩:=x; exact BE e
 | rng lo hi=>obtain ⟨_,_,_,e⟩:=x; exact BE e
 | frz ob u=>obtain ⟨e,_⟩:=x; exact BE e
 | tbl ps=>exact BE (show h.get? a=some _ from x)
 | met f y=>exact BE (show h.get? a=some _ from x)
 | ext φ=>obtain ⟨_,⟨_,e⟩,_⟩:=x; exact BE e
theorem Paired.mapP {α β:Type} {F G:α->β->Prop}:∀ {l₁:List α} {l₂:List β},Paired F l₁ l₂->(∀ a b,F a b->G a b)->Paired G l₁ l₂
 | _,_,.nil,_=>.nil
 | _,_,.cons r t,f=>.cons (f _ _ r) (Paired.mapP t f)
theorem bP.stay (x:bP P w H h a o) (k:∀ b u,(b=a\/H b=some (.own a))->h.get? b=some u->h'.get? b=some u)
  (ho:∀ b,H b=some (.own a)->H' b=some (.own a)) (ht:∀ b xs,H b=some (.tup xs)->H' b=some (.tup xs)):bP P w H' h' a o:=by
 induction o with
 | lst xs=>obtain ⟨z,its,n,r,e⟩:=x; exact ⟨z,its,n,r,k _ _ (.inl rfl) e⟩
 | tup xs=>obtain ⟨z,its,r,ob,e,c⟩:=x; exact ⟨z,its,r,ob,k _ _ (.inl rfl) e,c⟩
 | dK kvs=>obtain ⟨z,y,vs,r,ob,es,ep,e,c⟩:=x; exact ⟨z,y,vs,r,ob,es,ep,k _ _ (.inl rfl) e,c⟩
 | dT kvs =>
  obtain ⟨z,y,xs,r,ob,es,ep,e,c⟩:=x;exact ⟨z,y,xs,Paired.mapP r fun p q z=>⟨z.1,ht _ _ z.2.1,z.2.2⟩,ob,es,ep,k _ _ (.inl rfl) e,c⟩
 | set S n=>obtain ⟨ob,es,ep,t,e,c⟩:=x; exact ⟨ob,es,ep,t,k _ _ (.inl rfl) e,c⟩
 | ins C dx fs =>
  obtain ⟨d,z,ne,e,mA,⟨od,es,ep,e2,c⟩,r⟩:=x;exact ⟨ho _ d,z,ne,k _ _ (.inl rfl) e,mA,⟨od,es,ep,k _ _ (.inr d) e2,c⟩,r⟩
 | own y=>obtain ⟨ob,e⟩:=x; exact ⟨ob,k _ _ (.inl rfl) e⟩
 | xd fs=>obtain ⟨mA,⟨od,es,ep,e,c⟩,r⟩:=x; exact ⟨mA,⟨od,es,ep,k _ _ (.inl rfl) e,c⟩,r⟩
 | rng lo hi=>obtain ⟨t,u,v,e⟩:=x; exact ⟨t,u,v,k _ _ (.inl rfl) e⟩
 | frz ob u ih=>obtain ⟨e,q⟩:=x; exact ⟨k _ _ (.inl rfl) e,ih q⟩
 | tbl ps =>
  have e:h.get? a=some { cls:=.none,data:=.fields ps }:=x
  show h'.get? a=some { cls:=.none,data:=.fields ps }
  exact k a _ (.inl rfl) e
 | met f y =>
  have e:h.get? a=some (W.methodObj (.ref f) (.ref y)):=x
  show h'.get? a=some (W.methodObj (.ref f) (.ref y))
  exact k a _ (.inl rfl) e
 | ext φ=>obtain ⟨p,⟨o,e⟩,st⟩:=x; exact ⟨st _ _ p fun o q=>k _ _ (.inl rfl) q,⟨o,k _ _ (.inl rfl) e⟩,st⟩
theorem HOk.lt (x:HOk P w H h) (e:H a=some o):a<h.objs.size:=(x a o e).lt
theorem HOk.fresh (x:HOk P w H h) (e:h.objs.size<=a):H a=none:=by
 cases q:H a with
 | none=>rfl
 | some u=>exact absurd (Ht (x.lt q) e) (KJ _)
theorem HOk.kept (x:HOk P w H h) (k:∀ b u,h.get? b=some u->h'.get? b=some u):HOk P w H h':=fun a o e =>
 (x a o e).stay (fun b u _ q=>k b u q) (fun _ q=>q) fun _ _ q=>q
theorem HOk.laid (x:HOk P w H h) (k:∀ b u,h.get? b=some u->h'.get? b=some u) (hp:h.objs.size<=a) (new:bP P w (upd H a o) h' a o):HOk P w (upd H a o) h':=fun b u e=>by
 have hn:=x.fresh hp;by_cases hb:b=a
 ·subst hb; rw [af] at e; cases e; exact new
 ·rw [aE hb] at e;exact (x b u e).stay (fun c v _ q=>k c v q) (fun c q=>by rw [aE (cj q hn)]; exact q) fun c xs q=>by rw [aE (cj q hn)]; exact q
end
def Rd (H:Hp) (a:ς) (u:HO):Prop:=H a=some u\/∃ o,H a=some (.frz o u)
theorem Rd.ok {P:HS} {w:ID} {H:Hp} {h:IC} {a:ς} {u:HO} (r:Rd H a u) (x:HOk P w H h):bP P w H h a u:=by
 rcases r with r | ⟨o,r⟩
 ·exact x a u r
 ·obtain ⟨_,q⟩:=x a _ r;exact q
def Mut:Option HO->Prop
 | some (.lst _)=>True
 | some (.dK _)=>True
 | some (.dT _)=>True
 | some (.set _ _)=>True
 | some (.ins _ _ _)=>True
 | some (.ext _)=>True
 | _=>False
section
variable {P:HS} {w:ID} {H:Hp} {h h':IC} {x e:ς} {o':HO}
theorem HOk.write (ok:HOk P w H h) (mu:Mut (H x)) (he:e=x\/H e=some (.own x)) (k:∀ b u,b≠e->h.get? b=some u->h'.get? b=some u) (heo:∃ u,h'.get? e=some u)
    (new:bP P w (upd H x o') h' x o'):HOk P w (upd H x o') h':=fun b u q=>by
  have nown:∀ c y,H c=some (.own y)->c≠x:=fun c y r z=>by subst z; rw [r] at mu; exact mu
  have ntup:∀ c xs,H c=some (.tup xs)->c≠x:=fun c xs r z=>by subst z; rw [r] at mu; exact mu
  by_cases hb:b=x
  · subst hb; rw [af] at q; cases q; exact new
  · rw [aE hb] at q
    by_cases hbe:b=e
    · have q':H b=some (.own x):=by
        rcases he with z | z
        · exact absurd (hbe.trans z) hb
        · rw [hbe]; exact z
      rw [q] at q'; cases q';obtain ⟨v,hv⟩:=heo;exact ⟨v,by rw [hbe]; exact hv⟩
    · refine (ok b u q).stay (fun c v hc r=>k c v ?_ r) (fun c r=>by rw [aE (nown c b r)]; exact r) fun c xs r=>by rw [aE (ntup c xs r)]; exact r
      rcases hc with rfl | hc
      · exact hbe
      · rintro rfl
        rcases he with z | z
        · exact nown c b hc z
        · rw [hc] at z; cases z; exact hb rfl
end
structure Un (fs ex:List ς) (H H':Hp) (h h':IC):Prop where
 keep:∀ b o,h.get? b=some o->H b=none->b∉fs->b∉ex->h'.get? b=some o
 slot:∀ b o,h.get? b=some o->H b=none->b∈fs->b∉ex->∃ sl,h'.get? b=some { o with slots:=sl }
 free:∀ b o,h.get? b=some o->H b=none->b∉ex->H' b=none
 there:∀ b o,h.get? b=some o->b∉ex->∃ o',h'.get? b=some o'
 tups:∀ b xs,H b=some (.tup xs)->H' b=some (.tup xs)
 frzs:∀ b o u,H b=some (.frz o u)->H' b=some (.frz o u)
 tbls:∀ b ps,H b=some (.tbl ps)->∃ more,H' b=some (.tbl (ps++more))
section
variable {fs fs' ex ex':List ς} {H H1 H2:Hp} {h h1 h2 h':IC} {a x e:ς} {o:HO}
theorem Un.any (u:Un fs ex H H1 h h1) {b:ς} {ob:Iz} (q:h.get? b=some ob) (n:H b=none) (hx:b∉ex):∃ sl,h1.get? b=some { ob with slots:=sl }:=by
 by_cases hb:b∈fs
 ·exact u.slot b ob q n hb hx
 ·exact ⟨ob.slots,u.keep b ob q n hb hx⟩
theorem Un.kept (k:∀ b u,h.get? b=some u->h'.get? b=some u):Un fs ex H H h h' :=
 ⟨fun b ob q _ _ _=>k b ob q,fun b ob q _ _ _=>⟨ob.slots,k b ob q⟩,fun _ _ _ n _=>n,fun b ob q _=>⟨ob,k b ob q⟩,fun _ _ q=>q,fun _ _ _ q=>q,fun _ ps q=>⟨#[],by rw [q]; simp⟩⟩
theorem Un.refl:Un fs ex H H h h:=Un.kept fun _ _ q=>q
theorem Un.laid (k:∀ b u,h.get? b=some u->h'.get? b=some u) (hp:h.objs.size<=a) (hn:H a=none):Un fs ex H (upd H a o) h h' where
 keep:=fun b u q _ _ _=>k b u q
 slot:=fun b u q _ _ _=>⟨u.slots,k b u q⟩
 free:=fun b u q n _=>by rw [aE (Hi (Ht (BE q) hp))]; exact n
 there:=fun b u q _=>⟨u,k b u q⟩
 tups:=fun b xs q=>by rw [aE (cj q hn)]; exact q
 frzs:=fun b u xs q=>by rw [aE (cj q hn)]; exact q
 tbls:=fun b ps q=>⟨#[],by rw [aE (cj q hn),q]; simp⟩
theorem Un.write (mu:Mut (H x)) (he:e=x\/H e=some (.own x)) (k:∀ b u,b≠e->h.get? b=some u->h'.get? b=some u) (heo:∃ u,h'.get? e=some u):Un fs ex H (upd H x o) h h':=by
 have hx:∀ b,H b=none->b≠x:=fun b n z=>by subst z; rw [n] at mu; exact mu
 have hb:∀ b,H b=none->b≠e:=fun b n z=>by
  subst z;rcases he with r | r
  ·exact hx b n r
  ·rw [n] at r; cases r
 have hm:∀ b u,H b=some u->¬ Mut (some u)->b≠x:=fun b u q nm z=>by subst z; rw [q] at mu; exact nm mu
 refine ⟨fun b u q n _ _=>k b u (hb b n) q,fun b u q n _ _=>⟨u.slots,k b u (hb b n) q⟩,fun b u q n _=>by rw [aE (hx b n)]; exact n,fun b u q _=>?_,
  fun b xs q=>by rw [aE (hm b _ q fun z=>z)]; exact q,fun b u xs q=>by rw [aE (hm b _ q fun z=>z)]; exact q,fun b ps q=>⟨#[],by rw [aE (hm b _ q fun z=>z),q]; simp⟩⟩
 by_cases hbe:b=e
 ·subst hbe; exact heo
 ·exact ⟨u,k b u hbe q⟩
end
noncomputable def trk (h:IC) (H:Hp):List Addr:=(Io h.objs.size).filter fun a=>(H a).isSome
noncomputable def qY (h:IC) (H:Hp):Heap:=Im h (trk h H)
theorem yr (h:IC) (H:Hp):(qY h H).objs.size=h.objs.size:=W.hideAll_size _ _
theorem Ag {h:IC} {H:Hp} {b:ς} {o:Iz} (e:h.get? b=some o) (n:H b=none):(qY h H).get? b=some o :=
 Ii _ e fun hm=>by
  have q:(H b).isSome=true:=(Lx.mp hm).2;rw [n] at q; simp at q
theorem Cy {h:IC} {H:Hp} {b:ς} {o:Iz} (e:(qY h H).get? b=some o):h.get? b=some o/\H b=none:=by
 have e':h.get? b=some o:=Jr (trk h H) e;refine ⟨e',?_⟩
 cases q:H b with
 | none=>rfl
 | some x =>
  have hm:b∈trk h H:=Lx.mpr ⟨MF.mpr (BE e'),by simp [q]⟩;have z:(qY h H).get? b=none:=IY (trk h H) hm;rw [z] at e; cases e
noncomputable def Cc (g h:IC) (L:ς):List (ς×Iz):=(Io h.objs.size).filterMap fun a=>if a=L\/(g.get? a).isSome=true then none else (h.get? a).map fun o=>(a,o)
noncomputable def dJ (g h:IC) (L d:ς):List (ς×Iz):=(Cc g h L).filter fun p=>decide (p.1≠d)
structure Mod (K:A_) (mg:Str->Option η) (base:IC):Prop where
 kin:K.In base
 glob:base.Ns JQ mg
 blt:∃ mb,base.Ns builtinsNs mb/\∀ x:Str,x≠"__name__"->mb x=IM x
 nolimit:base.NoLimit
structure Cx where
 prog:HS
 w:ID
 K:A_
 mg:Str->Option η
 base:IC
 A:IA
 N:List Str
 s₀:χ
 H₀:Hp
 env:LU
 outer:List LU
 stack:List LU
 ex:List ς
 fn:Str->Bool
 calm:Bool
 pn:List (ς×Iz)
 xe:η->χ->Prop
noncomputable def frs (l:List LU):List Addr:=l.filterMap (·.frame)
noncomputable abbrev Cx.fs (X:Cx):List Addr:=frs X.outer
def Vis (sc:LG) (x:Str):Prop:=sc.names.lookup x=some .local\/sc.names.lookup x=some .cell\/sc.names.lookup x=some .free
def Loc (sc:LG) (x:Str):Prop:=sc.names.lookup x=some .local\/sc.names.lookup x=some .cell
def GY (env:LU) (h:IC) (m:Str->Option η) (x:Str) (u:η):Prop :=
 (env.kindOf x=some .local/\m x=some u)\/((env.kindOf x=some .cell\/env.kindOf x=some .free)/\∃ c,env.cells.lookup x=some c/\h.IsCell c (some u))
structure Cx.Ok (X:Cx):Prop where
 mod:Mod X.K X.mg X.base
 kind:X.env.scope.kind=.function
 glob:X.env.globals=JQ
 blt:X.env.builtins=builtinsNs
 above:X.s₀.heap.objs.size<=X.env.locals
 inj:∀ x y c,X.env.cells.lookup x=some c->X.env.cells.lookup y=some c->x=y
 has:∀ x,(X.env.kindOf x=some .cell\/X.env.kindOf x=some .free)->∃ c,X.env.cells.lookup x=some c
 cab:∀ x c,X.fn x=true->X.env.cells.lookup x=some c->X.s₀.heap.objs.size<=c
 hd:X.calm=true->X.A.handled=none
 frames:X.A.frames=some X.stack
 stk:X.stack=X.outer\/(X.stack=X.env::X.outer/\X.env.frame=some X.env.locals)
 exf:∀ b∈X.ex,b≠X.env.locals/\∀ x c,X.env.cells.lookup x=some c->c≠b
 bs:∀ b o,X.base.get? b=some o->X.s₀.heap.get? b=some o/\X.H₀ b=none
 bsz:X.base.objs.size<=X.s₀.heap.objs.size
 noex:∀ b o,X.base.get? b=some o->b∉X.ex
 exfs:∀ b∈X.ex,b∉X.fs
 funs:X.s₀.heap.FunFrames X.base X.outer
 frf:∀ b∈X.fs,X.H₀ b=none
structure Inv (X:Cx) (pins:List (ς×Iz)) (σ:List (Option V)) (H:Hp) (s:χ):Prop where
 ok:X.Ok
 os:s.os=X.s₀.os
 bare:LN s.gens
 base:Un X.fs X.ex X.H₀ H X.s₀.heap s.heap
 loc:∃ m,s.heap.Ns X.env.locals m/\∀ (i:Nat) (x:Str) (v:V),X.N[i]?=some x->σ[i]?=some (some v)->Vis X.env.scope x->∃ u,bF v u/\GY X.env s.heap m x u
 cell:∀ x c,X.env.cells.lookup x=some c->∃ v,s.heap.IsCell c v
 free:H X.env.locals=none
 freeC:∀ x c,X.env.cells.lookup x=some c->H c=none
 pin:∀ p∈X.pn++pins,s.heap.get? p.1=some p.2/\H p.1=none/\p.1≠X.env.locals/\p.1∉X.fs/\∀ v,p.2.data≠.cell v
 hok:HOk X.prog X.w H s.heap
 len:σ.length=X.N.length
section
variable {X:Cx} {pins:List (ς×Iz)} {σ:List (Option V)} {H H':Hp} {s:χ} {h':IC}
theorem Cx.Ok.nofr (ok:X.Ok) {b:ς} {o:Iz} (e:X.base.get? b=some o):b∉X.fs:=fun hb=>by
 have:=(ok.funs.mem hb).1
 rw [e] at this; cases this
theorem Inv.bs (I:Inv X pins σ H s):∀ b o,X.base.get? b=some o->s.heap.get? b=some o/\H b=none:=fun b o e =>
 ⟨I.base.keep b o (I.ok.bs b o e).1 (I.ok.bs b o e).2 (I.ok.nofr e) (I.ok.noex b o e),I.base.free b o (I.ok.bs b o e).1 (I.ok.bs b o e).2 (I.ok.noex b o e)⟩
theorem Inv.bk (I:Inv X pins σ H s):∀ b o,X.base.get? b=some o->s.heap.get? b=some o:=fun b o e=>(I.bs b o e).1
theorem Inv.mod (I:Inv X pins σ H s):Mod X.K X.mg X.base:=I.ok.mod
theorem Inv.kIn (I:Inv X pins σ H s):X.K.In s.heap:=I.ok.mod.kin.keeps I.bk
theorem Inv.lt (I:Inv X pins σ H s):X.env.locals<s.heap.objs.size:=let ⟨_,hn,_⟩:=I.loc; hn.lt
theorem Inv.sz (I:Inv X pins σ H s):X.s₀.heap.objs.size<=s.heap.objs.size:=BA I.ok.above (Mz I.lt)
theorem Inv.nofs (I:Inv X pins σ H s) {a:ς} (h:s.heap.objs.size<=a):a∉X.fs:=fun hb=>by
 obtain ⟨_,o,ho,_⟩:=I.ok.funs.mem hb;exact absurd (Ht (BE ho) (BA I.sz h)) (KJ _)
theorem Inv.cne (I:Inv X pins σ H s):∀ x c,X.env.cells.lookup x=some c->c≠X.env.locals:=fun x c e z=>by
 obtain ⟨v,o,ho,hd⟩:=I.cell x c e;obtain ⟨m,⟨o',es,ep,ho',hd',_⟩,_⟩:=I.loc;rw [z,ho'] at ho; cases ho; rw [hd'] at hd; cases hd
theorem Inv.funs (I:Inv X pins σ H s):s.heap.FunFrames X.base X.outer:=by
 have all:∀ (l:List LU),(∀ b∈frs l,b∈X.fs)->X.s₀.heap.FunFrames X.base l->s.heap.FunFrames X.base l:=by
  intro l
  induction l with
  | nil => intro _ _; trivial
  | cons env r ih =>
   intro hs hl;obtain ⟨hk,⟨L,o,hf,hn,ho,hd⟩,hr⟩:=hl;have hL:L∈X.fs:=hs L (by unfold frs; rw [KA,hf]; exact Θ);obtain ⟨sl,e⟩:=I.base.slot L o ho (I.ok.frf L hL) hL fun z=>I.ok.exfs L z hL;exact ⟨hk,⟨L,_,hf,hn,e,hd⟩,ih (fun b hb=>hs b (by unfold frs; rw [KA,hf]; exact Au _ hb)) hr⟩
 exact all X.outer (fun _ hb=>hb) I.ok.funs
theorem Inv.stack (I:Inv X pins σ H s):s.heap.FunFrames X.base X.stack:=by
 rcases I.ok.stk with e | ⟨e,hf⟩
 ·rw [e]; exact I.funs
 ·rw [e];obtain ⟨m,hn,_⟩:=I.loc;refine .cons (by rw [I.ok.kind]; decide) hf hn ?_ I.funs;exact MI (BA I.ok.bsz I.ok.above)
theorem Inv.stkSub (I:Inv X pins σ H s):∀ b∈frs X.stack,b∈X.env.locals::X.fs:=fun b hb=>by
 rcases I.ok.stk with e | ⟨e,hf⟩
 ·rw [e] at hb; exact Au _ hb
 ·rw [e] at hb;unfold frs at hb;rw [KA,hf] at hb;exact hb
theorem Inv.stkFree (I:Inv X pins σ H s):∀ b∈frs X.stack,H b=none:=fun b hb=>by
 rcases Ξ.mp (I.stkSub b hb) with e | hb
 ·rw [e]; exact I.free
 ·obtain ⟨_,o,ho,_⟩:=I.ok.funs.mem hb;exact I.base.free b o ho (I.ok.frf b hb) fun z=>I.ok.exfs b z hb
theorem Inv.step {g':Array GenState} {t':Nat} {d':Drawn} {ch:List ς} (I:Inv X pins σ H s)
  (hch:∀ b∈ch,(b∈X.ex\/X.s₀.heap.objs.size<=b)/\b≠X.env.locals/\(∀ x c,X.env.cells.lookup x=some c->c≠b)/\∀ p∈X.pn++pins,p.1≠b)
  (keep:∀ b o,b≠X.env.locals->b∉X.fs->b∉ch->s.heap.get? b=some o->H b=none->h'.get? b=some o)
  (slot:∀ b o,b≠X.env.locals->b∈X.fs->b∉ch->s.heap.get? b=some o->H b=none->∃ sl,h'.get? b=some { o with slots:=sl }) (free:∀ b o,b∉ch->s.heap.get? b=some o->H b=none->H' b=none)
  (there:∀ b o,b∉ch->s.heap.get? b=some o->∃ o',h'.get? b=some o')
  (tups:∀ b xs,H b=some (.tup xs)->H' b=some (.tup xs)) (frzs:∀ b o u,H b=some (.frz o u)->H' b=some (.frz o u)) (tbls:∀ b ps,H b=some (.tbl ps)->∃ more,H' b=some (.tbl (ps++more)))
  (ns:∀ m,s.heap.Ns X.env.locals m->h'.Ns X.env.locals m) (hok:HOk X.prog X.w H' h') (hg:LN g') :
  Inv X pins σ H' { s with heap:=h',gens:=g',drawn:=d',toks:=t' }:=by
 have neL:∀ b o,X.s₀.heap.get? b=some o->b≠X.env.locals:=fun b o e=>Hi (Ht (BE e) I.ok.above);have neC:∀ b o,X.s₀.heap.get? b=some o->b∉X.ex->b∉ch:=fun b o e hx hb=>by
  rcases (hch b hb).1 with z | z
  ·exact hx z
  ·exact absurd (Ht (BE e) z) (KJ _)
 have cellK:∀ x c,X.env.cells.lookup x=some c->∀ v,s.heap.IsCell c v->h'.IsCell c v:=fun x c e v ⟨o,ho,hd⟩=>by
  have nch:c∉ch:=fun z=>(hch c z).2.2.1 x c e rfl;by_cases hc:c∈X.fs
  ·obtain ⟨sl,q⟩:=slot c o (I.cne x c e) hc nch ho (I.freeC x c e);exact ⟨_,q,hd⟩
  ·exact ⟨o,keep c o (I.cne x c e) hc nch ho (I.freeC x c e),hd⟩
 refine ⟨I.ok,I.os,hg,⟨fun b o e n hb hx=>?_,fun b o e n hb hx=>?_,fun b o e n hx=>?_,fun b o e hx=>?_,fun b xs e=>tups b xs (I.base.tups b xs e),fun b o xs e=>frzs b o xs (I.base.frzs b o xs e),fun b ps e=>?_⟩,?_,fun x c e=>?_,?_,fun x c e=>?_,fun p hp=>?_,hok,I.len⟩
 ·exact keep b o (neL b o e) hb (neC b o e hx) (I.base.keep b o e n hb hx) (I.base.free b o e n hx)
 ·obtain ⟨sl,e1⟩:=I.base.slot b o e n hb hx;obtain ⟨sl',e2⟩:=slot b _ (neL b o e) hb (neC b o e hx) e1 (I.base.free b o e n hx);exact ⟨sl',e2⟩
 ·obtain ⟨o',e1⟩:=I.base.there b o e hx;exact free b o' (neC b o e hx) e1 (I.base.free b o e n hx)
 ·obtain ⟨o',e1⟩:=I.base.there b o e hx;exact there b o' (neC b o e hx) e1
 ·obtain ⟨m1,e1⟩:=I.base.tbls b ps e;obtain ⟨m2,e2⟩:=tbls b _ e1;exact ⟨m1++m2,by rw [e2,Array.append_assoc]⟩
 ·obtain ⟨m,hn,hl⟩:=I.loc;refine ⟨m,ns m hn,fun i x v e1 e2 e3=>?_⟩;obtain ⟨u,r,l⟩:=hl i x v e1 e2 e3;refine ⟨u,r,?_⟩;rcases l with l | ⟨k,c,e,z⟩
  ·exact .inl l
  ·exact .inr ⟨k,c,e,cellK x c e _ z⟩
 ·obtain ⟨v,z⟩:=I.cell x c e;exact ⟨v,cellK x c e v z⟩
 ·obtain ⟨m,⟨o,_,_,ho,_⟩,_⟩:=I.loc;exact free _ o (fun z=>(hch _ z).2.1 rfl) ho I.free
 ·obtain ⟨v,o,ho,hd⟩:=I.cell x c e;exact free c o (fun z=>(hch c z).2.2.1 x c e rfl) ho (I.freeC x c e)
 ·obtain ⟨e,n,ne,nf,d⟩:=I.pin p hp;have nch:p.1∉ch:=fun z=>(hch p.1 z).2.2.2 p hp rfl;exact ⟨keep p.1 p.2 ne nf nch e n,free p.1 p.2 nch e n,ne,nf,d⟩
theorem Inv.un {t':Nat} (I:Inv X pins σ H s) (u:Un X.fs [] H H' s.heap h') (hok:HOk X.prog X.w H' h'):Inv X pins σ H' { s with heap:=h',toks:=t' }:=by
 obtain ⟨m,⟨o,es,ep,ho,r⟩,_⟩:=id I.loc;obtain ⟨sl,hL⟩:=u.any ho I.free (by simp);exact I.step (g':=s.gens) (d':=s.drawn) (ch:=[]) (fun _ z=>nomatch z) (fun b o _ hb _ e n=>u.keep b o e n hb (by simp)) (fun b o _ hb _ e n=>u.slot b o e n hb (by simp)) (fun b o _ e n=>u.free b o e n (by simp)) (fun b o _ e=>u.there b o e (by simp)) u.tups u.frzs u.tbls (fun m' hm=>by
  obtain ⟨o',es',ep',ho',r'⟩:=hm;rw [ho] at ho'; cases ho';exact ⟨_,es',ep',hL,r'⟩) hok I.bare
theorem Inv.call {g':Array GenState} {t':Nat} {d':Drawn} {ch:List ς} (I:Inv X pins σ H s) (u:Un (frs X.stack) ch H H' s.heap h') (hok:HOk X.prog X.w H' h') (hg:LN g')
  (hch:∀ b∈ch,(b∈X.ex\/X.s₀.heap.objs.size<=b)/\b≠X.env.locals/\(∀ x c,X.env.cells.lookup x=some c->c≠b)/\∀ p∈X.pn++pins,p.1≠b) :
  Inv X pins σ H' { s with heap:=h',gens:=g',drawn:=d',toks:=t' }:=by
 obtain ⟨m,⟨o,es,ep,ho,r⟩,_⟩:=id I.loc;obtain ⟨sl,hL⟩:=u.any ho I.free fun z=>(hch _ z).2.1 rfl;exact I.step (ch:=ch) hch (fun b o hL hb hc e n=>u.keep b o e n (fun z=>(Ξ.mp (I.stkSub b z)).elim hL hb) hc) (fun b o _ _ hc e n=>u.any e n hc) (fun b o hc e n=>u.free b o e n hc) (fun b o hc e=>u.there b o e hc) u.tups u.frzs u.tbls (fun m' hm=>by
  obtain ⟨o',es',ep',ho',r'⟩:=hm;rw [ho] at ho'; cases ho';exact ⟨_,es',ep',hL,r'⟩) hok hg
theorem Inv.turned {t':Nat} {it:ς} (I:Inv X pins σ H s) (k:∀ b o,b≠it->s.heap.get? b=some o->h'.get? b=some o) (hn:H it=none) (hL:it≠X.env.locals)
  (h1:it∈X.ex\/X.s₀.heap.objs.size<=it) (h2:∀ x c,X.env.cells.lookup x=some c->c≠it) (h3:∀ p∈X.pn++pins,p.1≠it):Inv X pins σ H { s with heap:=h',toks:=t' }:=by
 have nit:∀ b u,H b=some u->b≠it:=fun b u e z=>by rw [z,hn] at e; cases e
 refine I.step (g':=s.gens) (d':=s.drawn) (ch:=[it]) (fun b hb=>?_) (fun b o _ _ hc e _=>k b o (fun z=>hc (by simp [z])) e) (fun b o _ _ hc e _=>⟨o.slots,k b o (fun z=>hc (by simp [z])) e⟩) (fun _ _ _ _ n=>n)
  (fun b o hc e=>⟨o,k b o (fun z=>hc (by simp [z])) e⟩) (fun _ _ e=>e) (fun _ _ _ e=>e) (fun b ps e=>⟨#[],by rw [e]; simp⟩) (fun m hm=>?_) (fun b u e=>?_) I.bare
 ·have e:b=it:=by simpa using hb
  subst e;exact ⟨h1,hL,h2,h3⟩
 ·obtain ⟨o,es,ep,ho,r⟩:=hm;exact ⟨o,es,ep,k _ o (IL hL) ho,r⟩
 ·refine (I.hok b u e).stay (fun c v hc q=>k c v ?_ q) (fun _ q=>q) fun _ _ q=>q;rcases hc with z | z
  ·rw [z]; exact nit b u e
  ·exact nit c _ z
theorem Inv.tok (I:Inv X pins σ H s) (t:Nat):Inv X pins σ H { s with toks:=t }:=I.un (h':=s.heap) (t':=t) Un.refl I.hok
theorem Inv.kept {t':Nat} (I:Inv X pins σ H s) (k:∀ b u,s.heap.get? b=some u->h'.get? b=some u):Inv X pins σ H { s with heap:=h',toks:=t' }:=I.un (Un.kept k) (I.hok.kept k)
theorem Inv.laid {a:ς} {o:HO} {t':Nat} (I:Inv X pins σ H s) (k:∀ b u,s.heap.get? b=some u->h'.get? b=some u) (hp:s.heap.objs.size<=a) (new:bP X.prog X.w (upd H a o) h' a o) :
  Inv X pins σ (upd H a o) { s with heap:=h',toks:=t' }:=I.un (Un.laid k hp (I.hok.fresh hp)) (I.hok.laid k hp new)
theorem Inv.write {x e:ς} {o:HO} {t':Nat} (I:Inv X pins σ H s) (mu:Mut (H x)) (he:e=x\/H e=some (.own x)) (k:∀ b u,b≠e->s.heap.get? b=some u->h'.get? b=some u) (heo:∃ u,h'.get? e=some u)
  (new:bP X.prog X.w (upd H x o) h' x o):Inv X pins σ (upd H x o) { s with heap:=h',toks:=t' }:=I.un (Un.write mu he k heo) (I.hok.write mu he k heo new)
theorem Inv.pins_of {pins':List (ς×Iz)} (I:Inv X pins σ H s) (h:∀ p∈pins',s.heap.get? p.1=some p.2/\H p.1=none/\p.1≠X.env.locals/\p.1∉X.fs/\∀ v,p.2.data≠.cell v):Inv X pins' σ H s :=
 ⟨I.ok,I.os,I.bare,I.base,I.loc,I.cell,I.free,I.freeC,fun p hp=>(Hj.mp hp).elim (fun z=>I.pin p (Ji _ z)) (h p),I.hok,I.len⟩
theorem nD {N:List Str} (hN:N.Nodup) {i j:Nat} {x:Str} (a:N[i]?=some x) (b:N[j]?=some x):i=j:=by
 obtain ⟨h1,e1⟩:=F_.mp a;obtain ⟨h2,e2⟩:=F_.mp b;exact (List.getElem_inj hN).mp (e1.trans e2.symm)
theorem zk {M:MN} {A:IA} {E:η->χ->Prop} {i:Nat} {x:Str} {v:V} {u:η} {Q:Unit->χ->Prop} (I:Inv X pins σ H s) (hN:X.N.Nodup) (hi:X.N[i]?=some x) (hx:Loc X.env.scope x) (r:bF v u)
    (h:∀ s',Inv X pins (σ.set i (some v)) H s'->(∃ a,Jj a s.heap s'.heap/\(a=X.env.locals\/X.env.cells.lookup x=some a))->Q () s') (hf:X.fn x=true\/X.env.scope.names.lookup x=some .local:=by first | exact .inl rfl | exact .inr rfl | assumption):BG M A (storeName X.env x u) Q E s:=by
  obtain ⟨m,hn,hl⟩:=id I.loc;have hcls:(X.env.scope.kind==.class||(X.env.scope.kind==.module&&X.env.locals != X.env.globals))=false:=by rw [I.ok.kind]; rfl
  have hiσ:i<σ.length:=by rw [I.len]; exact (F_.mp hi).1
  have cne:=I.cne;have tracked:∀ {a:ς} {h':IC},(∃ o,s.heap.get? a=some o/\H a=none)->Jj a s.heap h'->HOk X.prog X.w H h':=fun {a h'} ha hs b ob e=>by
    obtain ⟨_,_,hfree⟩:=ha;refine (I.hok b ob e).stay (fun c w' hc q=>(hs.2 c ?_).trans q) (fun _ q=>q) fun _ _ q=>q;rintro rfl;rcases hc with rfl | hc
    · rw [hfree] at e; cases e
    · rw [hfree] at hc; cases hc
  rcases hx with hk | hk
  · refine wpAny_storeName_local hk hn (fun h' hn' hs=>?_) hcls
    obtain ⟨oL,_,_,hoL,_⟩:=id hn;refine h _ ⟨I.ok,I.os,I.bare,⟨fun b o e n hb hx=>?_,fun b o e n hb hx=>?_,I.base.free,fun b o e hx=>?_,I.base.tups,I.base.frzs,I.base.tbls⟩,⟨_,hn',fun j y v' e1 e2 e3=>?_⟩,fun y c e=>?_,I.free,I.freeC,fun p hp=>?_,tracked ⟨oL,hoL,I.free⟩ hs,by simpa using I.len⟩ ⟨_,hs,.inl rfl⟩
    · exact (hs.2 b (Hi (Ht (BE e) I.ok.above))).trans (I.base.keep b o e n hb hx)
    · obtain ⟨sl,e1⟩:=I.base.slot b o e n hb hx
      exact ⟨sl,(hs.2 b (Hi (Ht (BE e) I.ok.above))).trans e1⟩
    · obtain ⟨o',e1⟩:=I.base.there b o e hx
      exact ⟨o',(hs.2 b (Hi (Ht (BE e) I.ok.above))).trans e1⟩
    · by_cases hj:j=i
      · subst hj
        rw [hi] at e1; cases e1;rw [KW hiσ] at e2
        cases e2;exact ⟨u,r,.inl ⟨hk,by simp⟩⟩
      · rw [MG (IL hj)] at e2
        obtain ⟨u',r',q⟩:=hl j y v' e1 e2 e3;refine ⟨u',r',?_⟩;rcases q with ⟨k,e⟩ | ⟨k,c,e,z⟩
        · refine .inl ⟨k,?_⟩
          have:y≠x:=fun e=>hj (nD hN e1 (e ▸ hi))
          simp [this,e]
        · exact .inr ⟨k,c,e,z.sameBut hs (cne y c e)⟩
    · obtain ⟨w',z⟩:=I.cell y c e
      exact ⟨w',z.sameBut hs (cne y c e)⟩
    · obtain ⟨e,n,ne,nf,d⟩:=I.pin p hp
      exact ⟨(hs.2 p.1 ne).trans e,n,ne,nf,d⟩
  · have hfn:X.fn x=true:=by
      rcases hf with z | z
      · exact z
      · rw [z] at hk; cases hk
    obtain ⟨c,hc⟩:=I.ok.has x (.inl hk);obtain ⟨w',z⟩:=I.cell x c hc;refine wpAny_storeName_cell I.ok.kind hk hc z (fun h' hc' hs=>?_);obtain ⟨oc,hoc,hocd⟩:=id z;refine h { s with heap:=h' } ⟨I.ok,I.os,I.bare,⟨fun b o e n hb hx=>?_,fun b o e n hb hx=>?_,I.base.free,fun b o e hx=>?_,I.base.tups,I.base.frzs,I.base.tbls⟩,⟨m,hn.sameBut hs (IL (cne x c hc)),fun j y v' e1 e2 e3=>?_⟩,fun y c' e=>?_,I.free,I.freeC,fun p hp=>?_,tracked ⟨oc,hoc,I.freeC x c hc⟩ hs,by simpa using I.len⟩ ⟨c,hs,.inr hc⟩
    · exact (hs.2 b (Hi (Ht (BE e) (I.ok.cab x c hfn hc)))).trans (I.base.keep b o e n hb hx)
    · obtain ⟨sl,e1⟩:=I.base.slot b o e n hb hx
      exact ⟨sl,(hs.2 b (Hi (Ht (BE e) (I.ok.cab x c hfn hc)))).trans e1⟩
    · obtain ⟨o',e1⟩:=I.base.there b o e hx
      exact ⟨o',(hs.2 b (Hi (Ht (BE e) (I.ok.cab x c hfn hc)))).trans e1⟩
    · by_cases hj:j=i
      · subst hj
        rw [hi] at e1; cases e1;rw [KW hiσ] at e2
        cases e2;exact ⟨u,r,.inr ⟨.inl hk,c,hc,hc'⟩⟩
      · rw [MG (IL hj)] at e2
        obtain ⟨u',r',q⟩:=hl j y v' e1 e2 e3;refine ⟨u',r',?_⟩;rcases q with q | ⟨k,c',e,z'⟩
        · exact .inl q
        · refine .inr ⟨k,c',e,z'.sameBut hs ?_⟩
          rintro rfl;exact hj (nD hN e1 (I.ok.inj _ _ _ e hc ▸ hi))
    · by_cases hcc:c'=c
      · subst hcc; exact ⟨_,hc'⟩
      · obtain ⟨w2,z2⟩:=I.cell y c' e
        exact ⟨w2,z2.sameBut hs hcc⟩
    · obtain ⟨e,n,ne,nf,d⟩:=I.pin p hp
      refine ⟨(hs.2 p.1 ?_).trans e,n,ne,nf,d⟩;intro q;rw [q,hoc] at e;have q':oc=p.2:=IT e;exact d w' (by rw [<- q']; exact hocd)
theorem fQ {M:MN} {A:IA} {E:η->χ->Prop} {i:Nat} {x:Str} {v:V} {u:η} {Q:Unit->χ->Prop} (I:Inv X pins σ H s) (hN:X.N.Nodup) (hi:X.N[i]?=some x) (hx:Loc X.env.scope x) (r:bF v u)
  (h:∀ s',Inv X pins (σ.set i (some v)) H s'->Q () s') (hf:X.fn x=true\/X.env.scope.names.lookup x=some .local:=by first | exact .inl rfl | exact .inr rfl | assumption):BG M A (storeName X.env x u) Q E s :=
 zk I hN hi hx r (fun s' I' _=>h s' I') hf
theorem Inv.call' {s':χ} {ch:List ς} (I:Inv X pins σ H s) (ho:s'.os=s.os) (u:Un (frs X.stack) ch H H' s.heap s'.heap) (hok:HOk X.prog X.w H' s'.heap) (hg:LN s'.gens)
  (hch:∀ b∈ch,(b∈X.ex\/X.s₀.heap.objs.size<=b)/\b≠X.env.locals/\(∀ x c,X.env.cells.lookup x=some c->c≠b)/\∀ p∈X.pn++pins,p.1≠b):Inv X pins σ H' s':=by
 obtain ⟨h',g',d',t',o'⟩:=s';have e:o'=s.os:=ho;subst e;exact I.call (g':=g') (t':=t') (d':=d') u hok hg hch
end
noncomputable abbrev XK:=η->Option ς->Hp->Prop
noncomputable abbrev St:=List (Option V)
noncomputable abbrev VK:=V->Hp->Prop
noncomputable abbrev TE:=St->Hp->VK->Prop
noncomputable abbrev TT:=St->Hp->(Bool->Hp->Prop)->Prop
noncomputable abbrev TA:=St->Hp->(List V->Hp->Prop)->Prop
structure dn where
 nx:St->Hp->Prop
 rt:VK
 bk:St->Hp->Prop:=fun _ _=>False
 ct:St->Hp->Prop:=fun _ _=>False
noncomputable abbrev TS:=dn->St->Hp->Prop
def EP (X:Cx) (pins:List (ς×Iz)) (σ:St) (Q:VK) (u:η) (s':χ):Prop:=∃ v H',Inv X pins σ H' s'/\bF v u/\Q v H'
def TP (X:Cx) (pins:List (ς×Iz)) (σ:St) (Q:Bool->Hp->Prop) (b:Bool) (s':χ):Prop:=∃ H',Inv X pins σ H' s'/\Q b H'
def AP (X:Cx) (pins:List (ς×Iz)) (σ:St) (Q:List V->Hp->Prop) (us:List η) (s':χ):Prop:=∃ vs H',Inv X pins σ H' s'/\bq vs us/\Q vs H'
def SP (X:Cx) (pins:List (ς×Iz)) (D:dn) (f:Flow) (s':χ):Prop :=
 match f with
 | .next=>∃ σ' H',Inv X pins σ' H' s'/\D.nx σ' H'
 | .brk=>∃ σ' H',Inv X pins σ' H' s'/\D.bk σ' H'
 | .cont=>∃ σ' H',Inv X pins σ' H' s'/\D.ct σ' H'
 | .ret u=>∃ v σ' H',Inv X pins σ' H' s'/\bF v u/\D.rt v H'
def PE (X:Cx) (e:II) (t:TE):Prop :=
 ∀ (pins:List (ς×Iz)) (s:χ) (σ:St) (H:Hp) (Q:VK),Inv X pins σ H s->t σ H Q->BG (B_ X.prog X.w) X.A (Ip e X.env) (EP X pins σ Q) X.xe s
def PT (X:Cx) (e:II) (t:TT):Prop :=
 ∀ (pins:List (ς×Iz)) (s:χ) (σ:St) (H:Hp) (Q:Bool->Hp->Prop),Inv X pins σ H s->t σ H Q->BG (B_ X.prog X.w) X.A (isTrue e X.env (Ip e X.env)) (TP X pins σ Q) X.xe s
def PW (X:Cx) (e:II) (t:TT):Prop :=
 ∀ (whole:LL η) (pins:List (ς×Iz)) (s:χ) (σ:St) (H:Hp) (Q:Bool->Hp->Prop),Inv X pins σ H s->t σ H Q->BG (B_ X.prog X.w) X.A (isTrue e X.env whole) (TP X pins σ Q) X.xe s
theorem PW.pt {X:Cx} {e:II} {t:TT} (h:PW X e t):PT X e t:=h _
def PA (X:Cx) (es:List II) (t:TA):Prop :=
 ∀ (pos:J8) (pins:List (ς×Iz)) (s:χ) (σ:St) (H:Hp) (Q:List V->Hp->Prop),Inv X pins σ H s->t σ H Q->BG (B_ X.prog X.w) X.A (spliced (JD pos (D_ es X.env))) (AP X pins σ Q) X.xe s
def PS (X:Cx) (st:Kf) (t:TS):Prop :=
 ∀ (pins:List (ς×Iz)) (s:χ) (σ:St) (H:Hp) (D:dn),Inv X pins σ H s->t D σ H->BG (B_ X.prog X.w) X.A (exec st X.env) (SP X pins D) X.xe s
def PSs (X:Cx) (st:List Kf) (t:TS):Prop :=
 ∀ (pins:List (ς×Iz)) (s:χ) (σ:St) (H:Hp) (D:dn),Inv X pins σ H s->t D σ H->BG (B_ X.prog X.w) X.A (execs st X.env) (SP X pins D) X.xe s
theorem thn {α:Type} {t:LL α} {Q Q':α->χ->Prop} {M:MN} {A:IA} {E:η->χ->Prop} {s:χ} (h:BG M A t Q E s) (hQ:∀ a s,Q a s->Q' a s):BG M A t Q' E s:=Hq h hQ fun _ _ x=>x
section
variable {X:Cx}
def FA (i:Nat):TE:=fun σ H Q=>∃ v,σ[i]?=some (some v)/\Q v H
def tC (v:V):TE:=fun _ H Q=>Q v H
theorem AI {i:Nat} {x:Str} {pos:J8} (hN:X.N[i]?=some x) (hv:Vis X.env.scope x) (hd:(x==("__debug__":Str))=false:=by decide) (hcd:(x==("__classdict__":Str))=false:=by decide):PE X (.Name x pos) (FA i):=by
 intro pins s σ H Q I h;obtain ⟨v,e,h⟩:=h;obtain ⟨m,hn,hl⟩:=I.loc;obtain ⟨u,r,l⟩:=hl i x v hN e hv;have fin:EP X pins σ Q u s:=⟨v,H,I,r,h⟩
 rcases l with ⟨hk,hm⟩ | ⟨hk,c,hc,hcell⟩
 ·exact wpAny_Name (wpAny_loadName_local I.ok.kind hk hn hm fin) hd
 ·rcases hk with hk | hk
  ·exact wpAny_Name (wpAny_loadName_cell I.ok.kind hk hc hcell fin) hd
  ·exact wpAny_Name (wpAny_loadName_free I.ok.kind hk hc hcell fin hcd) hd
theorem ag {i j pos}:PE X (.Constant (.int i) j pos) (tC (.int i)):=fun _ _ _ H _ I h=>wpAny_Constant_int ⟨.int i,H,I.tok _,⟨_,rfl⟩,h⟩
theorem AB {b j pos}:PE X (.Constant (.bool b) j pos) (tC (.bl b)):=fun _ _ _ H _ I h=>Constant_bool ⟨.bl b,H,I,rfl,h⟩
theorem eU {j pos}:PE X (.Constant .none j pos) (tC .non):=fun _ _ _ H _ I h=>Constant_none ⟨.non,H,I,rfl,h⟩
theorem ao {x j pos}:PE X (.Constant (.str x) j pos) (tC (.str x)):=fun _ _ _ H _ I h=>Calls.Constant_str ⟨.str x,H,I.tok _,⟨_,rfl⟩,h⟩
def Gl (X:Cx) (x:Str):Prop:=X.env.kindOf x=some .globalImplicit
theorem dN {E:η->χ->Prop} {pins:List (ς×Iz)} {s:χ} {σ:St} {H:Hp} {x:Str} {u:η} {pos:J8} {Q:η->χ->Prop} (I:Inv X pins σ H s) (hg:Gl X x) (hm:X.mg x=some u) (h:Q u s)
  (hd:(x==("__debug__":Str))=false:=by decide):BG (B_ X.prog X.w) X.A (Ip (.Name x pos) X.env) Q E s :=
 NY I.ok.kind hg (Calls.loadGlobal_global (by rw [I.ok.glob]; exact I.mod.glob.keeps I.bk) hm h) hd
theorem lB {E:η->χ->Prop} {pins:List (ς×Iz)} {s:χ} {σ:St} {H:Hp} {x:Str} {u:η} {pos:J8} {Q:η->χ->Prop} (I:Inv X pins σ H s) (hg:Gl X x) (hm:X.mg x=none) (hv:IM x=some u) (h:Q u s)
  (hn:x≠"__name__":=by decide) (hd:(x==("__debug__":Str))=false:=by decide):BG (B_ X.prog X.w) X.A (Ip (.Name x pos) X.env) Q E s:=by
 obtain ⟨mb,h1,h2⟩:=I.mod.blt;exact NY I.ok.kind hg (Calls.loadGlobal_builtin (by rw [I.ok.glob]; exact I.mod.glob.keeps I.bk) hm (by rw [I.ok.blt]; exact h1.keeps I.bk) ((h2 x hn).trans hv) h) hd
theorem dv {x:Str} {v:V} {u:η} {pos:J8} (hg:Gl X x) (hm:X.mg x=some u) (r:bF v u) (hd:(x==("__debug__":Str))=false:=by decide):PE X (.Name x pos) (tC v) :=
 fun _ _ _ H _ I h=>dN I hg hm ⟨v,H,I,r,h⟩ hd
theorem dg {x:Str} {v:V} {u:η} {pos:J8} (hg:Gl X x) (hm:X.mg x=none) (hv:IM x=some u) (r:bF v u) (hn:x≠"__name__":=by decide) (hd:(x==("__debug__":Str))=false:=by decide):PE X (.Name x pos) (tC v) :=
 fun _ _ _ H _ I h=>lB I hg hm hv ⟨v,H,I,r,h⟩ hn hd
variable {a b:II} {ta tb:TE} {pos:J8}
def PC (X:Cx) (op:Ox) (a b:II) (t:TE):Prop :=
 ∀ (pins:List (ς×Iz)) (s:χ) (σ:St) (H:Hp) (Q:VK),Inv X pins σ H s->t σ H Q ->
  BG (B_ X.prog X.w) X.A (Ip a X.env) (fun v s₁=>BG (B_ X.prog X.w) X.A (Ip b X.env) (fun u s₂=>BG (B_ X.prog X.w) X.A (Ie op v u) (EP X pins σ Q) X.xe s₂) X.xe s₁) X.xe s
def tB (t:TE):TT:=fun σ H Q=>t σ H fun x H1=>∃ c,x=.bl c/\Q c H1
theorem iK {op:Ox} {t:TE} (h:PC X op a b t) (h1:KQ op b=false:=by first | exact nobehind _ (by decide) (by decide) | rfl):PT X (.Compare a [op] [b] pos) (tB t):=by
 intro pins s σ H Q I hw;refine wpAny_isTrue_Compare1 (thn (h pins s σ H _ I hw) fun v s1 h1=>thn h1 fun u s2 h2=>thn h2 fun c s3 ⟨x,H1,I1,r1,q1⟩=>?_) h1;obtain ⟨d,rfl,q⟩:=q1
 cases r1;exact Jl ⟨H1,I1,q⟩
theorem cm {e:II} {t:TE} (h:PE X e t) (he:∀ whole,isTrue e X.env whole=(do let v <- whole; Mm e.pos; Lo [v] (truthy v)):=by intro _; rfl):PT X e (tB t):=by
 intro pins s σ H Q I hw;refine isTrue_plain (thn (h pins s σ H _ I hw) fun v s1 ⟨x,H1,I1,r1,q1⟩=>?_) (he _);obtain ⟨d,rfl,q⟩:=q1
 cases r1;exact Jl ⟨H1,I1,q⟩
variable {tA tB':TT} {dJ:List II}
def GI (t u:TT):TT:=fun σ H Q=>t σ H fun c H1=>if c=true then u σ H1 Q else Q false H1
def tOr (t u:TT):TT:=fun σ H Q=>t σ H fun c H1=>if c=true then Q true H1 else u σ H1 Q
def GO (t:TT):TT:=fun σ H Q=>t σ H fun c H1=>Q (!c) H1
theorem fi (ha:PT X a tA):PW X (.BoolOp .And [a] pos) tA:=by
 intro wh pins s σ H Q I h;refine isTrue_and (thn (ha pins s σ H Q I h) fun c s1 e=>?_)
 cases c with
 | true=>exact isTrue_and_nil e
 | false=>exact e
theorem eF (ha:PT X a tA):PW X (.BoolOp .Or [a] pos) tA:=by
 intro wh pins s σ H Q I h;refine isTrue_or (thn (ha pins s σ H Q I h) fun c s1 e=>?_)
 cases c with
 | false=>exact isTrue_or_nil e
 | true=>exact e
theorem fJ (ha:PT X a tA) (hb:PW X (.BoolOp .And (b::dJ) pos) tB'):PW X (.BoolOp .And (a::b::dJ) pos) (GI tA tB'):=by
 intro wh pins s σ H Q I h;refine isTrue_and (thn (ha pins s σ H _ I h) fun c s1 ⟨H1,I1,q1⟩=>?_)
 cases c with
 | true=>exact hb wh pins s1 σ H1 Q I1 q1
 | false=>exact ⟨H1,I1,q1⟩
theorem fK (ha:PT X a tA) (hb:PW X (.BoolOp .Or (b::dJ) pos) tB'):PW X (.BoolOp .Or (a::b::dJ) pos) (tOr tA tB'):=by
 intro wh pins s σ H Q I h;refine isTrue_or (thn (ha pins s σ H _ I h) fun c s1 ⟨H1,I1,q1⟩=>?_)
 cases c with
 | true=>exact ⟨H1,I1,q1⟩
 | false=>exact hb wh pins s1 σ H1 Q I1 q1
theorem dR (ha:PT X a tA):PT X (.UnaryOp .Not a pos) (GO tA):=by
 intro pins s σ H Q I h;exact isTrue_not (ha pins s σ H (fun c H1=>Q (!c) H1) I h)
def D5 (ta tb:TE):TE:=fun σ H Q=>ta σ H fun x H1=>∃ c,x=.bl c/\if c=true then tb σ H1 Q else Q (.bl false) H1
def Ed (ta:TE):TE:=fun σ H Q=>ta σ H fun x H1=>∃ c,x=.bl c/\Q (.bl (!c)) H1
theorem jS {op} {t:TE} (h:PE X a t):PE X (.BoolOp op [a] pos) t:=fun pins s σ H Q I hw=>BoolOp_one (h pins s σ H Q I hw)
theorem jR (ha:PE X a ta) (hb:PE X (.BoolOp .And (b::dJ) pos) tb):PE X (.BoolOp .And (a::b::dJ) pos) (D5 ta tb):=by
 intro pins s σ H Q I h;refine BoolOp_and (thn (ha pins s σ H _ I h) fun v s1 ⟨x,H1,I1,r1,q1⟩=>?_);obtain ⟨c,rfl,q1⟩:=q1
 cases r1;refine Jl ?_
 cases c with
 | true=>exact hb pins s1 σ H1 Q I1 q1
 | false=>exact ⟨.bl false,H1,I1,rfl,q1⟩
theorem EK (ha:PE X a ta):PE X (.UnaryOp .Not a pos) (Ed ta):=by
 intro pins s σ H Q I h;refine UnaryOp_ (thn (ha pins s σ H _ I h) fun v s1 ⟨x,H1,I1,r1,q1⟩=>?_);obtain ⟨c,rfl,q1⟩:=q1
 cases r1;exact not_of (Jl ⟨.bl (!c),H1,I1,rfl,q1⟩)
def tIf (t:TT) (ta tb:TE):TE:=fun σ H Q=>t σ H fun c H1=>if c=true then ta σ H1 Q else tb σ H1 Q
theorem AG {c:II} (hc:PT X c tA) (ha:PE X a ta) (hb:PE X b tb):PE X (.IfExp c a b pos) (tIf tA ta tb):=by
 intro pins s σ H Q I h;refine wpAny_IfExp (thn (hc pins s σ H _ I h) fun d s1 ⟨H1,I1,q1⟩=>?_)
 cases d with
 | true=>exact ha pins s1 σ H1 Q I1 q1
 | false=>exact hb pins s1 σ H1 Q I1 q1
end
def SqL (K:A_) (H:Hp) (a:ς) (xs:List V):Prop :=
 Rd H a (.lst xs) \/
  ∃ (o:Iz) (its:Array η) (n:Nat),K.lookup a=some o/\o.cls=.type "list"/\o.dict=none/\o.data=.seq its n/\its.size<=BC/\bq xs its.toList
def SqT (K:A_) (H:Hp) (a:ς) (xs:List V):Prop :=
 Rd H a (.tup xs) \/
  ∃ (o:Iz) (its:Array η) (n:Nat),K.lookup a=some o/\o.cls=.type "tuple"/\o.data=.seq its n/\its.size<=BC/\bq xs its.toList
noncomputable def G1:η->Option V
 | .none=>some .non
 | .bool b=>some (.bl b)
 | .int i _=>some (.int i)
 | .str x _=>some (.str x)
 | .bytes b _=>some (.byt b)
 | .float b _=>some (.flt b)
 | .ref a=>some (.ref a)
 | .type n=>some (.ty n)
 | _=>none
theorem bF.abs {x:V} {u:η} (r:bF x u):G1 u=some x:=by
 cases x with
 | non=>cases r; rfl
 | bl _=>cases r; rfl
 | int _=>obtain ⟨t,rfl⟩:=r; rfl
 | str _=>obtain ⟨t,rfl⟩:=r; rfl
 | byt _=>obtain ⟨t,rfl⟩:=r; rfl
 | flt _=>obtain ⟨t,rfl⟩:=r; rfl
 | ref _=>cases r; rfl
 | ty _=>cases r; rfl
theorem bF.inj {x y:V} {u:η} (r:bF x u) (q:bF y u):x=y:=IT (r.abs.symm.trans q.abs)
theorem bq.inj:∀ {xs ys:List V} {us:List η},bq xs us->bq ys us->xs=ys
 | _,_,_,.nil,.nil=>rfl
 | _,_,_,.cons r t,.cons r' t'=>by rw [r.inj r',bq.inj t t']
section
variable {X:Cx} {pins:List (ς×Iz)} {σ:St} {H:Hp} {s:χ} {a:ς} {xs ys:List V}
theorem SqL.of {K:A_} (h:H a=some (.lst xs)):SqL K H a xs:=.inl (.inl h)
theorem SqT.of {K:A_} (h:H a=some (.tup xs)):SqT K H a xs:=.inl (.inl h)
theorem Inv.list (I:Inv X pins σ H s) (h:SqL X.K H a xs):∃ its:List η,bq xs its/\PlainL s.heap a its.toArray/\xs.length<=sizeLine:=by
 rcases h with h | ⟨o,its,n,hk,hc,hd,hs,hz,r⟩
 ·obtain ⟨z,its,n,r,e⟩:=h.ok I.hok;exact ⟨its,r,⟨_,n,e,rfl,rfl,rfl⟩,z⟩
 ·refine ⟨its.toList,r,⟨o,n,I.kIn a o hk,hc,hd,by simpa using hs⟩,?_⟩;have e:=r.length;simp only [HK] at e;omega
theorem Inv.tuple (I:Inv X pins σ H s) (h:SqT X.K H a xs):∃ its:List η,bq xs its/\IsTup s.heap a its.toArray/\xs.length<=sizeLine:=by
 rcases h with h | ⟨o,its,n,hk,hc,hs,hz,r⟩
 ·obtain ⟨z,its,r,p⟩:=h.ok I.hok;exact ⟨its,r,p,z⟩
 ·refine ⟨its.toList,r,⟨o,I.kIn a o hk,hc,n,by simpa using hs⟩,?_⟩;have e:=r.length;simp only [HK] at e;omega
theorem Inv.list_inj (I:Inv X pins σ H s) (h:SqL X.K H a xs) (h':SqL X.K H a ys):xs=ys:=by
 obtain ⟨its,r,⟨o,n,e,_,_,d⟩,_⟩:=I.list h;obtain ⟨its',r',⟨o',n',e',_,_,d'⟩,_⟩:=I.list h';rw [e] at e'; cases e';rw [d] at d';injection d' with d1 _;have:its=its':=by simpa using congrArg Array.toList d1
 subst this;exact r.inj r'
theorem Inv.tuple_inj (I:Inv X pins σ H s) (h:SqT X.K H a xs) (h':SqT X.K H a ys):xs=ys:=by
 obtain ⟨its,r,⟨o,e,_,n,d⟩,_⟩:=I.tuple h;obtain ⟨its',r',⟨o',e',_,n',d'⟩,_⟩:=I.tuple h';rw [e] at e'; cases e';rw [d] at d';injection d' with d1 _;have:its=its':=by simpa using congrArg Array.toList d1
 subst this;exact r.inj r'
end
noncomputable abbrev Cx.wish (X:Cx) (E:η->χ->Prop):Cx:={ X with xe:=E }
noncomputable abbrev Cx.nox (X:Cx):Cx:=X.wish fun _ _=>False
theorem Cx.Ok.wish {X:Cx} (ok:X.Ok) (E:η->χ->Prop):(X.wish E).Ok :=
 ⟨ok.mod,ok.kind,ok.glob,ok.blt,ok.above,ok.inj,ok.has,ok.cab,ok.hd,ok.frames,ok.stk,ok.exf,ok.bs,ok.bsz,ok.noex,ok.exfs,ok.funs,ok.frf⟩
theorem Cx.Ok.unwish {X:Cx} {E:η->χ->Prop} (ok:(X.wish E).Ok):X.Ok :=
 ⟨ok.mod,ok.kind,ok.glob,ok.blt,ok.above,ok.inj,ok.has,ok.cab,ok.hd,ok.frames,ok.stk,ok.exf,ok.bs,ok.bsz,ok.noex,ok.exfs,ok.funs,ok.frf⟩
section
variable {X:Cx} {pins:List (ς×Iz)} {σ:St} {H:Hp} {s:χ} {E:η->χ->Prop}
theorem Inv.wish (I:Inv X pins σ H s) (E:η->χ->Prop):Inv (X.wish E) pins σ H s:=⟨I.ok.wish E,I.os,I.bare,I.base,I.loc,I.cell,I.free,I.freeC,I.pin,I.hok,I.len⟩
theorem Inv.unwish (I:Inv (X.wish E) pins σ H s):Inv X pins σ H s:=⟨I.ok.unwish,I.os,I.bare,I.base,I.loc,I.cell,I.free,I.freeC,I.pin,I.hok,I.len⟩
theorem SP.unwish {D:dn} {f:Flow} {s':χ} (h:SP (X.wish E) pins D f s'):SP X pins D f s':=by
 cases f with
 | next=>obtain ⟨σ',H',I,q⟩:=h; exact ⟨σ',H',I.unwish,q⟩
 | brk=>obtain ⟨σ',H',I,q⟩:=h; exact ⟨σ',H',I.unwish,q⟩
 | cont=>obtain ⟨σ',H',I,q⟩:=h; exact ⟨σ',H',I.unwish,q⟩
 | ret u=>obtain ⟨v,σ',H',I,r,q⟩:=h; exact ⟨v,σ',H',I.unwish,r,q⟩
theorem PSs.nox {st:List Kf} {t:TS} (h:PSs X.nox st t):PSs X st t:=fun pins s σ H D I hw =>
 Hq (h pins s σ H D (I.wish _) hw) (fun _ _ q=>q.unwish) fun _ _ z=>Hz z
end
section
variable {X:Cx} {st:Kf} {dJ:List Kf} {t u:TS} {e:II} {te:TE} {pos:J8}
def Ec:TS:=fun D σ H=>D.nx σ H
def DG (t u:TS):TS:=fun D σ H=>t { D with nx:=u D } σ H
theorem aB:PSs X [] Ec:=fun _ _ σ H _ I h=>MM ⟨σ,H,I,h⟩
theorem aH (h1:PS X st t) (h2:PSs X dJ u):PSs X (st::dJ) (DG t u):=by
 intro pins s σ H D I h;refine Ni (thn (h1 pins s σ H { D with nx:=u D } I h) fun f s1 q=>?_)
 cases f with
 | next =>
  obtain ⟨σ',H',I',q⟩:=q;exact h2 pins s1 σ' H' D I' q
 | ret v=>exact q
 | brk=>exact q
 | cont=>exact q
theorem aj (h1:PS X st t):PSs X [st] t:=by
 intro pins s σ H D I h;refine Ni (thn (h1 pins s σ H D I h) fun f s1 q=>?_)
 cases f with
 | next=>exact MM q
 | ret v=>exact q
 | brk=>exact q
 | cont=>exact q
theorem Inv.quiet {pins:List (ς×Iz)} {σ:St} {H:Hp} {s:χ} (I:Inv X pins σ H s):interactive X.env=false:=by simp [interactive,I.ok.kind]
def D8 (te:TE):TS:=fun D σ H=>te σ H fun _ H1=>D.nx σ H1
theorem aZ (he:PE X e te) (hs:L7 e none pos.line X.env=pure false:=by rfl):PS X (.Expr e pos) (D8 te):=by
 intro pins s σ H D I h;exact wpAny_Expr_any (thn (he pins s σ H _ I h) fun v s1 ⟨x,H1,I1,r1,q1⟩=>⟨σ,H1,I1,q1⟩) I.quiet hs
def GQ (te:TE):TS:=fun D σ H=>te σ H D.rt
theorem az (he:PE X e te):PS X (.Return (some e) pos) (GQ te):=by
 intro pins s σ H D I h;exact wpAny_Return_some (thn (he pins s σ H _ I h) fun v s1 ⟨x,H1,I1,r1,q1⟩=>⟨x,σ,H1,I1,r1,q1⟩)
def GN (c:TT) (t u:TS):TS:=fun D σ H=>c σ H fun b H1=>if b=true then t D σ H1 else u D σ H1
theorem aK {c:II} {a b:List Kf} {tc:TT} (hc:PT X c tc) (ha:PSs X a t) (hb:PSs X b u):PS X (.If c a b pos) (GN tc t u):=by
 intro pins s σ H D I h;refine wpAny_If (thn (hc pins s σ H _ I h) fun d s1 ⟨H1,I1,q1⟩=>?_)
 cases d with
 | true=>exact ha pins s1 σ H1 D I1 q1
 | false=>exact hb pins s1 σ H1 D I1 q1
end
noncomputable abbrev TG:=V->St->Hp->(St->Hp->Prop)->Prop
noncomputable abbrev TGs:=List V->St->Hp->(St->Hp->Prop)->Prop
def PG (X:Cx) (target:II) (t:TG):Prop :=
 ∀ (pins:List (ς×Iz)) (s:χ) (σ:St) (H:Hp) (v:V) (u:η) (Q:St->Hp->Prop),Inv X pins σ H s->bF v u->t v σ H Q ->
  BG (B_ X.prog X.w) X.A (OI target X.env u) (fun _ s'=>∃ σ' H',Inv X pins σ' H' s'/\Q σ' H') X.xe s
def PGs (X:Cx) (ts:List II) (t:TGs):Prop :=
 ∀ (pins:List (ς×Iz)) (s:χ) (σ:St) (H:Hp) (vs:List V) (us:List η) (Q:St->Hp->Prop),Inv X pins σ H s->bq vs us->t vs σ H Q ->
  BG (B_ X.prog X.w) X.A (Oa ((Kv ts X.env).map (·.2)) us) (fun _ s'=>∃ σ' H',Inv X pins σ' H' s'/\Q σ' H') X.xe s
noncomputable abbrev zD:=V->V->V->Hp->(Hp->Prop)->Prop
def FI (X:Cx) (t:zD):Prop :=
 ∀ (pins:List (ς×Iz)) (s:χ) (σ:St) (H:Hp) (o i v:V) (ov iv u:η) (Q:Hp->Prop),Inv X pins σ H s->bF o ov->bF i iv->bF v u->t o i v H Q ->
  BG (B_ X.prog X.w) X.A (setItem ov iv u) (fun _ s'=>∃ H',Inv X pins σ H' s'/\Q H') X.xe s
section
variable {X:Cx} {pos:J8}
def eB (i:Nat):TG:=fun v σ H Q=>Q (σ.set i (some v)) H
theorem aY {i:Nat} {x:Str} (hN:X.N.Nodup) (hi:X.N[i]?=some x) (hx:Loc X.env.scope x) (hf:X.fn x=true\/X.env.scope.names.lookup x=some .local:=by first | exact .inl rfl | exact .inr rfl | assumption):PG X (.Name x pos) (eB i):=by
 intro pins s σ H v u Q I r h;exact wpAny_assign_Name (fQ I hN hi hx r (fun s' I'=>⟨_,H,I',h⟩) hf)
def Cq:TGs:=fun vs σ H Q=>vs=[]/\Q σ H
def qf (t:TG) (u:TGs):TGs:=fun vs σ H Q=>∃ v r,vs=v::r/\t v σ H fun σ' H'=>u r σ' H' Q
theorem jv:PGs X [] Cq:=by
 intro pins s σ H vs us Q I r h;obtain ⟨e,h⟩:=h;subst e
 cases r;exact assignInOrder_nil ⟨σ,H,I,h⟩
theorem cZ {e:II} {es:List II} {t:TG} {u:TGs} (h1:PG X e t) (h2:PGs X es u)
  (hs:(Kv (e::es) X.env).map (·.2)=OI e X.env::(Kv es X.env).map (·.2):=by rfl):PGs X (e::es) (qf t u):=by
 intro pins s σ H vs us Q I r h;obtain ⟨v,vr,e1,h⟩:=h;subst e1
 cases r with
 | cons r rr =>
  rw [hs];refine M_ (thn (h1 pins s σ H _ _ _ I r h) fun _ s1 ⟨σ1,H1,I1,q1⟩=>?_);exact h2 pins s1 σ1 H1 _ _ Q I1 rr q1
def Ac (K:A_) (n:Nat) (t:TGs):TG:=fun v σ H Q=>∃ a xs,v=.ref a/\SqT K H a xs/\xs.length=n/\t xs σ H Q
theorem EM {es:List II} {k:Nat} {t:TGs} {n:Nat} (hc:X.calm=true) (h:PGs X es t)
  (hn:(Kv es X.env).length=n:=by rfl) (hst:(Kv es X.env).findIdx? (·.1)=none:=by rfl):PG X (.Tuple es k pos) (Ac X.K n t):=by
 intro pins s σ H v u Q I r hw;obtain ⟨a,xs,e1,hq,hl,hw⟩:=hw;subst e1
 cases r;obtain ⟨its,rv,ht,hz⟩:=I.tuple hq;refine assign_Tuple_tuple (I.ok.hd hc) ht (by simp [hn,<- hl,rv.length]) hst fun h' hx=>?_;have I1:Inv X pins σ H { s with heap:=h' }:=I.kept (t':=s.toks) fun b o e=>hx b o (Hi (BE e)) e;exact h pins _ σ H xs _ Q I1 (by simpa using rv) hw
def F0 (to ti:TE) (t:zD):TG:=fun v σ H Q=>to σ H fun o H1=>ti σ H1 fun i H2=>t o i v H2 fun H3=>Q σ H3
theorem EL {o i:II} {to ti:TE} {t:zD} (ho:PE X o to) (hi:PE X i ti) (hs:FI X t)
  (ha:∀ v,OI (.Subscript o i pos) X.env v=(do
   let ov <- Lo [v] (Ip o X.env)
   let iv <- Lo [v,ov] (Ip i X.env)
   Mm pos
   Lo [v,ov,iv] (setItem ov iv v)
   release [v,ov,iv] []):=by intro _; rfl):PG X (.Subscript o i pos) (F0 to ti t):=by
 intro pins s σ H v u Q I r h;rw [ha];refine θ (Ij (thn (ho pins s σ H _ I h) fun ov s1 ⟨x,H1,I1,r1,q1⟩=>?_));refine θ (Ij (thn (hi pins s1 σ H1 _ I1 q1) fun iv s2 ⟨y,H2,I2,r2,q2⟩=>?_));refine θ (Jd (θ (Ij (thn (hs pins s2 σ H2 x y v ov iv u _ I2 r1 r2 r q2) fun _ s3 ⟨H3,I3,q3⟩=>?_))));exact wpAny_release ⟨σ,H3,I3,q3⟩
def wQ (te:TE) (g:TG):TS:=fun D σ H=>te σ H fun x H1=>g x σ H1 D.nx
theorem nR {tg e:II} {te:TE} {g:TG} (he:PE X e te) (hg:PG X tg g) (hs:swapsWithSole [tg] e pos.line X.env=pure false:=by rfl) (hw:swappedStores [tg] e X.env=pure none:=by rfl)
  (h1:(Kv [tg] X.env).map (·.2)=[OI tg X.env]:=by rfl):PS X (.Assign [tg] e pos) (wQ te g):=by
 intro pins s σ H D I h;refine wpAny_Assign_stores (thn (he pins s σ H _ I h) fun v s1 ⟨x,H1,I1,r1,q1⟩=>?_) hs hw;rw [h1];exact thn (hg pins s1 σ H1 x v _ I1 r1 q1) fun _ s2 q=>q
theorem fH {i:Nat} {x:Str} {e:II} {te:TE} {pos':J8} (hN:X.N.Nodup) (hi:X.N[i]?=some x) (hx:Loc X.env.scope x) (he:PE X e te) (hs:L7 e (some (.Name x pos')) pos.line X.env=pure false:=by rfl) (hf:X.fn x=true\/X.env.scope.names.lookup x=some .local:=by first | exact .inl rfl | exact .inr rfl | assumption) :
  PS X (.Assign [.Name x pos'] e pos) (wQ te (eB i)):=by
 intro pins s σ H D I h;refine wpAny_Assign_Name (thn (he pins s σ H _ I h) fun v s1 ⟨y,H1,I1,r1,q1⟩=>?_) hs;exact fQ I1 hN hi hx r1 (fun s2 I2=>⟨_,H1,I2,q1⟩) hf
def GP (i j:Nat) (ta:TA):TS:=fun D σ H=>ta σ H fun vs H1=>∃ v w,vs=[v,w]/\D.nx ((σ.set i (some v)).set j (some w)) H1
theorem EO {i j:Nat} {x y:Str} {a b:II} {ta:TA} {px py pt:J8} {kt k2 pt2} (hc:X.calm=true) (hN:X.N.Nodup) (hi:X.N[i]?=some x) (hj:X.N[j]?=some y) (hij:i≠j)
  (hx:X.env.scope.names.lookup x=some .local) (hy:X.env.scope.names.lookup y=some .local) (ha:PA X [a,b] ta)
  (hw:swappedStores [.Tuple [.Name x px,.Name y py] kt pt] (.Tuple [a,b] k2 pt2) X.env=pure (some [x,y]))
  (hs:swapsWithSole [.Tuple [.Name x px,.Name y py] kt pt] (.Tuple [a,b] k2 pt2) pos.line X.env=pure false:=by rfl) :
  PS X (.Assign [.Tuple [.Name x px,.Name y py] kt pt] (.Tuple [a,b] k2 pt2) pos) (GP i j ta):=by
 intro pins s σ H D I h;rw [exec_Assign_arm];refine θ (Jd ?_);rw [hs];refine θ (Aw ?_);rw [if_neg (by decide)];refine θ (Tuple_ (thn (ha _ pins s σ H _ I h) fun us s1 ⟨vs,H1,I1,r1,q1⟩=>?_));obtain ⟨v,w,e1,q1⟩:=q1;subst e1;obtain ⟨u1,u2,rfl,rv,rw'⟩:∃ u1 u2,us=[u1,u2]/\bF v u1/\bF w u2:=by
  cases r1 with
  | cons p q =>
   cases q with
   | cons p' q' =>
    cases q';exact ⟨_,_,rfl,p,p'⟩
 refine JX ?_ (by show 2<=BC; decide);have I2:Inv X pins σ H1 { s1 with heap:=s1.heap.push { cls:=.type "tuple",data:=.seq [u1,u2].toArray } }:=I1.kept (t':=s1.toks) fun b o e=>Δ _ e;rw [hw];refine θ (Aw ?_)
 show BG (B_ X.prog X.w) X.A (do rule "assign.swapped-stores"; let items <- unpackItems (.ref s1.heap.objs.size) 2 none; Oa [fun v=>NR X.env y v,fun v=>NR X.env x v] items.reverse; pure Flow.next) _ _ _
 refine θ (LW (θ (unpackItems_tuple (items:=#[u1,u2]) (I.ok.hd hc) (IsTup.new s1.heap _) fun h' hx'=>?_)));have I3:=I2.kept (h':=h') (t':=s1.toks) fun b o e=>hx' b o (Hi (BE e)) e
 show BG _ _ (Oa [fun v=>NR X.env y v,fun v=>NR X.env x v] [u2,u1] >>= fun _=>pure Flow.next) _ _ _
 refine θ (M_ (wpAny_bindName (fQ I3 hN hj (.inl hy) rw' (fun s2 I4=>?_) (.inr hy))));refine M_ (wpAny_bindName (fQ I4 hN hi (.inl hx) rv (fun s3 I5=>assignInOrder_nil (Aw ?_)) (.inr hx)));rw [List.set_comm _ _ (IL hij)] at I5;exact ⟨_,H1,I5,q1⟩
def BY (c:TT) (tb:TS):TS:=fun D σ H=>∃ W:Nat->St->Hp->Prop,(∃ m,W m σ H)/\∀ m σ H,W m σ H ->
 c σ H fun b H1=>if b=true then ∃ N:St->Hp->Prop,(∀ σ' H',N σ' H'->∃ m',m'<m/\W m' σ' H')/\tb { D with nx:=N,ct:=N,bk:=D.nx } σ H1 else D.nx σ H1
theorem uY {c:II} {body:List Kf} {tc:TT} {tb:TS} (hp:PassesOwn (B_ X.prog X.w) X.A X.env X.xe) (hc:PT X c tc) (hb:PSs X body tb):PS X (.While c body [] pos) (BY tc tb):=by
 intro pins s σ H D I h;obtain ⟨W,⟨m0,w0⟩,turn⟩:=h;refine wpAny_While (codeAny_whileLoop (fun n s'=>∃ σ' H',Inv X pins σ' H' s'/\W n σ' H') ?_ m0 ⟨σ,H,I,w0⟩);rintro n s1 ⟨σ1,H1,I1,w1⟩;refine J1 hp (thn (hc pins s1 σ1 H1 _ I1 (turn n σ1 H1 w1)) fun b s2 ⟨H2,I2,q2⟩=>?_)
 cases b with
 | true =>
  obtain ⟨N,hN,q2⟩:=q2;rw [if_pos rfl];refine J1 hp (thn (hb pins s2 σ1 H2 _ I2 q2) fun f s3 q3=>?_)
  cases f with
  | next =>
   obtain ⟨σ3,H3,I3,n3⟩:=q3;obtain ⟨m',hm,w3⟩:=hN σ3 H3 n3;exact ⟨m',hm,σ3,H3,I3,w3⟩
  | cont =>
   obtain ⟨σ3,H3,I3,n3⟩:=q3;obtain ⟨m',hm,w3⟩:=hN σ3 H3 n3;exact ⟨m',hm,σ3,H3,I3,w3⟩
  | brk => exact q3
  | ret v => exact q3
 | false =>
  rw [if_neg IB];exact MM ⟨σ1,H2,I2,q2⟩
end
structure It where
 go:Nat->Hp->Prop
 yld:Nat->Hp->V->Hp->Prop
 stop:Nat->Hp->Prop
def jz (X:Cx) (pins:List (ς×Iz)) (H:Hp) (b:ς):Prop :=
 H b=none/\b≠X.env.locals/\b∉X.fs/\(b∈X.ex\/X.s₀.heap.objs.size<=b)/\(∀ x c,X.env.cells.lookup x=some c->c≠b)/\∀ p∈X.pn++pins,p.1≠b
theorem Inv.fpOk {X:Cx} {pins:List (ς×Iz)} {σ:St} {H H':Hp} {s:χ} {b:ς} (I:Inv X pins σ H s) (hb:s.heap.objs.size<=b) (hn:H' b=none):jz X pins H' b:=by
 refine ⟨hn,Ka (Ht I.lt hb),I.nofs hb,.inr (BA I.sz hb),fun x c e z=>?_,fun p hp z=>?_⟩
 ·obtain ⟨v,q⟩:=I.cell x c e;exact absurd (Ht q.lt (by rw [z]; exact hb)) (KJ _)
 ·exact absurd (Ht (BE (I.pin p hp).1) (by rw [z]; exact hb)) (KJ _)
structure tX (P:HS) (w:ID) (K:A_) (tg:II) (J:It) (fp:List ς) (it:ς) (tn:Nat->IC->Prop):Prop where
 mem:it∈fp
 obj:∀ i h,tn i h->∀ b∈fp,∃ o,h.get? b=some o/\∀ v,o.data≠.cell v
 keep:∀ i h h',tn i h->(∀ b∈fp,∀ o,h.get? b=some o->h'.get? b=some o)->tn i h'
 item:∀ (X:Cx),X.prog=P->X.w=w->X.K=K->X.calm=true->∀ (i:Nat) (pins:List (ς×Iz)) (s:χ) (σ:St) (H:Hp) (E:η->χ->Prop),Inv X pins σ H s->(∀ b∈fp,jz X pins H b)->tn i s.heap->J.go i H ->
  BG (B_ P w) X.A (OG (.ref it)) (fun r s1=>∃ u,r=some u /\
   BG (B_ P w) X.A (LC tg (.ref it) u) (fun _ s2=>∃ x H',Inv X pins σ H' s2/\bF x u/\J.yld i H x H'/\tn (i+1) s2.heap/\∀ b∈fp,H' b=none) E s1) E s
 done:∀ (X:Cx),X.prog=P->X.w=w->X.K=K->X.calm=true->∀ (i:Nat) (pins:List (ς×Iz)) (s:χ) (σ:St) (H:Hp) (E:η->χ->Prop),Inv X pins σ H s->(∀ b∈fp,jz X pins H b)->tn i s.heap->J.stop i H ->
  BG (B_ P w) X.A (OG (.ref it)) (fun r s1=>r=none/\Inv X pins σ H s1) E s
 self:∀ (A:IA) (i:Nat) (s:χ) (Q:η->χ->Prop) (E:η->χ->Prop),tn i s.heap->Q (.ref it) s->BG (B_ P w) A (pyIter (.ref it)) Q E s
noncomputable abbrev TI:=St->Hp->(It->Hp->Prop)->Prop
def PIE (X:Cx) (pins:List (ς×Iz)) (σ:St) (tg:II) (R:It->Hp->Prop) (itv:η) (s2:χ):Prop :=
 ∃ (it:ς) (fp:List ς) (tn:Nat->IC->Prop) (J:It) (H':Hp),itv=.ref it/\Inv X pins σ H' s2/\tX X.prog X.w X.K tg J fp it tn/\tn 0 s2.heap/\(∀ b∈fp,jz X pins H' b)/\R J H'
def PI (X:Cx) (tg iter:II) (wi:TI):Prop :=
 ∀ (pins:List (ς×Iz)) (s:χ) (σ:St) (H:Hp) (R:It->Hp->Prop),Inv X pins σ H s->wi σ H R ->
  BG (B_ X.prog X.w) X.A (Ip iter X.env) (fun v s1=>BG (B_ X.prog X.w) X.A (pyIter v) (PIE X pins σ tg R) X.xe s1) X.xe s
theorem xm {M:MN} {A:IA} {E:η->χ->Prop} {s:χ} {tg:II} {it:ς} {u:η} {o:Iz} {n:String} {vs:Array η} {Q:Unit->χ->Prop} (ho:s.heap.get? it=some o) (hc:o.cls=.type n) (hd:o.data=.fields vs)
    (hn:["enumerate","zip","dict_itemiterator","dict_reverseitemiterator","odict_iterator","itertools.zip_longest","itertools.pairwise"].contains n=false) (hQ:Q () s):BG M A (LC tg (.ref it) u) Q E s:=by
  unfold LC
  cases tg<;>first
    | exact Aw hQ
    | (cases u<;>first
        | exact Aw hQ
        | (refine θ (wpAny_load ho ?_)
           rw [hc,hd]
           show BG M A (if (["enumerate","zip","dict_itemiterator","dict_reverseitemiterator","odict_iterator","itertools.zip_longest","itertools.pairwise"].contains n&&vs[0]?==some (Kh _))=true then _ else _) Q E s
           rw [if_neg (by intro h; rw [hn,Bool.false_and] at h; cases h)];exact Aw hQ))
noncomputable def Itl (K:A_) (a:ς):It :=
 ⟨fun i H=>∃ xs x,SqL K H a xs/\xs[i]?=some x,fun i H x H'=>H'=H/\∀ xs,SqL K H a xs->xs[i]?=some x,fun i H=>∃ xs,SqL K H a xs/\xs.length<=i⟩
noncomputable def Itt (K:A_) (a:ς):It :=
 ⟨fun i H=>∃ xs x,SqT K H a xs/\xs[i]?=some x,fun i H x H'=>H'=H/\∀ xs,SqT K H a xs->xs[i]?=some x,fun i H=>∃ xs,SqT K H a xs/\xs.length<=i⟩
noncomputable def Itr (lo:Int) (n:Nat):It:=⟨fun i _=>i<n,fun i H x H'=>H'=H/\x=.int (lo+i),fun i _=>n<=i⟩
theorem zm {P:HS} {w:ID} {K:A_} {tg:II} (a it:ς):tX P w K tg (Itl K a) [it] it (fun i h=>h.IsListIter it a i) where
 mem:=by simp
 obj:=fun i h st b hb=>by
  have e:b=it:=by simpa using hb
  subst e;obtain ⟨o,e,c,d⟩:=st;exact ⟨o,e,fun v z=>by rw [d] at z; cases z⟩
 keep:=fun i h h' st k=>st.at fun o e=>k it (by simp) o e
 item:=by
  intro X hP hw hK hc i pins s σ H E I hf st hg;subst hP hw hK;obtain ⟨xs,x,hq,hx⟩:=hg;obtain ⟨its,rv,p,hz⟩:=I.list hq;obtain ⟨u,hu,ru⟩:=rv.get hx;obtain ⟨f0,f1,f2,f3,f4,f5⟩:=hf it (by simp);refine wpAny_pyNext_list_item st p.isList (x:=u) (by simpa using hu) fun h' st' sb=>?_;have I1:Inv X pins σ H { s with heap:=h' }:=I.turned (t':=s.toks) (fun b o hb e=>(sb.2 b hb).trans e) f0 f1 f3 f4 f5;obtain ⟨o,e,c,d⟩:=id st';exact ⟨u,rfl,xm (s:={ s with heap:=h' }) e c d (by decide) ⟨x,H,I1,ru,⟨rfl,fun ys hy=>by rw [I.list_inj hy hq]; exact hx⟩,st',fun b hb=>(hf b hb).1⟩⟩
 done:=by
  intro X hP hw hK hc i pins s σ H E I hf st hg;subst hP hw hK;obtain ⟨xs,hq,hx⟩:=hg;obtain ⟨its,rv,p,hz⟩:=I.list hq;obtain ⟨f0,f1,f2,f3,f4,f5⟩:=hf it (by simp);have hl:=rv.length;exact wpAny_pyNext_list_end (I.ok.hd hc) st p.isList (by simp; omega) fun h' eb=>⟨rfl,I.turned (t':=s.toks) (fun b o hb e=>eb b o hb e) f0 f1 f3 f4 f5⟩
 self:=fun _ _ _ _ _ st h=>wpAny_pyIter_listiter st h
theorem wX {P:HS} {w:ID} {K:A_} {tg:II} (a it:ς):tX P w K tg (Itt K a) [it] it (fun i h=>h.IsTupleIter it a i) where
 mem:=by simp
 obj:=fun i h st b hb=>by
  have e:b=it:=by simpa using hb
  subst e;obtain ⟨o,e,c,d⟩:=st;exact ⟨o,e,fun v z=>by rw [d] at z; cases z⟩
 keep:=fun i h h' st k=>st.at fun o e=>k it (by simp) o e
 item:=by
  intro X hP hw hK hc i pins s σ H E I hf st hg;subst hP hw hK;obtain ⟨xs,x,hq,hx⟩:=hg;obtain ⟨its,rv,p,hz⟩:=I.tuple hq;obtain ⟨u,hu,ru⟩:=rv.get hx;obtain ⟨f0,f1,f2,f3,f4,f5⟩:=hf it (by simp);refine wpAny_pyNext_tuple_item st (show s.heap.IsTuple a its.toArray from p) (x:=u) (by simpa using hu) fun h' st' sb=>?_;have I1:Inv X pins σ H { s with heap:=h' }:=I.turned (t':=s.toks) (fun b o hb e=>(sb.2 b hb).trans e) f0 f1 f3 f4 f5;obtain ⟨o,e,c,d⟩:=id st';exact ⟨u,rfl,xm (s:={ s with heap:=h' }) e c d (by decide) ⟨x,H,I1,ru,⟨rfl,fun ys hy=>by rw [I.tuple_inj hy hq]; exact hx⟩,st',fun b hb=>(hf b hb).1⟩⟩
 done:=by
  intro X hP hw hK hc i pins s σ H E I hf st hg;subst hP hw hK;obtain ⟨xs,hq,hx⟩:=hg;obtain ⟨its,rv,p,hz⟩:=I.tuple hq;obtain ⟨f0,f1,f2,f3,f4,f5⟩:=hf it (by simp);have hl:=rv.length;exact wpAny_pyNext_tuple_end (I.ok.hd hc) st (show s.heap.IsTuple a its.toArray from p) (by simp; omega) fun h' eb=>⟨rfl,I.turned (t':=s.toks) (fun b o hb e=>eb b o hb e) f0 f1 f3 f4 f5⟩
 self:=fun _ _ _ _ _ st h=>wpAny_pyIter_tupleiter st h
theorem wW {P:HS} {w:ID} {K:A_} {tg:II} (it:ς) (lo:Int) (n:Nat):tX P w K tg (Itr lo n) [it] it (fun i h=>IsRangeIter h it (lo+(i:Nat)*1) ((n:Int) - (i:Nat)) 1) where
 mem:=by simp
 obj:=fun i h st b hb=>by
  have e:b=it:=by simpa using hb
  subst e;exact ⟨_,st,fun v z=>by
   have z':Data.fields _=Data.cell v:=z
   cases z'⟩
 keep:=fun i h h' st k=>k it (by simp) _ st
 item:=by
  intro X hP hw hK hc i pins s σ H E I hf st hg;subst hP hw hK;obtain ⟨f0,f1,f2,f3,f4,f5⟩:=hf it (by simp);have W:=Walks.range (prog:=X.prog) (w:=X.w) (I.ok.hd hc) it lo 1 n;refine W.item i s _ _ hg st fun v h' tk hv st' kk=>?_;obtain ⟨t,rfl⟩:=hv;have I1:Inv X pins σ H { s with heap:=h',toks:=tk }:=I.turned (fun b o hb e=>kk b o (by simpa using hb) e) f0 f1 f3 f4 f5;refine ⟨_,rfl,xm (s:={ s with heap:=h',toks:=tk }) (n:="range_iterator") st' rfl rfl (by decide) ⟨.int (lo+i),H,I1,⟨t,?_⟩,⟨rfl,rfl⟩,st',fun b hb=>(hf b hb).1⟩⟩;rw [Int.mul_one]
 done:=by
  intro X hP hw hK hc i pins s σ H E I hf st hg;subst hP hw hK;obtain ⟨f0,f1,f2,f3,f4,f5⟩:=hf it (by simp);exact wpAny_pyNext_range_end (I.ok.hd hc) st (by have:n<=i:=hg; omega) fun h' eb=>⟨rfl,I.turned (t':=s.toks) (fun b o hb e=>eb b o hb e) f0 f1 f3 f4 f5⟩
 self:=fun _ _ _ _ _ st h=>wpAny_pyIter_rangeiter st h
section
variable {X:Cx} {tg:II}
def DP (K:A_) (tl:TE):TI:=fun σ H R=>tl σ H fun x H1=>∃ a,x=.ref a/\(∃ xs,SqL K H1 a xs)/\R (Itl K a) H1
def F1 (K:A_) (tl:TE):TI:=fun σ H R=>tl σ H fun x H1=>∃ a,x=.ref a/\(∃ xs,SqT K H1 a xs)/\R (Itt K a) H1
theorem dh {l:II} {tl:TE} (hl:PE X l tl):PI X tg l (DP X.K tl):=by
 intro pins s σ H R I h;refine thn (hl pins s σ H _ I h) fun v s1 ⟨x,H1,I1,r1,q1⟩=>?_;obtain ⟨a,e,⟨xs,hq⟩,q⟩:=q1;subst e
 cases r1;obtain ⟨its,rv,p,hz⟩:=I1.list hq;refine NN p.isList ?_;refine ⟨s1.heap.objs.size,[s1.heap.objs.size],_,_,H1,rfl,I1.kept (t':=s1.toks) fun b o e=>Δ _ e,zm a _,⟨_,HE _ rfl,rfl,rfl⟩,fun b hb=>?_,q⟩;have e:b=s1.heap.objs.size:=by simpa using hb
 subst e;exact I1.fpOk (Ω _) (I1.hok.fresh (Ω _))
theorem EN {l:II} {tl:TE} (hl:PE X l tl):PI X tg l (F1 X.K tl):=by
 intro pins s σ H R I h;refine thn (hl pins s σ H _ I h) fun v s1 ⟨x,H1,I1,r1,q1⟩=>?_;obtain ⟨a,e,⟨xs,hq⟩,q⟩:=q1;subst e
 cases r1;obtain ⟨its,rv,p,hz⟩:=I1.tuple hq;refine LX (show s1.heap.IsTuple a its.toArray from p) ?_;refine ⟨s1.heap.objs.size,[s1.heap.objs.size],_,_,H1,rfl,I1.kept (t':=s1.toks) fun b o e=>Δ _ e,wX a _,⟨_,HE _ rfl,rfl,rfl⟩,fun b hb=>?_,q⟩;have e:b=s1.heap.objs.size:=by simpa using hb
 subst e;exact I1.fpOk (Ω _) (I1.hok.fresh (Ω _))
theorem AS {pins:List (ς×Iz)} {σ:St} {H:Hp} {s:χ} {R:It->Hp->Prop} {E:η->χ->Prop} {lo hi:Int} {t u v:Om} {tk:Nat} (I:Inv X pins σ H s) (h1:-(2 ^ 62)<=lo) (h2:lo<2 ^ 62) (h3:-(2 ^ 62)<=hi) (h4:hi<2 ^ 62)
  (q:R (Itr lo (hi - lo).toNat) H):BG (B_ X.prog X.w) X.A (pyIter (.ref s.heap.objs.size)) (PIE X pins σ tg R) E { s with heap:=s.heap.push { cls:=.type "range",data:=.fields #[.int lo t,.int hi u,.int 1 v] },toks:=tk }:=by
 refine wpAny_pyIter_range (IsRange.new ..) (small_one h1 h2 h3 h4) ?_;have I1:Inv X pins σ H { s with heap:=s.heap.push { cls:=.type "range",data:=.fields #[.int lo t,.int hi u,.int 1 v] },toks:=tk }:=I.kept fun b o e=>Δ _ e;refine ⟨(s.heap.push { cls:=.type "range",data:=.fields #[.int lo t,.int hi u,.int 1 v] }).objs.size,[(s.heap.push { cls:=.type "range",data:=.fields #[.int lo t,.int hi u,.int 1 v] }).objs.size],_,_,H,rfl,
  I1.kept (t':=tk) fun b o e=>Δ _ e,wW _ lo (hi - lo).toNat,?_,fun b hb=>?_,q⟩
 ·have e1:lo+((0:Nat):Int)*1=lo:=by simp
  have e2:(((hi - lo).toNat:Nat):Int) - ((0:Nat):Int)=Builtin.Range.rangeSize lo hi 1:=by rw [rangeSize_one]; split<;>omega
  show IsRangeIter _ _ (lo+((0:Nat):Int)*1) ((((hi - lo).toNat:Nat):Int) - ((0:Nat):Int)) 1
  rw [e1,e2];exact HE _ rfl
 ·have e:b=(s.heap.push { cls:=.type "range",data:=.fields #[.int lo t,.int hi u,.int 1 v] }).objs.size:=by simpa using hb
  subst e;exact I1.fpOk (Ω _) (I1.hok.fresh (Ω _))
def DQ (ta:TA):TI:=fun σ H R=>ta σ H fun vs H1=>∃ j:Int,vs=[.int j]/\-(2 ^ 62)<=j/\j<2 ^ 62/\R (Itr 0 j.toNat) H1
theorem ft {a:II} {ta:TA} {p pos:J8} (hg:Gl X "range") (hm:X.mg "range"=none) (ha:PA X [a] ta) (hs:D_ [a] X.env=[(false,Ip a X.env)]:=by rfl):PI X tg (.Call (.Name "range" p) [a] [] pos) (DQ ta):=by
 intro pins s σ H R I h;refine Call_ (lB I hg hm boot_range (Jm (thn (ha pos pins s σ H _ I h) fun us s1 ⟨vs,H1,I1,r1,q1⟩=>?_) hs rfl));obtain ⟨j,e,q1,q2,q⟩:=q1;subst e
 cases r1 with
 | cons r rr =>
  cases rr;obtain ⟨t,rfl⟩:=r;exact call_range_1 (AS I1 (by omega) (by omega) q1 q2 (by simpa using q))
def GL (wi:TI) (g:TG) (tb:TS):TS:=fun D σ H=>wi σ H fun J H1=>∃ W:Nat->Nat->St->Hp->Prop,(∃ m,W 0 m σ H1)/\∀ i m σ H,W i m σ H ->
 (J.stop i H/\D.nx σ H)\/(J.go i H/\∃ N:St->Hp->Prop,(∀ σ' H',N σ' H'->∃ m',m'<m/\W (i+1) m' σ' H')/\∀ x H',J.yld i H x H'->g x σ H' fun σ2 H2=>tb { D with nx:=N,ct:=N,bk:=D.nx } σ2 H2)
noncomputable def nQ (fp:List ς) (h:IC):List (ς×Iz):=fp.filterMap fun b=>(h.get? b).map fun o=>(b,o)
theorem gS {fp:List ς} {h:IC} {b:ς} {o:Iz} (hb:b∈fp) (e:h.get? b=some o):(b,o)∈nQ fp h:=K7.mpr ⟨b,hb,by rw [e]; rfl⟩
theorem yG {fp:List ς} {h:IC} {p:ς×Iz} (hp:p∈nQ fp h):p.1∈fp/\h.get? p.1=some p.2:=by
 obtain ⟨b,hb,e⟩:=K7.mp hp
 cases q:h.get? b with
 | none=>rw [q] at e; cases e
 | some o =>
  rw [q] at e;have e':(b,o)=p:=IT e;subst e';exact ⟨hb,q⟩
theorem Inv.pinned {pins:List (ς×Iz)} {σ:St} {H:Hp} {s:χ} {fp:List ς} (I:Inv X pins σ H s) (hf:∀ b∈fp,jz X pins H b) (ho:∀ b∈fp,∃ o,s.heap.get? b=some o/\∀ v,o.data≠.cell v):Inv X (pins++nQ fp s.heap) σ H s :=
 I.pins_of fun p hp=>(Hj.mp hp).elim (fun z=>I.pin p (IE _ z)) fun z=>by
  obtain ⟨hb,e⟩:=yG z;obtain ⟨f0,f1,f2,_⟩:=hf p.1 hb;obtain ⟨o,e',d⟩:=ho p.1 hb;rw [e] at e'; cases e';exact ⟨e,f0,f1,f2,d⟩
theorem Inv.unpinned {pins pl:List (ς×Iz)} {σ:St} {H:Hp} {s:χ} (I:Inv X (pins++pl) σ H s):Inv X pins σ H s:=I.pins_of fun p hp=>I.pin p (IE _ (Ji _ hp))
theorem fG {iter:II} {body:List Kf} {wi:TI} {g:TG} {tb:TS} {pos:J8} (hp:PassesOwn (B_ X.prog X.w) X.A X.env X.xe) (hc:X.calm=true) (hi:PI X tg iter wi) (hg:PG X tg g) (hb:PSs X body tb)
  (hs:∀ x,NQ iter X.env x=pure x:=by intro _; rfl):PS X (.For tg iter body [] pos) (GL wi g tb):=by
 intro pins s σ H D I h;refine wpAny_For (thn (hi pins s σ H _ I h) fun v s1 h1=>thn h1 fun itv s2 h2=>?_) hs;obtain ⟨it,fp,tn,J,H2,e,I2,T,st2,f2,W,⟨m0,w0⟩,turn⟩:=h2;subst e
 -- what stays true of the iterator's objects through the loop
 have stat:∀ {H':Hp},(∀ b∈fp,H' b=none)->∀ b∈fp,jz X pins H' b:=fun hn b hb=>⟨hn b hb,(f2 b hb).2⟩
 refine codeAny_forLoop_any (fun n s'=>∃ i σ' H',Inv X pins σ' H' s'/\tn i s'.heap/\(∀ b∈fp,H' b=none)/\W i n σ' H') ?_ m0 ⟨0,σ,H2,I2,st2,fun b hb=>(f2 b hb).1,w0⟩;rintro n s3 ⟨i,σ3,H3,I3,st3,fr3,w3⟩;rcases turn i n σ3 H3 w3 with ⟨stop,qn⟩ | ⟨go,N,hN,step⟩
 ·refine J1 hp (thn (T.done X rfl rfl rfl hc i pins s3 σ3 H3 X.xe I3 (stat fr3) st3 stop) fun r s4 ⟨hr,I4⟩=>?_);subst hr;exact MM ⟨σ3,H3,I4,qn⟩
 ·refine J1 hp (thn (T.item X rfl rfl rfl hc i pins s3 σ3 H3 X.xe I3 (stat fr3) st3 go) fun r s4 ⟨u,hr,h4⟩=>?_);subst hr;refine J1 hp (thn h4 fun _ s5 ⟨x,H5,I5,r5,y5,st5,fr5⟩=>?_);have I5':=I5.pinned (stat fr5) (T.obj _ _ st5);refine J1 hp (thn (hg _ s5 σ3 H5 x u _ I5' r5 (step x H5 y5)) fun _ s6 ⟨σ6,H6,I6,q6⟩=>?_);refine J1 hp (thn (hb _ s6 σ6 H6 _ I6 q6) fun f s7 q7=>?_);have again:∀ {σ7:St} {H7:Hp},Inv X (pins++nQ fp s5.heap) σ7 H7 s7->N σ7 H7->∃ m,m<n/\∃ i σ' H',Inv X pins σ' H' s7/\tn i s7.heap/\(∀ b∈fp,H' b=none)/\W i m σ' H':=fun {σ7 H7} I7 n7=>by
   obtain ⟨m',hm,w7⟩:=hN σ7 H7 n7;refine ⟨m',hm,i+1,σ7,H7,I7.unpinned,T.keep _ _ _ st5 fun b hb o e=>(I7.pin (b,o) (IE _ (IE _ (gS hb e)))).1,fun b hb=>?_,w7⟩;obtain ⟨o,e,d⟩:=T.obj _ _ st5 b hb;exact (I7.pin (b,o) (IE _ (IE _ (gS hb e)))).2.1
  cases f with
  | next => obtain ⟨σ7, H7, I7, n7⟩ := q7; exact again I7 n7
  | cont => obtain ⟨σ7, H7, I7, n7⟩ := q7; exact again I7 n7
  | brk => obtain ⟨σ7, H7, I7, q7⟩ := q7; exact ⟨σ7, H7, I7.unpinned, q7⟩
  | ret v => obtain ⟨x7, σ7, H7, I7, r7, q7⟩ := q7; exact ⟨x7, σ7, H7, I7.unpinned, r7, q7⟩
end
theorem Ab {K:A_} {a:ς} {xs:List V} {g:TG} {tb:TS} {D:dn} {σ:St} {H:Hp} (Pv:Nat->St->Hp->Prop) (h0:Pv 0 σ H) (hl:∀ i σ H,i<=xs.length->Pv i σ H->SqL K H a xs)
  (hs:∀ i x σ H,xs[i]?=some x->Pv i σ H->g x σ H fun σ2 H2=>tb { D with nx:=Pv (i+1),ct:=Pv (i+1),bk:=D.nx } σ2 H2) (hd:∀ σ H,Pv xs.length σ H->D.nx σ H) :
  ∃ W:Nat->Nat->St->Hp->Prop,(∃ m,W 0 m σ H)/\∀ i m σ H,W i m σ H ->
   ((Itl K a).stop i H/\D.nx σ H)\/((Itl K a).go i H/\∃ N:St->Hp->Prop,(∀ σ' H',N σ' H'->∃ m',m'<m/\W (i+1) m' σ' H')/\∀ x H',(Itl K a).yld i H x H'->g x σ H' fun σ2 H2=>tb { D with nx:=N,ct:=N,bk:=D.nx } σ2 H2):=by
 refine ⟨fun i m σ H=>m=xs.length - i/\i<=xs.length/\Pv i σ H,⟨xs.length,by simp,Hs _,h0⟩,?_⟩;rintro i m σ H ⟨rfl,hi,p⟩;have q:=hl i σ H hi p;by_cases hlt:i<xs.length
 ·refine .inr ⟨⟨xs,xs[i],q,by simp [hlt]⟩,Pv (i+1),fun σ' H' p'=>⟨xs.length - (i+1),by omega,rfl,hlt,p'⟩,fun x H' y=>?_⟩;obtain ⟨e,y⟩:=y;subst e;exact hs i x σ _ (y xs q) p
 ·have e:i=xs.length:=by omega
  subst e;exact .inl ⟨⟨xs,q,Ω _⟩,hd σ H p⟩
theorem Co {K:A_} {a:ς} {xs:List V} {g:TG} {tb:TS} {D:dn} {σ:St} {H:Hp} (Pv:Nat->St->Hp->Prop) (h0:Pv 0 σ H) (hl:∀ i σ H,i<=xs.length->Pv i σ H->SqT K H a xs)
  (hs:∀ i x σ H,xs[i]?=some x->Pv i σ H->g x σ H fun σ2 H2=>tb { D with nx:=Pv (i+1),ct:=Pv (i+1),bk:=D.nx } σ2 H2) (hd:∀ σ H,Pv xs.length σ H->D.nx σ H) :
  ∃ W:Nat->Nat->St->Hp->Prop,(∃ m,W 0 m σ H)/\∀ i m σ H,W i m σ H ->
   ((Itt K a).stop i H/\D.nx σ H)\/((Itt K a).go i H/\∃ N:St->Hp->Prop,(∀ σ' H',N σ' H'->∃ m',m'<m/\W (i+1) m' σ' H')/\∀ x H',(Itt K a).yld i H x H'->g x σ H' fun σ2 H2=>tb { D with nx:=N,ct:=N,bk:=D.nx } σ2 H2):=by
 refine ⟨fun i m σ H=>m=xs.length - i/\i<=xs.length/\Pv i σ H,⟨xs.length,by simp,Hs _,h0⟩,?_⟩;rintro i m σ H ⟨rfl,hi,p⟩;have q:=hl i σ H hi p;by_cases hlt:i<xs.length
 ·refine .inr ⟨⟨xs,xs[i],q,by simp [hlt]⟩,Pv (i+1),fun σ' H' p'=>⟨xs.length - (i+1),by omega,rfl,hlt,p'⟩,fun x H' y=>?_⟩;obtain ⟨e,y⟩:=y;subst e;exact hs i x σ _ (y xs q) p
 ·have e:i=xs.length:=by omega
  subst e;exact .inl ⟨⟨xs,q,Ω _⟩,hd σ H p⟩
theorem yp {lo:Int} {n:Nat} {g:TG} {tb:TS} {D:dn} {σ:St} {H:Hp} (Pv:Nat->St->Hp->Prop) (h0:Pv 0 σ H)
  (hs:∀ i σ H,i<n->Pv i σ H->g (.int (lo+i)) σ H fun σ2 H2=>tb { D with nx:=Pv (i+1),ct:=Pv (i+1),bk:=D.nx } σ2 H2) (hd:∀ σ H,Pv n σ H->D.nx σ H) :
  ∃ W:Nat->Nat->St->Hp->Prop,(∃ m,W 0 m σ H)/\∀ i m σ H,W i m σ H ->
   ((Itr lo n).stop i H/\D.nx σ H)\/((Itr lo n).go i H/\∃ N:St->Hp->Prop,(∀ σ' H',N σ' H'->∃ m',m'<m/\W (i+1) m' σ' H')/\∀ x H',(Itr lo n).yld i H x H'->g x σ H' fun σ2 H2=>tb { D with nx:=N,ct:=N,bk:=D.nx } σ2 H2):=by
 refine ⟨fun i m σ H=>m=n - i/\i<=n/\Pv i σ H,⟨n,by simp,Hs _,h0⟩,?_⟩;rintro i m σ H ⟨rfl,hi,p⟩;by_cases hlt:i<n
 ·refine .inr ⟨hlt,Pv (i+1),fun σ' H' p'=>⟨n - (i+1),by omega,rfl,hlt,p'⟩,fun x H' y=>?_⟩;obtain ⟨e,y⟩:=y;subst e y;exact hs i σ _ hlt p
 ·have e:i=n:=by omega
  subst e;exact .inl ⟨Ω _,hd σ H p⟩
noncomputable abbrev R2:=V->V->Hp->VK->Prop
def OpR (X:Cx) (f:η->η->LL η) (r:R2):Prop :=
 ∀ (pins:List (ς×Iz)) (s:χ) (σ:St) (H:Hp) (x y:V) (v u:η) (Q:VK),Inv X pins σ H s->bF x v->bF y u->r x y H Q ->
  BG (B_ X.prog X.w) X.A (f v u) (EP X pins σ Q) X.xe s
def UnR (X:Cx) (f:η->LL η) (r:V->Hp->VK->Prop):Prop :=
 ∀ (pins:List (ς×Iz)) (s:χ) (σ:St) (H:Hp) (x:V) (v:η) (Q:VK),Inv X pins σ H s->bF x v->r x H Q ->
  BG (B_ X.prog X.w) X.A (f v) (EP X pins σ Q) X.xe s
def b9 (X:Cx) (f:η) (r:List V->Hp->VK->Prop):Prop :=
 ∀ (pins:List (ς×Iz)) (s:χ) (σ:St) (H:Hp) (xs:List V) (us:List η) (Q:VK),Inv X pins σ H s->bq xs us->r xs H Q ->
  BG (B_ X.prog X.w) X.A (call f us) (EP X pins σ Q) X.xe s
def tOp (r:R2) (ta tb:TE):TE:=fun σ H Q=>ta σ H fun x H1=>tb σ H1 fun y H2=>r x y H2 Q
def tUn (r:V->Hp->VK->Prop) (ta:TE):TE:=fun σ H Q=>ta σ H fun x H1=>r x H1 Q
def rI (C:Int->Int->Prop) (g:Int->Int->V):R2:=fun x y H Q=>∃ i j,x=.int i/\y=.int j/\C i j/\Q (g i j) H
def rI0 (g:Int->Int->V):R2:=fun x y H Q=>∃ i j,x=.int i/\y=.int j/\Q (g i j) H
def rU (g:Int->V):V->Hp->VK->Prop:=fun x H Q=>∃ i,x=.int i/\Q (g i) H
section
variable {X:Cx} {a b c:II} {ta tb tc:TE} {pos:J8}
theorem Ek (ha:PE X a ta) (hb:PE X b tb) {pins:List (ς×Iz)} {s:χ} {σ:St} {H:Hp} {R:V->V->Hp->Prop} (I:Inv X pins σ H s)
  (h:ta σ H fun x H1=>tb σ H1 fun y H2=>R x y H2) {Q:η->χ->Prop} {f:η->η->LL η}
  (hf:∀ v u s2 x y H2,Inv X pins σ H2 s2->bF x v->bF y u->R x y H2->BG (B_ X.prog X.w) X.A (f v u) Q X.xe s2) :
  BG (B_ X.prog X.w) X.A (Ip a X.env) (fun v s₁=>BG (B_ X.prog X.w) X.A (Ip b X.env) (fun u s₂=>BG (B_ X.prog X.w) X.A (f v u) Q X.xe s₂) X.xe s₁) X.xe s:=by
 refine thn (ha pins s σ H _ I h) fun v s1 ⟨x,H1,I1,r1,q1⟩=>?_;refine thn (hb pins s1 σ H1 _ I1 q1) fun u s2 ⟨y,H2,I2,r2,q2⟩=>?_;exact hf v u s2 x y H2 I2 r1 r2 q2
theorem ay {op:Operator} {r:R2} (ho:OpR X (Lb op) r) (ha:PE X a ta) (hb:PE X b tb):PE X (.BinOp a op b pos) (tOp r ta tb):=by
 intro pins s σ H Q I h;exact wpAny_BinOp (Ek ha hb I h fun v u s2 x y H2 I2 rx ry q=>ho pins s2 σ H2 x y v u Q I2 rx ry q)
theorem Gd {op:UnaryOp} {r:V->Hp->VK->Prop} (ho:UnR X (unaryOp op) r) (ha:PE X a ta):PE X (.UnaryOp op a pos) (tUn r ta):=by
 intro pins s σ H Q I h;exact UnaryOp_ (thn (ha pins s σ H _ I h) fun v s1 ⟨x,H1,I1,r1,q1⟩=>ho pins s1 σ H1 x v Q I1 r1 q1)
theorem opI {f:η->η->LL η} {C:Int->Int->Prop} {g:Int->Int->Int}
  (rule:∀ (i j:Int) (t u:Om) (s:χ) (Q:η->χ->Prop) (E:η->χ->Prop),C i j->Q (.int (g i j) s.toks) { s with toks:=s.toks+1 }->BG (B_ X.prog X.w) X.A (f (.int i t) (.int j u)) Q E s) :
  OpR X f (rI C fun i j=>.int (g i j)):=by
 intro pins s σ H x y v u Q I rx ry h;obtain ⟨i,j,rfl,rfl,hc,q⟩:=h;obtain ⟨t,rfl⟩:=rx;obtain ⟨t',rfl⟩:=ry;exact rule i j t t' s _ _ hc ⟨.int (g i j),H,I.tok _,⟨_,rfl⟩,q⟩
theorem Ga {f:η->η->LL η} {g:Int->Int->Int}
  (rule:∀ (i j:Int) (t u:Om) (s:χ) (Q:η->χ->Prop) (E:η->χ->Prop),Q (.int (g i j) s.toks) { s with toks:=s.toks+1 }->BG (B_ X.prog X.w) X.A (f (.int i t) (.int j u)) Q E s) :
  OpR X f (rI0 fun i j=>.int (g i j)):=by
 intro pins s σ H x y v u Q I rx ry h;obtain ⟨i,j,rfl,rfl,q⟩:=h;obtain ⟨t,rfl⟩:=rx;obtain ⟨t',rfl⟩:=ry;exact rule i j t t' s _ _ ⟨.int (g i j),H,I.tok _,⟨_,rfl⟩,q⟩
theorem CB {f:η->η->LL η} {g:Int->Int->Bool}
  (rule:∀ (i j:Int) (t u:Om) (s:χ) (Q:η->χ->Prop) (E:η->χ->Prop),Q (.bool (g i j)) s->BG (B_ X.prog X.w) X.A (f (.int i t) (.int j u)) Q E s) :
  OpR X f (rI0 fun i j=>.bl (g i j)):=by
 intro pins s σ H x y v u Q I rx ry h;obtain ⟨i,j,rfl,rfl,q⟩:=h;obtain ⟨t,rfl⟩:=rx;obtain ⟨t',rfl⟩:=ry;exact rule i j t t' s _ _ ⟨.bl (g i j),H,I,rfl,q⟩
def GW (i j:Int):Prop:=0<j/\j<1073741824
def GX (i j:Int):Prop:=0<=j/\j<=1000000/\i.natAbs<2 ^ 64
def B7 (i j:Int):Prop:=(-(2 ^ 64)<i/\i<2 ^ 64)\/(-(2 ^ 64)<j/\j<2 ^ 64)
theorem B7.ok {i j:Int} (h:B7 i j):IntMulOk i j:=by
 rcases h with ⟨h1,h2⟩ | ⟨h1,h2⟩
 ·exact .of_left (intBits_le_64 h1 h2)
 ·exact .of_right (intBits_le_64 h1 h2)
theorem bf:OpR X (Lb .Add) (rI0 fun i j=>.int (i+j)):=Ga fun _ _ _ _ _ _ _ q=>add_int q
theorem fE:OpR X (Lb .Sub) (rI0 fun i j=>.int (i - j)):=Ga fun _ _ _ _ _ _ _ q=>sub_int q
theorem jQ:OpR X (Lb .Mult) (rI B7 fun i j=>.int (i*j)):=opI fun _ _ _ _ _ _ _ hc q=>mul_int q hc.ok
theorem kJ:OpR X (Lb .FloorDiv) (rI GW fun i j=>.int (i / j)):=opI fun i j _ _ _ _ _ hc q=>by
 have h1:(0:Int)<j:=hc.1;have h2:j<1073741824:=hc.2;exact floordiv_int (by omega) (by rw [Int.fdiv_eq_ediv_of_nonneg i (by omega)]; exact q) (.inl (PyProof.noPylong_small (by omega)))
theorem bB:OpR X (Lb .Mod) (rI (fun _ j=>0<j) fun i j=>.int (i%j)):=opI fun i j _ _ _ _ _ hc q=>by
 have h1:(0:Int)<j:=hc;exact mod_int' (by omega) (by rw [Int.fmod_eq_emod_of_nonneg i (by omega)]; exact q)
theorem EH:OpR X (Lb .Pow) (rI GX fun i j=>.int (i ^ j.toNat)):=opI fun _ _ _ _ _ _ _ hc q=>pow_int_small hc.1 hc.2.1 hc.2.2 q
theorem unI {f:η->LL η} {g:Int->Int}
  (rule:∀ (i:Int) (t:Om) (s:χ) (Q:η->χ->Prop) (E:η->χ->Prop),Q (.int (g i) s.toks) { s with toks:=s.toks+1 }->BG (B_ X.prog X.w) X.A (f (.int i t)) Q E s) :
  UnR X f (rU fun i=>.int (g i)):=by
 intro pins s σ H x v Q I rx h;obtain ⟨i,rfl,q⟩:=h;obtain ⟨t,rfl⟩:=rx;exact rule i t s _ _ ⟨.int (g i),H,I.tok _,⟨_,rfl⟩,q⟩
theorem FD:UnR X (unaryOp .USub) (rU fun i=>.int (-i)):=unI fun _ _ _ _ _ q=>neg_int q
end
noncomputable def GF:V->V->Bool
 | .non,.non=>true | .non,.int _=>true | .int _,.non=>true | .non,.bl _=>true | .bl _,.non=>true | .non,.str _=>true | .str _,.non=>true
 | .int _,.int _=>true | .bl _,.bl _=>true | .str _,.str _=>true | .byt _,.byt _=>true
 | .int _,.str _=>true | .str _,.int _=>true | .bl _,.str _=>true | .str _,.bl _=>true
 | _,_=>false
def rEq:R2:=fun x y H Q=>GF x y=true/\Q (.bl (decide (x=y))) H
def rNe:R2:=fun x y H Q=>GF x y=true/\Q (.bl (!decide (x=y))) H
theorem my {i j:Int}:decide (V.int i=V.int j)=(i==j):=by
 rw [Ks];simp
theorem zT {i j:Bool}:decide (V.bl i=V.bl j)=(i==j):=by
 rw [Ks];simp
theorem xg {i j:Str}:decide (V.str i=V.str j)=(i==j):=by
 rw [Ks];simp
theorem w9 {i j:Array UInt8}:decide (V.byt i=V.byt j)=(i.toList==j.toList):=by
 rw [Ks]
 cases i
 cases j;simp
section
variable {X:Cx} {a b c:II} {ta tb tc:TE} {pos:J8}
theorem bK {pins:List (ς×Iz)} {σ:St} {H:Hp} {s:χ} {Q:VK} {k k':Bool} (I:Inv X pins σ H s) (q:Q (.bl k) H) (e:k=k'):EP X pins σ Q (.bool k') s:=by
 subst e;exact ⟨.bl k,H,I,rfl,q⟩
theorem bD:OpR X (Ie .Eq) rEq:=by
 intro pins s σ H x y v u Q I rx ry h;obtain ⟨hs,q⟩:=h
 cases x with
 | non =>
  cases rx
  cases y with
  | non => cases ry; exact PySem.EqNone.eq_none_none (bK I q (by simp))
  | bl j => cases ry; exact PySem.EqNone.eq_none_bool (bK I q (by simp))
  | int j => obtain ⟨t', rfl⟩ := ry; exact PySem.EqNone.eq_none_int (bK I q (by simp))
  | str j => obtain ⟨t', rfl⟩ := ry; exact PySem.EqNone.eq_none_str (bK I q (by simp))
  | _ => exact absurd (show false = true from hs) IB
 | bl i =>
  cases rx
  cases y with
  | non => cases ry; exact PySem.EqNone.eq_bool_none (bK I q (by simp))
  | bl j => cases ry; exact eq_bool (bK I q zT)
  | str j => obtain ⟨t', rfl⟩ := ry; exact PySem.EqMixed.eq_bool_str (bK I q (by simp))
  | _ => exact absurd (show false = true from hs) IB
 | int i =>
  obtain ⟨t,rfl⟩:=rx
  cases y with
  | non => cases ry; exact PySem.EqNone.eq_int_none (bK I q (by simp))
  | int j => obtain ⟨t', rfl⟩ := ry; exact eq_int (bK I q my)
  | str j => obtain ⟨t', rfl⟩ := ry; exact PySem.EqMixed.eq_int_str (bK I q (by simp))
  | _ => exact absurd (show false = true from hs) IB
 | str i =>
  obtain ⟨t,rfl⟩:=rx
  cases y with
  | non => cases ry; exact PySem.EqNone.eq_str_none (bK I q (by simp))
  | bl j => cases ry; exact PySem.EqMixed.eq_str_bool (bK I q (by simp))
  | int j => obtain ⟨t', rfl⟩ := ry; exact PySem.EqMixed.eq_str_int (bK I q (by simp))
  | str j => obtain ⟨t', rfl⟩ := ry; exact eq_str (bK I q xg)
  | _ => exact absurd (show false = true from hs) IB
 | byt i =>
  obtain ⟨t,rfl⟩:=rx
  cases y with
  | byt j => obtain ⟨t', rfl⟩ := ry; exact W.eq_bytes (bK I q w9)
  | _ => exact absurd (show false = true from hs) IB
 | _=>cases y<;>exact absurd (show false=true from hs) IB
theorem gG:OpR X (Ie .NotEq) rNe:=by
 intro pins s σ H x y v u Q I rx ry h;obtain ⟨hs,q⟩:=h
 cases x with
 | non =>
  cases rx
  cases y with
  | non => cases ry; exact PySem.EqNone.ne_none_none (bK I q (by simp))
  | bl j => cases ry; exact PySem.EqNone.ne_none_bool (bK I q (by simp))
  | int j => obtain ⟨t', rfl⟩ := ry; exact PySem.EqNone.ne_none_int (bK I q (by simp))
  | str j => obtain ⟨t', rfl⟩ := ry; exact PySem.EqNone.ne_none_str (bK I q (by simp))
  | _ => exact absurd (show false = true from hs) IB
 | bl i =>
  cases rx
  cases y with
  | non => cases ry; exact PySem.EqNone.ne_bool_none (bK I q (by simp))
  | bl j => cases ry; exact ne_bool (bK I q (congrArg not zT))
  | str j => obtain ⟨t', rfl⟩ := ry; exact PySem.EqMixed.ne_bool_str (bK I q (by simp))
  | _ => exact absurd (show false = true from hs) IB
 | int i =>
  obtain ⟨t,rfl⟩:=rx
  cases y with
  | non => cases ry; exact PySem.EqNone.ne_int_none (bK I q (by simp))
  | int j => obtain ⟨t', rfl⟩ := ry; exact ne_int (bK I q (congrArg not my))
  | str j => obtain ⟨t', rfl⟩ := ry; exact PySem.EqMixed.ne_int_str (bK I q (by simp))
  | _ => exact absurd (show false = true from hs) IB
 | str i =>
  obtain ⟨t,rfl⟩:=rx
  cases y with
  | non => cases ry; exact PySem.EqNone.ne_str_none (bK I q (by simp))
  | bl j => cases ry; exact PySem.EqMixed.ne_str_bool (bK I q (by simp))
  | int j => obtain ⟨t', rfl⟩ := ry; exact PySem.EqMixed.ne_str_int (bK I q (by simp))
  | str j => obtain ⟨t', rfl⟩ := ry; exact ne_str (bK I q (congrArg not xg))
  | _ => exact absurd (show false = true from hs) IB
 | byt i =>
  obtain ⟨t,rfl⟩:=rx
  cases y with
  | byt j => obtain ⟨t', rfl⟩ := ry; exact W.ne_bytes (bK I q (congrArg not w9))
  | _ => exact absurd (show false = true from hs) IB
 | _=>cases y<;>exact absurd (show false=true from hs) IB
theorem nN:OpR X (Ie .Lt) (rI0 fun i j=>.bl (decide (i<j))):=CB fun _ _ _ _ _ _ _ q=>lt_int q
theorem DU:OpR X (Ie .LtE) (rI0 fun i j=>.bl (decide (i<=j))):=CB fun _ _ _ _ _ _ _ q=>le_int q
theorem kK:OpR X (Ie .Gt) (rI0 fun i j=>.bl (decide (j<i))):=CB fun _ _ _ _ _ _ _ q=>gt_int q
theorem Gb:OpR X (Ie .GtE) (rI0 fun i j=>.bl (decide (j<=i))):=CB fun _ _ _ _ _ _ _ q=>ge_int q
theorem lG:OpR X (Ie .In) (fun x y H Q=>∃ i j,x=.str i/\y=.str j/\Q (.bl (!(Jh j i 0 j.length 1).isEmpty)) H):=by
 intro pins s σ H x y v u Q I rx ry h;obtain ⟨i,j,rfl,rfl,q⟩:=h;obtain ⟨t,rfl⟩:=rx;obtain ⟨t',rfl⟩:=ry;exact in_str (bK I q rfl)
theorem rJ:OpR X (Ie .Is) (fun x y H Q=>y=.non/\Q (.bl (decide (x=.non))) H):=by
 intro pins s σ H x y v u Q I rx ry h;obtain ⟨rfl,q⟩:=h
 cases ry;refine is_none_gen (bK I q ?_)
 cases x<;>first
  | (cases rx; rfl)
  | (obtain ⟨t, rfl⟩ := rx; rfl)
theorem CC:OpR X (Ie .IsNot) (fun x y H Q=>y=.non/\Q (.bl (!decide (x=.non))) H):=by
 intro pins s σ H x y v u Q I rx ry h;obtain ⟨rfl,q⟩:=h
 cases ry;refine isnot_none_gen (bK I q ?_)
 cases x<;>first
  | (cases rx; rfl)
  | (obtain ⟨t, rfl⟩ := rx; rfl)
theorem Ar (b:II) {op:Ox} (h:op≠.In:=by decide) (h2:op≠.NotIn:=by decide):KQ op b=false:=by
 have e1:(op==CmpOp.In)=false:=by cases op<;>first | rfl | exact absurd rfl h
 have e2:(op==CmpOp.NotIn)=false:=by cases op<;>first | rfl | exact absurd rfl h2
 cases b<;>simp [KQ,e1,e2]
theorem mJ {op:Ox} {r:R2} (ho:OpR X (Ie op) r) (ha:PE X a ta) (hb:PE X b tb) (hm:KQ op b=false):PE X (.Compare a [op] [b] pos) (tOp r ta tb):=by
 intro pins s σ H Q I h;exact wpAny_Compare1 (Ek ha hb I h fun v u s2 x y H2 I2 rx ry q=>ho pins s2 σ H2 x y v u Q I2 rx ry q) hm
def BX (t:TE):TT:=fun σ H Q=>t σ H fun x H'=>∃ k,x=.bl k/\Q k H'
theorem fh {op:Ox} {r:R2} (ho:OpR X (Ie op) r) (ha:PE X a ta) (hb:PE X b tb) (hm:KQ op b=false):PT X (.Compare a [op] [b] pos) (BX (tOp r ta tb)):=by
 intro pins s σ H Q I h;refine wpAny_isTrue_Compare1 (thn (ha pins s σ H _ I h) fun v s1 ⟨x,H1,I1,r1,q1⟩=>thn (hb pins s1 σ H1 _ I1 q1) fun u s2 ⟨y,H2,I2,r2,q2⟩ =>
  thn (ho pins s2 σ H2 x y v u _ I2 r1 r2 q2) fun c s3 ⟨z,H3,I3,r3,k,e,q3⟩=>?_) hm
 subst e
 cases r3;exact Jl ⟨H3,I3,q3⟩
def BL (r r':R2) (ta tb tc:TE):TE:=fun σ H Q=>ta σ H fun x H1=>tb σ H1 fun y H2=>r x y H2 fun z H3=>∃ k,z=.bl k /\
 (if k=true then tc σ H3 fun w' H4=>r' y w' H4 Q else Q (.bl false) H3)
theorem nO {op op':Ox} {r r':R2} (ho:OpR X (Ie op) r) (ho':OpR X (Ie op') r') (ha:PE X a ta) (hb:PE X b tb) (hc:PE X c tc)
  (hm:lastMarks [op,op'] [b,c]=false:=by with_unfolding_all rfl):PE X (.Compare a [op,op'] [b,c] pos) (BL r r' ta tb tc):=by
 intro pins s σ H Q I h;refine Compare_chain (thn (ha pins s σ H _ I h) fun v s1 ⟨x,H1,I1,r1,q1⟩=>chain_link (thn (hb pins s1 σ H1 _ I1 q1) fun u s2 ⟨y,H2,I2,r2,q2⟩ =>
  thn (ho pins s2 σ H2 x y v u _ I2 r1 r2 q2) fun d s3 ⟨z,H3,I3,r3,k,e,q3⟩=>?_)) hm
 subst e
 cases r3;refine Jl ?_
 cases k with
 | false=>exact ite_ff ⟨.bl false,H3,I3,rfl,q3⟩
 | true=>exact ite_tt (chain_last (thn (hc pins s3 σ H3 _ I3 q3) fun w' s4 ⟨z',H4,I4,r4,q4⟩=>ho' pins s4 σ H4 y z' u w' Q I4 r2 r4 q4))
theorem lC:(BC:Nat)<2 ^ 63:=by rw [K4]; decide
theorem cS:OpR X (Lb .Add) (fun x y H Q=>∃ i j,x=.str i/\y=.str j/\i.length+j.length<=BC/\Q (.str (i++j)) H):=by
 intro pins s σ H x y v u Q I rx ry h;obtain ⟨i,j,rfl,rfl,hz,q⟩:=h;obtain ⟨t,rfl⟩:=rx;obtain ⟨t',rfl⟩:=ry;exact add_str (fun t' tk=>⟨.str (i++j),H,I.tok _,⟨_,rfl⟩,q⟩) hz
theorem jj {x:V} {us:List η} (r:bq [x] us):∃ u,us=[u]/\bF x u:=by
 cases r with
 | cons r1 r2=>cases r2; exact ⟨_,rfl,r1⟩
theorem GS {x y:V} {us:List η} (r:bq [x,y] us):∃ u w',us=[u,w']/\bF x u/\bF y w':=by
 cases r with
 | cons r1 r2 =>
  cases r2 with
  | cons r3 r4 => cases r4; exact ⟨_, _, rfl, r1, r3⟩
theorem zI:b9 X (.builtin "abs") (fun xs H Q=>∃ i,xs=[.int i]/\Q (.int (if i<0 then -i else i)) H):=by
 intro pins s σ H xs us Q I r h;obtain ⟨i,rfl,q⟩:=h;obtain ⟨u,rfl,t,rfl⟩:=jj r;exact call_abs_int fun u tk=>⟨.int (if i<0 then -i else i),H,I.tok _,⟨_,rfl⟩,q⟩
theorem yf (hc:X.calm=true):b9 X (.builtin "max") (fun xs H Q=>∃ i j,xs=[.int i,.int j]/\Q (.int (if j > i then j else i)) H):=by
 intro pins s σ H xs us Q I r h;obtain ⟨i,j,rfl,q⟩:=h;obtain ⟨u,w',rfl,⟨t,rfl⟩,⟨t',rfl⟩⟩:=GS r;refine max_two_ints (I.ok.hd hc) fun h' tk k=>⟨_,H,I.kept k,?_,q⟩
 by_cases hj:j > i
 ·rw [if_pos hj,if_pos hj]; exact ⟨_,rfl⟩
 ·rw [if_neg hj,if_neg hj]; exact ⟨_,rfl⟩
theorem yd:b9 X (.type "int") (fun xs H Q=>(∃ i,xs=[.int i]/\Q (.int i) H)\/∃ k,xs=[.bl k]/\Q (.int (if k then 1 else 0)) H):=by
 intro pins s σ H xs us Q I r h;rcases h with ⟨i,rfl,q⟩ | ⟨k,rfl,q⟩
 ·obtain ⟨u,rfl,t,rfl⟩:=jj r;exact call_int_int ⟨.int i,H,I,⟨_,rfl⟩,q⟩
 ·obtain ⟨u,rfl,r1⟩:=jj r
  cases r1;exact call_int_bool ⟨.int (if k then 1 else 0),H,I.tok _,⟨_,rfl⟩,q⟩
theorem qO:b9 X (.type "str") (fun xs H Q=>∃ i,xs=[.int i]/\i.natAbs.log2<1920/\Q (.str (toString i)) H):=by
 intro pins s σ H xs us Q I r h;obtain ⟨i,rfl,hz,q⟩:=h;obtain ⟨u,rfl,t,rfl⟩:=jj r;exact PySem.P.str_of_int hz ⟨.str _,H,I.tok _,⟨_,rfl⟩,q⟩
end
structure vG (h:IC) (x dx C:ς) (mA:Str->Option η):Prop where
 obj:h.get? x=some (LF C dx)
 ns:h.Ns1 dx mA
 ne:dx≠x
theorem yD {h:IC} {dx:ς} {mA:Str->Option η} (n:h.Ns1 dx mA):∃ od,h.get? dx=some od/\∀ name,W.lookIn name od=some (mA name):=by
 obtain ⟨o,es,ep,ho,hd,hk,_,hm⟩:=n;refine ⟨o,ho,fun name=>?_⟩;have e:=hm name;unfold nsFind findBy at e;rw [<- Array.find?_toList] at e;unfold W.lookIn;rw [hd];dsimp only
 split
 ·rename_i y q;rw [q] at e;exact congrArg some e
 ·rename_i q;rw [q] at e
  have a:es.toList.any (·.refKey)=false:=by
   rw [List.any_eq_false];intro y hy;obtain ⟨z,t,hkey⟩:=hk y (MC.mp hy);simp [DictEntry.refKey,hkey]
  have a':¬ es.toList.any (·.refKey)=true:=by rw [a]; exact IB
  rw [if_neg a'];exact congrArg some e
theorem vG.look {h:IC} {x dx C:ς} {mA:Str->Option η} (I:vG h x dx C mA):∃ od,PySem.W.InstAt h x (LF C dx) C (some od)/\∀ name,W.lookIn name od=some (mA name) :=
 let ⟨od,ho,hl⟩:=yD I.ns
 ⟨od,⟨I.obj,rfl,rfl,ho⟩,hl⟩
section
variable {prog:HS} {w:ID} {A:IA} {E:η->χ->Prop} {s:χ} {K:A_} {x dx C f:ς} {mA:Str->Option η} {name:Str} {v:η}
theorem Cr {expr:Bool} {Q:η->χ->Prop} (X:K.In s.heap) (I:vG s.heap x dx C mA) (hg:MB K C name=true) (hh:MP K C=true)
  (ha:JG K (.ref C) name=some none) (hv:mA name=some v) (hv':W.handedIn v=true) (h:Q v { s with toks:=s.toks+1 }) :
  BG (B_ prog w) A (getAttr (.ref x) name expr) Q E s:=by
 obtain ⟨od,J,hl⟩:=I.look;exact W.get_value X J (OJ hg).1 (W.findObj_own hh ha rfl (by rw [hl,hv])) hv' h
theorem Ae {pl:LL Bool} {Q:η×List η->χ->Prop} (X:K.In s.heap) (I:vG s.heap x dx C mA) (hg:MB K C name=true)
  (hf:JG K (.ref C) name=some (some (.ref f))) (ht:W.isFn K (.ref f)=true) (hv:mA name=none) (h:Q (.ref f,[.ref x]) s) :
  BG (B_ prog w) A (LP (.ref x) name pl) Q E s:=by
 obtain ⟨od,J,hl⟩:=I.look;exact W.method_fn X J (OJ hg).1 (OJ hg).2 hf (beq_iff_eq.mp ht) (by show (W.lookIn name od).map (·.isSome)=some false; rw [hl,hv]; rfl) h
theorem Dw {ns:List Str} {Q:Unit->χ->Prop} (X:K.In s.heap) (I:vG s.heap x dx C mA)
  (hs:JG K (.ref C) "__setattr__"=some (some (.builtin "object.__setattr__"))) (hp:Nb K C=true) (ht:W.takerIn K C name=some none) (hh:MP K C=true)
  (hw:Lk mA ns) (hsz:ns.length<=BC)
  (h:∀ h',vG h' x dx C (fun y=>if y=name then some v else mA y)->Jj dx s.heap h'->Q () { s with heap:=h',toks:=s.toks+2 }) :
  BG (B_ prog w) A (setAttr (.ref x) name v) Q E s:=by
 obtain ⟨od,J,hl⟩:=I.look;refine W.set_plain X J hs (W.osa_open (s:={ s with toks:=s.toks+1 }) (r:=none) X J hp ht fun b=>?_);obtain ⟨cd,hc,hd'⟩:=W.any_some hh;have hx:s.heap.get? x=some ⟨.ref C,some dx,.plain,#[]⟩:=I.obj;refine θ (Aw (θ (θ (Ma hx (θ (PySem.W.Looks.here (s:={ s with toks:=s.toks+1 }) (W.looks_clsIn X hc) ?_))))));rw [hd'];refine Aw (a:=some dx) (θ (Aw (θ ?_)));refine wpAny_nsSet1 (s:={ s with toks:=s.toks+1 }) I.ns fun h' hn2 hs2=>?_;obtain ⟨oD,esD,epD,hoD,hdD,hcD⟩:=hn2.count (Ly name v hw);refine θ (Nh hoD (by rw [hdD]; exact Nl (BA hcD (by rw [HM]; omega))) ?_);exact Aw (h _ ⟨(hs2.2 _ (IL I.ne)).trans I.obj,hn2,I.ne⟩ hs2)
theorem uI {R:Result->χ->Prop} {vs:List η} {kw:List (Str×η)} (X:K.In s.heap) (hm:OV K C=true)
  (hi:JG K (.ref C) "__init__"=some (some (.ref f))) (hf:NB K (.ref f)=some (.type "function"))
  (h:KR (B_ prog w) (A.under (.builtin "type.__call__" ⟨.ref C::vs,kw⟩)) (.call (.ref f) ⟨.ref (s.heap.objs.size+1)::vs,kw⟩) (PySem.W.InitBack (s.heap.objs.size+1) R)
   { s with heap:=(s.heap.push KS).push (LF C s.heap.objs.size) }) :
  KR (B_ prog w) A (.call (.ref C) ⟨vs,kw⟩) R s:=by
 obtain ⟨hh,g,d,t,os⟩:=s;exact W.make_core (W.makes_of X hm) (W.looks_findIn X hi) (fun self=>W.bind_fn X self hf) (.inl rfl) h
end
noncomputable def cU (f:Str) (v:V):List (Str×V)->List (Str×V)
 | []=>[(f,v)]
 | (g,x)::r=>if g=f then (g,v)::r else (g,x)::cU f v r
theorem aC (f g:Str) (v:V):∀ fs:List (Str×V),(cU f v fs).lookup g=if g=f then some v else fs.lookup g
 | []=>by
  show J5 g [(f,v)]=_
  by_cases h:g=f
  ·have hb:(g==f)=true:=beq_iff_eq.mpr h;simp only [J5,hb,if_pos h]
  ·have hb:(g==f)=false:=beq_eq_false_iff_ne.mpr h;simp only [J5,hb,if_neg h]
 | (k,x)::r=>by
  have ih:=aC f g v r;rw [show cU f v ((k,x)::r)=(if k=f then (k,v)::r else (k,x)::cU f v r) from rfl];by_cases hk:k=f
  ·rw [if_pos hk];by_cases h:g=k
   ·have hb:(g==k)=true:=beq_iff_eq.mpr h;simp only [J5,hb,if_pos (h.trans hk)]
   ·have hb:(g==k)=false:=beq_eq_false_iff_ne.mpr h;simp only [J5,hb,if_neg (fun e:g=f=>h (e.trans hk.symm))]
  ·rw [if_neg hk];by_cases h:g=k
   ·have hb:(g==k)=true:=beq_iff_eq.mpr h;simp only [J5,hb,if_neg (fun e:g=f=>hk (h.symm.trans e))]
   ·have hb:(g==k)=false:=beq_eq_false_iff_ne.mpr h;simp only [J5,hb];exact ih
theorem gE (f:Str) (v:V):∀ fs:List (Str×V),f∈(cU f v fs).map (·.1)/\∀ g,g∈fs.map (·.1)->g∈(cU f v fs).map (·.1)
 | []=>⟨by simp [cU],fun g h=>by simp at h⟩
 | (k,x)::r=>by
  obtain ⟨i1,i2⟩:=gE f v r;rw [show cU f v ((k,x)::r)=(if k=f then (k,v)::r else (k,x)::cU f v r) from rfl];by_cases hk:k=f
  ·rw [if_pos hk];subst hk;exact ⟨by simp,fun g h=>by simpa using h⟩
  ·rw [if_neg hk];refine ⟨?_,fun g h=>?_⟩
   ·rw [Ho];exact Au _ i1
   ·rw [Ho] at h ⊢;rcases Ξ.mp h with e | e
    ·exact Ξ.mpr (.inl e)
    ·exact Au _ (i2 g e)
theorem bC (f:Str) (v:V):∀ fs:List (Str×V),(cU f v fs).length<=fs.length+1
 | []=>by simp [cU]
 | (k,x)::r=>by
  have ih:=bC f v r;rw [show cU f v ((k,x)::r)=(if k=f then (k,v)::r else (k,x)::cU f v r) from rfl];by_cases hk:k=f
  ·rw [if_pos hk,HM,HM]; omega
  ·rw [if_neg hk,HM,HM]; omega
theorem gz.some_of {v:V} {o:Option η} (r:gz (some v) o):∃ u,o=some u/\bF v u:=by
 cases o with
 | none=>exact (show False from r).elim
 | some u=>exact ⟨u,rfl,r⟩
theorem gz.none_of {o:Option η} (r:gz none o):o=none:=by
 cases o with
 | none=>rfl
 | some u=>exact (show False from r).elim
theorem yq {v:V} {u:η} (r:bF v u):W.handedIn u=true:=by
 cases v with
 | non=>cases (show u=Il from r); rfl
 | bl b=>cases (show u=Li b from r); rfl
 | int i=>obtain ⟨t,e⟩:=(show ∃ t,u=MD i t from r); cases e; rfl
 | str x=>obtain ⟨t,e⟩:=(show ∃ t,u=K0 x t from r); cases e; rfl
 | byt b=>obtain ⟨t,e⟩:=(show ∃ t,u=Value.bytes b t from r); cases e; rfl
 | flt b=>obtain ⟨t,e⟩:=(show ∃ t,u=OM b t from r); cases e; rfl
 | ref a=>cases (show u=Bl a from r); rfl
 | ty n=>cases (show u=MQ n from r); rfl
section
variable {P:HS} {w:ID} {H H':Hp} {h h':IC} {a C dx:ς} {fs fs':List (Str×V)}
theorem mE (hok:HOk P w H h) (e:H a=some (.ins C dx fs)):∃ mA,vG h a dx C mA/\(∀ f,gz (fs.lookup f) (mA f))/\Lk mA (fs.map (·.1))/\fs.length<=1000/\H dx=some (.own a):=by
 obtain ⟨d,z,ne,ob,mA,n,r,q⟩:=(show bP P w H h a (.ins C dx fs) from hok a _ e)
 exact ⟨mA,⟨ob,n,ne⟩,r,q,z,d⟩
end
structure Cls (K:A_) (C:ς):Prop where
 pg:MB K C JT=true
 hd:MP K C=true
 po:Nb K C=true
 sa:JG K (.ref C) "__setattr__"=some (some (.builtin "object.__setattr__"))
theorem Cls.get {K:A_} {C:ς} (c:Cls K C) (f:Str):MB K C f=true:=c.pg
def de (K:A_) (C:ς) (f:Str):Prop:=JG K (.ref C) f=some none
theorem de.taker {K:A_} {C:ς} {f:Str} (n:de K C f):W.takerIn K C f=some none:=by
 unfold W.takerIn;rw [show JG K (.ref C) f=some none from n];rfl
structure Con (K:A_) (C:ς) (f:Str) (v:V) (u:η):Prop where
 at_:JG K (.ref C) f=some (some u)
 rel:bF v u
 get:Kw K u "__get__"=some none
 cp:W.copiedNames.contains f=false
structure eA (K:A_) (C:ς) (m:Str) (f:ς):Prop where
 at_:JG K (.ref C) m=some (some (.ref f))
 fn:W.isFn K (.ref f)=true
 kp:Ke K (.ref f)=true
section
variable {X:Cx} {pins:List (ς×Iz)} {σ:St} {H:Hp} {s:χ} {a C dx:ς} {fs:List (Str×V)} {f:Str} {v:V} {A:IA} {E:η->χ->Prop}
theorem vS {b:Bool} {Q:η->χ->Prop} (I:Inv X pins σ H s) (e:H a=some (.ins C dx fs)) (c:Cls X.K C) (n:de X.K C f) (l:fs.lookup f=some v)
  (h:∀ u s',Inv X pins σ H s'->bF v u->Q u s'):BG (B_ X.prog X.w) A (getAttr (.ref a) f b) Q E s:=by
 obtain ⟨mA,O,r,_,_,_⟩:=mE I.hok e;obtain ⟨u,hu,ru⟩:=gz.some_of (v:=v) (o:=mA f) (by rw [<- l]; exact r f);exact Cr I.kIn O (c.get f) c.hd n hu (yq ru) (h u _ (I.tok _) ru)
theorem gR {m:Str} {g:ς} {pl:LL Bool} {Q:η×List η->χ->Prop} (I:Inv X pins σ H s) (e:H a=some (.ins C dx fs)) (c:Cls X.K C) (k:eA X.K C m g) (l:fs.lookup m=none)
  (h:Q (.ref g,[.ref a]) s):BG (B_ X.prog X.w) A (LP (.ref a) m pl) Q E s:=by
 obtain ⟨mA,O,r,_,_,_⟩:=mE I.hok e;have hn:mA m=none:=gz.none_of (by rw [<- l]; exact r m);exact Ae I.kIn O (c.get m) k.at_ k.fn hn h
theorem wD {y:V} {u:η} {Q:Unit->χ->Prop} (I:Inv X pins σ H s) (e:H a=some (.ins C dx fs)) (c:Cls X.K C) (n:de X.K C f) (hl:fs.length<1000) (ry:bF y u)
  (h:∀ s',Inv X pins σ (upd H a (.ins C dx (cU f y fs))) s'->Q () s'):BG (B_ X.prog X.w) A (setAttr (.ref a) f u) Q E s:=by
 obtain ⟨mA,O,r,wi,_,ho⟩:=mE I.hok e;have hz:(fs.map (·.1)).length<=sizeLine:=by rw [ξ,K4]; omega
 refine Dw I.kIn O c.sa c.po n.taker c.hd wi hz fun h' O' sb=>h _ ?_;have hd:∃ o,h'.get? dx=some o:=let ⟨o,_,_,e',_⟩:=O'.ns; ⟨o,e'⟩;refine I.write (x:=a) (e:=dx) (by rw [e]; exact JI) (.inr ho) (fun b q hb z=>(sb.2 b hb).trans z) hd ?_;refine ⟨by rw [aE O.ne]; exact ho,?_,O.ne,O'.obj,_,O'.ns,fun g=>?_,fun g hg=>?_⟩
 ·have:=bC f y fs; omega
 ·show gz ((cU f y fs).lookup g) (if g=f then some u else mA g)
  rw [aC];by_cases q:g=f
  ·rw [if_pos q,if_pos q]; exact ry
  ·rw [if_neg q,if_neg q]; exact r g
 ·by_cases q:g=f
  ·rw [q]; exact (gE f y fs).1
  ·refine (gE f y fs).2 g (wi g fun z=>hg ?_)
   show (if g=f then some u else mA g)=none
   rw [if_neg q]; exact z
theorem Inv.made (I:Inv X pins σ H s):Inv X pins σ (upd (upd H s.heap.objs.size (.own (s.heap.objs.size+1))) (s.heap.objs.size+1) (.ins C s.heap.objs.size []))
  { s with heap:=(s.heap.push KS).push (LF C s.heap.objs.size) }:=by
 have e1:(s.heap.push KS).get? s.heap.objs.size=some W.emptyDict:=HE s.heap rfl
 have e2:((s.heap.push KS).push (LF C s.heap.objs.size)).get? (s.heap.objs.size+1)=some (LF C s.heap.objs.size):=by
  have:=HE (s.heap.push KS) (o:=LF C s.heap.objs.size) rfl
  rwa [JJ] at this
 have e3:(s.heap.push KS).Ns s.heap.objs.size (fun _=>none):=⟨KS,#[],_,e1,rfl,(fun e he=>absurd he (by simp)),fun _=>rfl⟩
 have I1:=I.laid (a:=s.heap.objs.size) (o:=.own (s.heap.objs.size+1)) (h':=s.heap.push KS) (t':=s.toks) (fun b u q=>Δ _ q) (Ω _) ⟨_,e1⟩;refine I1.laid (a:=s.heap.objs.size+1) (o:=.ins C s.heap.objs.size []) (t':=s.toks) (fun b u q=>Δ _ q) (OO (JJ _ _)) ?_;have ne:s.heap.objs.size≠s.heap.objs.size+1:=Hi (Kl _);refine ⟨by rw [aE ne,af],Hs _,ne,e2,fun _=>none,(OS e3).at fun o q=>Δ _ q,fun _=>JI,fun y hy=>absurd rfl hy⟩
theorem Cd {prog:HS} {w:ID} {env:LU} {e:II} {f:Str} {pos:J8} {s:χ} {Q:η->χ->Prop} (hb:Kz e f env (Ip e env)=Ip e env)
  (h:BG (B_ prog w) A (Ip e env) (fun o s₁=>BG (B_ prog w) A (getAttr o f true) Q E s₁) E s):BG (B_ prog w) A (Ip (.Attribute e f pos) env) Q E s :=
 Attribute_any_ h (by rw [arm_eval_Attribute,hb])
end
def Fy (K:A_) (ta:TE) (f:Str):TE:=fun σ H Q=>ta σ H fun x H1=>∃ a C dx fs v,x=.ref a/\H1 a=some (.ins C dx fs)/\Cls K C/\de K C f/\fs.lookup f=some v/\Q v H1
def GD (K:A_) (ta tv:TE) (f:Str):TS:=fun D σ H=>tv σ H fun y H1=>ta σ H1 fun x H2=>∃ a C dx fs,x=.ref a/\H2 a=some (.ins C dx fs)/\Cls K C/\de K C f/\fs.length<1000 /\
 D.nx σ (upd H2 a (.ins C dx (cU f y fs)))
section
variable {X:Cx} {o e value:II} {f:Str} {pos pos' tpos:J8} {ta tv:TE}
theorem EI (he:PE X e ta) (hb:Kz e f X.env (Ip e X.env)=Ip e X.env):PE X (.Attribute e f pos) (Fy X.K ta f):=by
 intro pins s σ H Q I h;refine Cd hb (thn (he pins s σ H _ I h) fun u s1 ⟨x,H1,I1,rx,a,C,dx,fs,v,ex,ea,c,n,l,q⟩=>?_);subst ex;obtain rfl:u=Bl a:=rx
 exact vS I1 ea c n l fun u' s2 I2 ru=>⟨v,H1,I2,ru,q⟩
theorem eV (ha:PE X o ta) (hv:PE X value tv) (hs:L7 value (some (.Attribute o f pos')) pos.line X.env=pure false):PS X (.Assign [.Attribute o f pos'] value pos) (GD X.K ta tv f):=by
 intro pins s σ H D I h;refine Na (thn (hv pins s σ H _ I h) fun u s1 ⟨y,H1,I1,ry,q⟩=>thn (ha pins s1 σ H1 _ I1 q) fun ov s2 ⟨x,H2,I2,rx,a,C,dx,fs,ex,ea,c,n,l,q2⟩=>?_) hs;subst ex;obtain rfl:ov=Bl a:=rx
 exact wD I2 ea c n l ry fun s3 I3=>⟨σ,_,I3,q2⟩
end
section
variable {X:Cx} {pins:List (ς×Iz)} {σ:St} {H:Hp} {s:χ} {A:IA} {E:η->χ->Prop} {Q:η->χ->Prop} {c:η} {b:Bool}
inductive jA (K:A_) (H:Hp):V->η->Prop where
  | non : jA K H .non (.type "NoneType")
  | bl (x : Bool) : jA K H (.bl x) (.type "bool")
  | int (i : Int) : jA K H (.int i) (.type "int")
  | str (x : Str) : jA K H (.str x) (.type "str")
  | flt (x : UInt64) : jA K H (.flt x) (.type "float")
  | lst {a : ς} {xs : List V} (e : H a = some (.lst xs)) : jA K H (.ref a) (.type "list")
  | frz {a : ς} {o : Iz} {xs : List V} (e : H a = some (.frz o (.lst xs))) : jA K H (.ref a) (.type "list")
  | tup {a : ς} {xs : List V} (e : H a = some (.tup xs)) : jA K H (.ref a) (.type "tuple")
  | dK {a : ς} {kvs : List (Key × V)} (e : H a = some (.dK kvs)) : jA K H (.ref a) (.type "dict")
  | dT {a : ς} {kvs : List (List Key × V)} (e : H a = some (.dT kvs)) : jA K H (.ref a) (.type "dict")
  | ins {a C dx : ς} {fs : List (Str × V)} (e : H a = some (.ins C dx fs)) (cl : Cls K C) (ha : JG K (.ref C) "__class__" = some (some (.builtin "object.__class__")))
      (hn:Kw K (.builtin "object.__class__") "__get__"=some (some (.builtin "getset_descriptor.__get__"))) (htk:W.takesIn K (.builtin "object.__class__")=some true)
      (hm:Lf K C (.type "object")=some true):jA K H (.ref a) (.ref C)
theorem yu {x:V} {u t:η} (I:Inv X pins σ H s) (rx:bF x u) (ty:jA X.K H x t) (e:IF X.K t c=some b) (h:∀ tk,Q (.bool b) { s with toks:=tk }) :
  BG (B_ X.prog X.w) A (call (.builtin "isinstance") [u,c]) Q E s:=by
 cases ty with
 | non=>cases (show u=Il from rx); exact Jz W.kitx_none I.kIn JI e (fun z=>nomatch z) h
 | bl y=>cases (show u=Li y from rx); exact Jz W.kitx_bool I.kIn JI e (fun z=>nomatch z) h
 | int i=>obtain ⟨t,q⟩:=(show ∃ t,u=MD i t from rx); cases q; exact Jz W.kitx_int I.kIn JI e (fun z=>nomatch z) h
 | str y=>obtain ⟨t,q⟩:=(show ∃ t,u=K0 y t from rx); cases q; exact Jz W.kitx_str I.kIn JI e (fun z=>nomatch z) h
 | flt y=>obtain ⟨t,q⟩:=(show ∃ t,u=OM y t from rx); cases q; exact Jz W.kitx_float I.kIn JI e (fun z=>nomatch z) h
 | @lst a xs ea =>
  cases (show u=Bl a from rx)
  obtain ⟨_,_,n,_,h1⟩:=(show bP X.prog X.w H s.heap a (.lst xs) from I.hok a _ ea)
  exact Jz W.kitx_list I.kIn ⟨_,h1,rfl⟩ e (fun z=>nomatch z) h
 | @frz a ob xs ea =>
  cases (show u=Bl a from rx)
  obtain ⟨_,_,_,n,_,h1⟩:=(show bP X.prog X.w H s.heap a (.frz ob (.lst xs)) from I.hok a _ ea)
  exact Jz W.kitx_list I.kIn ⟨_,h1,rfl⟩ e (fun z=>nomatch z) h
 | @tup a xs ea =>
  cases (show u=Bl a from rx)
  obtain ⟨_,_,_,p⟩:=(show bP X.prog X.w H s.heap a (.tup xs) from I.hok a _ ea)
  obtain ⟨o,h1,h2,_⟩:=p;exact Jz W.kitx_tuple I.kIn ⟨o,h1,h2⟩ e (fun z=>nomatch z) h
 | @dK a kvs ea =>
  cases (show u=Bl a from rx)
  obtain ⟨_,_,vs,_,p⟩:=(show bP X.prog X.w H s.heap a (.dK kvs) from I.hok a _ ea)
  obtain ⟨o,es,ep,h1,h2,_⟩:=p;exact Jz W.kitx_dict I.kIn ⟨o,h1,h2.1⟩ e (fun z=>nomatch z) h
 | @dT a kvs ea =>
  cases (show u=Bl a from rx)
  obtain ⟨_,_,xs,_,o,es,ep,h1,h2,_⟩:=(show bP X.prog X.w H s.heap a (.dT kvs) from I.hok a _ ea)
  exact Jz W.kitx_dict I.kIn ⟨o,h1,h2.1⟩ e (fun z=>nomatch z) h
 | @ins a C dx fs ea cl ha hn htk hm =>
  cases (show u=Bl a from rx)
  obtain ⟨mA,O,_⟩:=mE I.hok ea;obtain ⟨od,J,_⟩:=O.look;exact Jz (W.kitx_own (cl.get _) cl.hd ha hn htk hm) I.kIn J e (fun z=>nomatch z) h
end
structure cM (k:Nat) (A:IA):Prop where
 hd:A.handled=none
 dp:A.depth+3*k+5<recursionLimit
 un:A.units+16*k+200<L_
theorem cM.mono {j k:Nat} {A:IA} (r:cM k A) (h:j<=k):cM j A:=⟨r.hd,by have:=r.dp; omega,by have:=r.un; omega⟩
theorem cM.deeper {k:Nat} {A:IA} (r:cM (k+1) A) (env:LU):cM k (A.deeper env) :=
 ⟨r.hd,by have:=r.dp; show A.depth+1+3*k+5<_; omega,by have:=r.un; show A.units+3+16*k+200<_; omega⟩
theorem vV {A:IA} {C:ς} {us:List η} {kw:List (Str×η)}:(A.under (.builtin "type.__call__" ⟨.ref C::us,kw⟩)).depth=A.depth+1:=by
 first | rfl | simp [N5,Code.weight,Code.isCreation,Code.isGuard,Code.isCaller,Code.frames,OC,guardIds]
theorem vW {A:IA} {C:ς} {us:List η} {kw:List (Str×η)}:(A.under (.builtin "type.__call__" ⟨.ref C::us,kw⟩)).units=A.units+1:=by
 first | rfl | simp [N5,Code.cUnits,Code.frames,OC]
theorem cM.make {k:Nat} {A:IA} (r:cM (k+1) A) (C:ς) (us:List η) (kw:List (Str×η)):cM k (A.under (.builtin "type.__call__" ⟨.ref C::us,kw⟩)) :=
 ⟨r.hd,by have:=r.dp; rw [vV]; omega,by have:=r.un; rw [vW]; omega⟩
theorem cM.depth {k:Nat} {A:IA} (r:cM k A):A.depth<recursionLimit:=by have:=r.dp; omega
theorem cM.units {k:Nat} {A:IA} (r:cM k A):A.units+64<cLine:=by have:=r.un; omega
def BW:TA:=fun _ H Q=>Q [] H
def D6 (ta:TE) (tr:TA):TA:=fun σ H Q=>ta σ H fun x H1=>tr σ H1 fun xs H2=>Q (x::xs) H2
section
variable {X:Cx} {e:II} {es:List II} {te:TE} {t:TA} {pos:J8}
theorem ae:PA X [] BW:=fun _ _ _ _ H Q I h=>Oz ⟨[],H,I,.nil,h⟩
theorem aa (ha:PE X e te) (hr:PA X es t) (hs:D_ (e::es) X.env=(false,Ip e X.env)::D_ es X.env:=by rfl):PA X (e::es) (D6 te t):=by
 intro pos pins s σ H Q I h;rw [hs]
 show BG _ _ (spliced ((false,Ip e X.env)::JD pos (D_ es X.env))) _ _ s
 refine Oe (thn (ha pins s σ H _ I h) fun u s1 ⟨x,H1,I1,r1,q1⟩=>?_);exact thn (hr pos pins s1 σ H1 _ I1 q1) fun us s2 ⟨xs,H2,I2,r2,q2⟩=>⟨x::xs,H2,I2,.cons r1 r2,q2⟩
def GR (t:TA):TE:=fun σ H Q=>t σ H fun xs H1=>xs.length<=BC/\∀ p,H1 p=none->Q (.ref p) (upd H1 p (.tup xs))
def DF (t:TA):TE:=fun σ H Q=>t σ H fun xs H1=>xs.length<=BC/\∀ p,H1 p=none->Q (.ref p) (upd H1 p (.lst xs))
theorem bh {x1} (h:PA X es t):PE X (.Tuple es x1 pos) (GR t):=by
 intro pins s σ H Q I hq;refine wpAny_Tuple_spliced (thn (h pos pins s σ H _ I hq) fun us s1 ⟨xs,H1,I1,r,z,q⟩=>⟨by rw [<- r.length]; exact z,?_⟩);have hf:H1 s1.heap.objs.size=none:=I1.hok.fresh (Ω _);refine ⟨.ref s1.heap.objs.size,upd H1 s1.heap.objs.size (.tup xs),I1.laid (t':=s1.toks) (fun b u e=>Δ _ e) (Ω _) ?_,rfl,q _ hf⟩;exact ⟨z,us,r,⟨_,HE _ rfl,rfl,_,rfl⟩⟩
theorem bO (h:PA X es t):PE X (.List es pos) (DF t):=by
 intro pins s σ H Q I hq;refine wpAny_List_spliced (thn (h pos pins s σ H _ I hq) fun us s1 ⟨xs,H1,I1,r,z,q⟩=>⟨by rw [<- r.length]; exact z,?_⟩);have hf:H1 s1.heap.objs.size=none:=I1.hok.fresh (Ω _);refine ⟨.ref s1.heap.objs.size,upd H1 s1.heap.objs.size (.lst xs),I1.laid (t':=s1.toks) (fun b u e=>Δ _ e) (Ω _) ?_,rfl,q _ hf⟩;exact ⟨z,us,0,r,HE _ rfl⟩
end
noncomputable abbrev Sp:=List V->Hp->VK->XK->Prop
noncomputable abbrev CXT:=List LU->Hp->χ->XK->η->χ->Prop
structure tT (P:HS) (w:ID) (K:A_) (mg:Str->Option η) (base:IC) (A:IA) (outer:List LU) (s:χ) (H:Hp):Prop where
 frames:A.frames=some outer
 mod:Mod K mg base
 bs:∀ b o,base.get? b=some o->s.heap.get? b=some o/\H b=none
 bsz:base.objs.size<=s.heap.objs.size
 funs:s.heap.FunFrames base outer
 frf:∀ b∈frs outer,H b=none
 hok:HOk P w H s.heap
 bare:LN s.gens
def CE (outer:List LU) (P:HS) (w:ID) (H:Hp) (s:χ) (Q:VK) (u:η) (s':χ):Prop :=
 ∃ v H',s'.os=s.os/\LN s'.gens/\Un (frs outer) [] H H' s.heap s'.heap/\HOk P w H' s'.heap/\bF v u/\Q v H'
def CR (CX:CXT) (outer:List LU) (P:HS) (w:ID) (H:Hp) (s:χ) (Q:VK) (E:XK) (r:Result) (s':χ):Prop :=
 match r with
 | .ok (.ret u)=>CE outer P w H s Q u s'
 | .ok _=>False
 | .error e=>CX outer H s E e s'
structure aR (P:HS) (w:ID) (K:A_) (mg:Str->Option η) (base:IC) (CX:CXT) (k:Nat) (f:ς) (fd:IJ) (ps:List Str) (sp:Sp):Prop where
 len:∀ vs H Q E,sp vs H Q E->vs.length=ps.length
 run:∀ (A:IA) (outer:List LU) (s:χ) (H:Hp) (args:Args) (us:List η) (vs:List V) (Q:VK) (E:XK),cM k A->tT P w K mg base A outer s H->NZ s fd args (ps.zip us)->bq vs us->sp vs H Q E ->
  KR (B_ P w) A (.call (.ref f) args) (CR CX outer P w H s Q E) s
theorem tT.make {P:HS} {w:ID} {K:A_} {mg:Str->Option η} {base:IC} {A:IA} {outer:List LU} {s:χ} {H:Hp} (e:tT P w K mg base A outer s H) (C:ς) (us:List η) (kw:List (Str×η)) :
  tT P w K mg base (A.under (.builtin "type.__call__" ⟨.ref C::us,kw⟩)) outer s H:=⟨by first | exact e.frames | (simpa [N5,Code.envs,OC,pushEnvs] using e.frames),e.mod,e.bs,e.bsz,e.funs,e.frf,e.hok,e.bare⟩
section
variable {X:Cx} {pins:List (ς×Iz)} {σ:St} {H:Hp} {s s':χ}
theorem Inv.env0 (I:Inv X pins σ H s):tT X.prog X.w X.K X.mg X.base X.A X.stack s H :=
 ⟨I.ok.frames,I.ok.mod,I.bs,BA I.ok.bsz I.sz,I.stack,I.stkFree,I.hok,I.bare⟩
theorem Inv.after {Q:VK} {u:η} (I:Inv X pins σ H s) (h:CE X.stack X.prog X.w H s Q u s'):EP X pins σ Q u s':=by
 obtain ⟨v,H',os,bare,un,hok,r,q⟩:=h;obtain ⟨hh,g,d,t,os'⟩:=s';obtain rfl:os'=s.os:=os
 exact ⟨v,H',I.call (h':=hh) (g':=g) (d':=d) (t':=t) (ch:=[]) un hok bare (fun b z=>absurd z (by simp)),r,q⟩
end
def xT (sp:Sp) (dvs:List V) (E:XK) (t:TA):TE:=fun σ H Q=>t σ H fun vs H1=>sp (vs++dvs) H1 Q E
def BV (C:ς) (m:Str) (sp:Sp) (dvs:List V) (E:XK) (ta:TE) (t:TA):TE:=fun σ H Q=>ta σ H fun x H1=>∃ a dx fs,x=.ref a/\H1 a=some (.ins C dx fs)/\fs.lookup m=none /\
 t σ H1 fun vs H2=>sp (x::(vs++dvs)) H2 Q E
def BR (C:ς) (sp:Sp) (dvs:List V) (E:XK) (t:TA):TE:=fun σ H Q=>t σ H fun vs H1=>∀ x dx,H1 x=none->H1 dx=none->dx≠x ->
 sp (.ref x::(vs++dvs)) (upd (upd H1 dx (.own x)) x (.ins C dx [])) (fun v H2=>v=.non/\Q (.ref x) H2) E
def aJ (K:A_) (fd:IJ) (ps:List Str) (ds:List η):Prop :=
 ∀ (s:χ) (us:List η),K.In s.heap->(us++ds).length=ps.length->NZ s fd ⟨us,[]⟩ (ps.zip (us++ds))
theorem aJ.all {K:A_} {fd:IJ} {ps:List Str} (h:∀ us:List η,us.length=ps.length->MA fd ⟨us,[]⟩=pure (ps.zip us)):aJ K fd ps []:=fun s us _ hl=>by
 rw [Kr] at hl ⊢;exact .of_eq (h us hl)
def fx (CX:CXT) (X:Cx) (E:XK):Prop:=∀ (pins:List (ς×Iz)) (σ:St) (H:Hp) (s:χ) (e:η) (s':χ),Inv X pins σ H s->CX X.stack H s E e s'->X.xe e s'
section
variable {X:Cx} {CX:CXT} {k:Nat} {f C:ς} {fd:IJ} {ps:List Str} {sp:Sp} {dvs:List V} {ds:List η} {E:XK} {x m:Str} {p pos apos:J8} {e o:II} {es:List II} {ta:TE} {t:TA}
theorem rV {pins:List (ς×Iz)} {σ:St} {H:Hp} {s:χ} {Q:VK} {us:List η} {vs:List V} (F:aR X.prog X.w X.K X.mg X.base CX k f fd ps sp) (hr:cM k X.A) (hb:aJ X.K fd ps ds) (hd:bq dvs ds) (hx:fx CX X E)
  (I:Inv X pins σ H s) (r:bq vs us) (h:sp (vs++dvs) H Q E):BG (B_ X.prog X.w) X.A (call (.ref f) us) (EP X pins σ Q) X.xe s:=by
 have r2:bq (vs++dvs) (us++ds):=r.append hd;have hl:(us++ds).length=ps.length:=by rw [<- r2.length]; exact F.len _ _ _ _ h
 refine Jw (JM (F.run X.A X.stack s H ⟨us,[]⟩ (us++ds) (vs++dvs) Q E hr I.env0 (hb s us I.kIn hl) r2 h) fun r s' hq=>?_)
 cases r with
 | error e=>exact hx pins σ H s e s' I hq
 | ok fl =>
  cases fl with
  | ret u => exact I.after hq
  | next => exact Hz hq
  | brk => exact Hz hq
  | cont => exact Hz hq
theorem aD (F:aR X.prog X.w X.K X.mg X.base CX k f fd ps sp) (hr:cM k X.A) (hg:Gl X x) (hm:X.mg x=some (.ref f)) (hk:Ke X.K (.ref f)=true) (hb:aJ X.K fd ps ds) (hd:bq dvs ds) (hx:fx CX X E)
  (ha:PA X (e::es) t) (hdb:(x==("__debug__":Str))=false:=by decide) (he:D_ (e::es) X.env=(false,Ip e X.env)::D_ es X.env:=by rfl) (hpl:(JD pos (D_ es X.env)).any (·.1)=false:=by rfl) :
  PE X (.Call (.Name x p) (e::es) [] pos) (xT sp dvs E t):=by
 intro pins s σ H Q I h;refine JF (dN I hg hm ?_ hdb);refine Js (h₀:=X.base) I.ok.mod.kin hk (thn (ha pos pins s σ H _ I h) fun us s1 ⟨vs,H1,I1,r,q⟩=>⟨I1.kIn,?_⟩) he hpl;exact rV F hr hb hd hx I1 r q
theorem bH {pl:LL Bool} (he:PE X o ta) (c:Cls X.K C) (hm:eA X.K C m f) (F:aR X.prog X.w X.K X.mg X.base CX k f fd ps sp) (hr:cM k X.A) (hb:aJ X.K fd ps ds) (hd:bq dvs ds) (hx:fx CX X E) (ha:PA X (e::es) t)
  (hst:D_ (e::es) X.env=(false,Ip e X.env)::D_ es X.env:=by rfl) (hpl:(JD pos (D_ es X.env)).any (·.1)=false:=by rfl)
  (ht:Ip (.Call (.Attribute o m apos) (e::es) [] pos) X.env=(do
   let ov <- Ip o X.env
   Mm apos.atName
   let (f,first) <- Lo [ov] (LP ov m pl)
   Mc pos f first (JD pos (D_ (e::es) X.env)) (Lc pos (KG [] X.env))):=by rfl) :
  PE X (.Call (.Attribute o m apos) (e::es) [] pos) (BV C m sp dvs E ta t):=by
 intro pins s σ H Q I h;refine KP (pl:=pl) (thn (he pins s σ H _ I h) fun u s1 ⟨x,H1,I1,rx,a,dx,fs,ex,ea,l,q⟩=>?_) ht;subst ex;obtain rfl:u=Bl a:=rx
 refine gR I1 ea c hm l ?_;refine Js (first:=[.ref a]) (h₀:=X.base) I.ok.mod.kin hm.kp (thn (ha pos pins s1 σ H1 _ I1 q) fun us s2 ⟨vs,H2,I2,r,q2⟩=>⟨I2.kIn,?_⟩) hst hpl;exact rV (us:=.ref a::us) (vs:=.ref a::vs) F hr hb hd hx I2 (.cons rfl r) q2
theorem aT {pl:LL Bool} (he:PE X o ta) (c:Cls X.K C) (hm:eA X.K C m f) (F:aR X.prog X.w X.K X.mg X.base CX k f fd ps sp) (hr:cM k X.A) (hb:aJ X.K fd ps ds) (hd:bq dvs ds) (hx:fx CX X E)
  (ht:Ip (.Call (.Attribute o m apos) [] [] pos) X.env=(do
   let ov <- Ip o X.env
   Mm apos.atName
   let (f,first) <- Lo [ov] (LP ov m pl)
   Mc pos f first (JD pos (D_ [] X.env)) (Lc pos (KG [] X.env))):=by rfl) :
  PE X (.Call (.Attribute o m apos) [] [] pos) (BV C m sp dvs E ta BW):=by
 intro pins s σ H Q I h;refine KP (pl:=pl) (thn (he pins s σ H _ I h) fun u s1 ⟨x,H1,I1,rx,a,dx,fs,ex,ea,l,q⟩=>?_) ht;subst ex;obtain rfl:u=Bl a:=rx
 refine gR I1 ea c hm l ?_;exact OL (first:=[.ref a]) I1.kIn hm.kp (rV (us:=[.ref a]) (vs:=[.ref a]) F hr hb hd hx I1 (.cons rfl .nil) q)
structure Mk (K:A_) (C f:ς):Prop where
 makes:OV K C=true
 init:JG K (.ref C) "__init__"=some (some (.ref f))
 fn:W.isFn K (.ref f)=true
 kp:Ke K (.ref C)=true
theorem u9 {pins:List (ς×Iz)} {σ:St} {H:Hp} {s:χ} {Q:VK} {us:List η} {vs:List V} (M:Mk X.K C f) (F:aR X.prog X.w X.K X.mg X.base CX k f fd ps sp) (hr:cM (k+1) X.A) (hb:aJ X.K fd ps ds) (hd:bq dvs ds)
  (hx:fx CX X E) (I:Inv X pins σ H s) (r:bq vs us)
  (h:∀ x dx,H x=none->H dx=none->dx≠x->sp (.ref x::(vs++dvs)) (upd (upd H dx (.own x)) x (.ins C dx [])) (fun v H2=>v=.non/\Q (.ref x) H2) E) :
  BG (B_ X.prog X.w) X.A (call (.ref C) us) (EP X pins σ Q) X.xe s:=by
 have hq:=h (s.heap.objs.size+1) s.heap.objs.size (I.hok.fresh (MK _)) (I.hok.fresh (Ω _)) (Hi (Kl _));have I2:=Inv.made (C:=C) I;have r2:bq (V.ref (s.heap.objs.size+1)::(vs++dvs)) (Bl (s.heap.objs.size+1)::(us++ds)):=.cons rfl (r.append hd)
 have hl:(Bl (s.heap.objs.size+1)::us++ds).length=ps.length:=by
  have e:=r2.length;rw [F.len _ _ _ _ hq] at e;exact e.symm
 refine Jw (uI (f:=f) I.kIn M.makes M.init (beq_iff_eq.mp M.fn) (JM (F.run _ X.stack _ _ ⟨Bl (s.heap.objs.size+1)::us,[]⟩ (Bl (s.heap.objs.size+1)::(us++ds)) _ _ E (hr.make C us [])
  (I2.env0.make C us []) (hb _ (Bl (s.heap.objs.size+1)::us) I2.kIn hl) r2 hq) fun r s' hq'=>?_))
 cases r with
 | error e=>exact hx pins σ _ _ e s' I2 hq'
 | ok fl =>
  cases fl with
  | ret u =>
   obtain ⟨v,H',I3,rv,ev,q3⟩:=I2.after hq';subst ev;exact ⟨rv,⟨V.ref (s.heap.objs.size+1),H',I3,rfl,q3⟩⟩
  | next => exact Hz hq'
  | brk => exact Hz hq'
  | cont => exact Hz hq'
theorem jt (M:Mk X.K C f) (F:aR X.prog X.w X.K X.mg X.base CX k f fd ps sp) (hr:cM (k+1) X.A) (hg:Gl X x) (hm:X.mg x=some (.ref C)) (hb:aJ X.K fd ps ds) (hd:bq dvs ds) (hx:fx CX X E)
  (ha:PA X (e::es) t) (hdb:(x==("__debug__":Str))=false:=by decide) (he:D_ (e::es) X.env=(false,Ip e X.env)::D_ es X.env:=by rfl) (hpl:(JD pos (D_ es X.env)).any (·.1)=false:=by rfl) :
  PE X (.Call (.Name x p) (e::es) [] pos) (BR C sp dvs E t):=by
 intro pins s σ H Q I h;refine JF (dN I hg hm ?_ hdb);refine Js (h₀:=X.base) I.ok.mod.kin M.kp (thn (ha pos pins s σ H _ I h) fun us s1 ⟨vs,H1,I1,r,q⟩=>⟨I1.kIn,?_⟩) he hpl;exact u9 M F hr hb hd hx I1 r q
theorem uV (M:Mk X.K C f) (F:aR X.prog X.w X.K X.mg X.base CX k f fd ps sp) (hr:cM (k+1) X.A) (hg:Gl X x) (hm:X.mg x=some (.ref C)) (hb:aJ X.K fd ps ds) (hd:bq dvs ds) (hx:fx CX X E)
  (hdb:(x==("__debug__":Str))=false:=by decide):PE X (.Call (.Name x p) [] [] pos) (BR C sp dvs E BW):=by
 intro pins s σ H Q I h;refine JF (dN I hg hm ?_ hdb);exact OL I.kIn M.kp (u9 (us:=[]) M F hr hb hd hx I .nil h)
end
structure aA (N P:List Str) (sc:LG):Prop where
 kind:sc.kind=.function
 co:sc.isCoroutine=false
 gen:sc.isGenerator=false
 nd:N.Nodup
 pre:N.take P.length=P
 par:∀ x∈P,sc.names.lookup x=some .local\/sc.names.lookup x=some .cell
 nofree:∀ y∈sc.names,y.2≠.free
theorem p8 {Ku:Str->Option Ld} {x:Str}:∀ {binds:List (Str×η)} {m:Str->Option η},(∀ v,(x,v)∉binds)->Oj Ku binds m x=m x
 | [],_,_=>rfl
 | (n,v)::r,m,h=>by
  unfold Oj;rw [p8 fun w hw=>h w (Au _ hw)]
  split
  ·have:x≠n:=by rintro rfl; exact h v Θ
   simp [this]
  ·rfl
theorem pZ {Ku:Str->Option Ld} {x:Str}:∀ {binds:List (Str×η)} {m:Str->Option η},(∀ v,(x,v)∉binds)->Ol Ku binds m x=m x
 | [],_,_=>rfl
 | (n,v)::r,m,h=>by
  unfold Ol;rw [pZ fun w hw=>h w (Au _ hw)]
  split
  ·rfl
  ·have:x≠n:=by rintro rfl; exact h v Θ
   simp [this]
theorem p7 {Ku:Str->Option Ld} {x:Str} {v:η}:∀ {P:List Str} {vs:List η} {i:Nat} {m:Str->Option η},P.Nodup->P[i]?=some x->vs[i]?=some v->Ku x=some .local ->
  Oj Ku (P.zip vs) m x=some v
 | [],_,_,_,_,h,_,_=>by simp at h
 | _::_,[],_,_,_,_,h,_=>by simp at h
 | p::P,w::vs,0,m,nd,h1,h2,hk=>by
  simp at h1 h2; subst h1; subst h2
  show Oj Ku ((p,w)::P.zip vs) m p=_
  unfold Oj;rw [p8 fun v hv=>(Jo.mp nd).1 (Lw hv).1,if_pos hk];simp
 | p::P,w::vs,i+1,m,nd,h1,h2,hk=>by
  show Oj Ku ((p,w)::P.zip vs) m x=_
  unfold Oj;exact p7 (i:=i) (Jo.mp nd).2 (by simpa using h1) (by simpa using h2) hk
theorem pY {Ku:Str->Option Ld} {x:Str} {v:η}:∀ {P:List Str} {vs:List η} {i:Nat} {m:Str->Option η},P.Nodup->P[i]?=some x->vs[i]?=some v->Ku x≠some .local ->
  Ol Ku (P.zip vs) m x=some v
 | [],_,_,_,_,h,_,_=>by simp at h
 | _::_,[],_,_,_,_,h,_=>by simp at h
 | p::P,w::vs,0,m,nd,h1,h2,hk=>by
  simp at h1 h2; subst h1; subst h2
  show Ol Ku ((p,w)::P.zip vs) m p=_
  unfold Ol;rw [pZ fun v hv=>(Jo.mp nd).1 (Lw hv).1,if_neg hk];simp
 | p::P,w::vs,i+1,m,nd,h1,h2,hk=>by
  show Ol Ku ((p,w)::P.zip vs) m x=_
  unfold Ol;exact pY (i:=i) (Jo.mp nd).2 (by simpa using h1) (by simpa using h2) hk
noncomputable def gf (N:List Str) (vs:List V):St:=vs.map some++Nd (N.length - vs.length) none
noncomputable def cE (CX:CXT) (P:HS) (w:ID) (K:A_) (mg:Str->Option η) (base:IC) (N:List Str) (qual:Str) (scope:LG) (f:ς) (cd:η) (A:IA) (outer:List LU) (s:χ) (H:Hp) (E:XK):Cx where
 prog:=P
 w:=w
 K:=K
 mg:=mg
 base:=base
 A:=A.deeper (KL qual scope s.heap.objs.size f cd)
 N:=N
 s₀:=s
 H₀:=H
 env:=KL qual scope s.heap.objs.size f cd
 outer:=outer
 stack:=KL qual scope s.heap.objs.size f cd::outer
 ex:=[]
 calm:=true
 fn:=fun _=>true
 pn:=[]
 xe:=fun e s'=>BG (B_ P w) (A.deeper (KL qual scope s.heap.objs.size f cd)) (NO (KL qual scope s.heap.objs.size f cd) e) (fun _ s''=>CX outer H s E e s'') (fun e' s''=>CX outer H s E e' s'') s'
theorem ud {sc:LG} {n:Nat} {x:Str} (h:sc.names.lookup x=some .cell):∃ c,(Oi n sc.names []).lookup x=some c:=by
 have q:=NT sc.names n [] (.inl h);exact Nc.mp q
theorem qh {CX:CXT} {P:HS} {w:ID} {K:A_} {mg:Str->Option η} {base:IC} {N ps:List Str} {qual:Str} {scope:LG} {f:ς} {cd:η} {A:IA} {outer:List LU} {s s1:χ} {H:Hp} {E:XK} {us:List η} {vs:List V}
    (S:aA N ps scope) (hd:A.handled=none) (e0:tT P w K mg base A outer s H) (hl:vs.length=ps.length) (r:bq vs us)
    (x:InCallC s s.heap.objs.size (Oj (KL qual scope s.heap.objs.size f cd).kindOf (ps.zip us) fun _=>none) (Oi (s.heap.objs.size+1) scope.names []) (Ol (KL qual scope s.heap.objs.size f cd).kindOf (ps.zip us) fun _=>none) s1) :
    Inv (cE CX P w K mg base N qual scope f cd A outer s H E) [] (gf N vs) H s1:=by
  have hpl:ps.length<=N.length:=by have:=congrArg NG S.pre; rw [Hw] at this; omega
  obtain ⟨h1,tk,rfl,hk⟩:=x.done;have noA:∀ b:ς,b∉(cE CX P w K mg base N qual scope f cd A outer s H E).ex:=fun b z=>absurd (show b∈([]:List ς) from z) (by simp);refine ⟨⟨e0.mod,S.kind,rfl,rfl,Ω _,fun y z c h1 h2=>?_,fun y hy=>?_,fun y c _ h=>?_,fun _=>hd,Around.frames_deeper e0.frames,.inr ⟨rfl,rfl⟩,fun b z=>absurd z (noA b),e0.bs,e0.bsz,fun b _ _=>noA b,fun b z=>absurd z (noA b),e0.funs,e0.frf⟩,
    rfl,e0.bare,Un.kept hk,⟨_,x.toInCall.ns,fun i y v h1 h2 h3=>?_⟩,fun y c h=>⟨_,x.cell y c h⟩,e0.hok.fresh (Ω _),fun y c h=>?_,fun p hp=>absurd (show p∈([]:List (ς×Iz)) from hp) (by simp),e0.hok.kept hk,?_⟩
  · exact name_of_addr x.apart (J7 h1) (J7 h2)
  · have hy:scope.names.lookup y=some .cell\/scope.names.lookup y=some .free:=hy
    rcases hy with hy | hy
    · exact ud hy
    · exact absurd rfl (S.nofree _ (J7 hy))
  · exact Mz (x.above y c (J7 h))
  · have hi:i<vs.length:=by
      unfold gf at h2;by_cases hi:i<vs.length
      · exact hi
      · rw [Ja (by simpa using hi)] at h2
        rw [List.getElem?_replicate] at h2
        split at h2<;>cases h2
    have ha:vs[i]?=some v:=by
      unfold gf at h2;rw [Je (by simpa using hi),BD] at h2
      cases e:vs[i]? with
      | none=>rw [e] at h2; cases h2
      | some a=>rw [e] at h2; cases h2; rfl
    obtain ⟨u,hu,rv⟩:=r.get ha
    have hp:ps[i]?=some y:=by
      rw [<- S.pre,List.getElem?_take_of_lt (by omega)]; exact h1
    have ndP:ps.Nodup:=by rw [<- S.pre]; exact S.nd.sublist (List.take_sublist _ _)
    refine ⟨u,rv,?_⟩;rcases S.par y (H_ hp) with k | k
    · exact .inl ⟨k,p7 ndP hp hu k⟩
    · obtain ⟨c,e⟩:=ud (n:=s.heap.objs.size+1) k
      refine .inr ⟨.inl k,c,e,?_⟩;have q:=x.cell y c e;rw [pY ndP hp hu (by show scope.names.lookup y≠_; rw [k]; decide)] at q;exact q
  · exact e0.hok.fresh (Mz (x.above y c (J7 h)))
  · unfold gf
    show _=N.length
    rw [Av,ξ,List.length_replicate];omega
theorem z9 {CX:CXT} {P:HS} {w:ID} {K:A_} {mg:Str->Option η} {base:IC} {k:Nat} {f:ς} {name qual:Str} {params:Arguments} {body:List Kf} {scope:LG} {dV kV doc pm cdv ct oc:η} {an od:Option ς}
  {osl:Array (Option η)} {N ps:List Str} {sp:Sp} (lk:K.lookup f=some ⟨oc,od,.func (Lh name qual params body scope dV kV doc pm an cdv ct),osl⟩) (hcd:W.codeIn K cdv qual=true) (S:aA N ps scope)
  (len:∀ vs H Q E,sp vs H Q E->vs.length=ps.length)
  (hbody:∀ (A:IA) (outer:List LU) (s:χ) (H:Hp) (vs:List V) (Q:VK) (E:XK),cM k (A.deeper (KL qual scope s.heap.objs.size f cdv))->sp vs H Q E ->
   ∃ t,PSs (cE CX P w K mg base N qual scope f cdv A outer s H E) body t/\t { nx:=fun _ H'=>Q .non H',rt:=Q } (gf N vs) H) :
  aR P w K mg base CX (k+1) f (Lh name qual params body scope dV kV doc pm an cdv ct) ps sp:=by
 refine ⟨len,fun A outer s H args us vs Q E hr e0 hb r hsp=>?_⟩;have hl:=len _ _ _ _ hsp;have KX:K.In s.heap:=e0.mod.kin.keeps fun b o e=>(e0.bs b o e).1;have lim:s.heap.NoLimit:=e0.mod.nolimit.keeps fun b o e=>(e0.bs b o e).1;have hkind:∀ y∈ps.zip us,scope.names.lookup y.1=some .local\/(scope.names.lookup y.1=some .cell/\((Oi (s.heap.objs.size+1) scope.names []).lookup y.1).isSome=true):=fun ⟨n,v⟩ hy=>by
  rcases S.par n (Lw hy).1 with q | q
  ·exact .inl q
  ·exact .inr ⟨q,NT _ _ _ (.inl q)⟩
 refine codeAny_call_function hr.depth (KX _ _ lk) rfl S.co S.gen rfl (W.codeRec_of KX hcd) (hb _ _ _ _ ?_);refine OD S.kind hkind fun env he s1 x=>?_;subst he;refine ⟨lim.keeps x.toInCall.keep,codeAny_func ?_⟩;obtain ⟨t,ht,hq⟩:=hbody A outer s H vs Q E (hr.deeper _) hsp;have I:Inv (cE CX P w K mg base N qual scope f cdv A outer s H E) [] (gf N vs) H s1:=qh S hr.hd e0 hl r x;refine Hq (ht [] s1 (gf N vs) H _ I hq) (fun fl s' hs=>?_) fun e s' hs=>hs
 have fin:∀ {σ':St} {H':Hp} {v:V} {u:η},Inv (cE CX P w K mg base N qual scope f cdv A outer s H E) [] σ' H' s'->bF v u->Q v H'->CE outer P w H s Q u s' :=
  fun {σ' H' v u} J rv q=>⟨v,H',J.os,J.bare,J.base,J.hok,rv,q⟩
 cases fl with
 | ret u =>
  obtain ⟨v,σ',H',J,rv,q⟩:=hs;exact fin J rv q
 | next =>
  obtain ⟨σ',H',J,q⟩:=hs;exact fin (v:=V.non) (u:=Il) J rfl q
 | brk =>
  obtain ⟨_,_,_,q⟩:=hs;exact Hz q
 | cont =>
  obtain ⟨_,_,_,q⟩:=hs;exact Hz q
section
variable {X:Cx} {x:Str} {p pos:J8} {e:II} {es:List II} {t:TA} {id T:String} {r:List V->Hp->VK->Prop}
def tCB (r:List V->Hp->VK->Prop) (t:TA):TE:=fun σ H Q=>t σ H fun vs H1=>r vs H1 Q
theorem av (hc:b9 X (.builtin id) r) (hg:Gl X x) (hm:X.mg x=none) (hv:IM x=some (.builtin id)) (ha:PA X (e::es) t) (hn:x≠"__name__":=by decide) (hdb:(x==("__debug__":Str))=false:=by decide)
  (he:D_ (e::es) X.env=(false,Ip e X.env)::D_ es X.env:=by rfl) (hpl:(JD pos (D_ es X.env)).any (·.1)=false:=by rfl):PE X (.Call (.Name x p) (e::es) [] pos) (tCB r t):=by
 intro pins s σ H Q I h;refine JF (lB I hg hm hv ?_ hn hdb);exact PyProof.Rows.callWith_builtin1 (thn (ha pos pins s σ H _ I h) fun us s1 ⟨vs,H1,I1,r1,q1⟩=>hc pins s1 σ H1 vs us Q I1 r1 q1) he hpl
theorem aW (hc:b9 X (.type T) r) (hg:Gl X x) (hm:X.mg x=none) (hv:IM x=some (.type T)) (ha:PA X (e::es) t) (hn:x≠"__name__":=by decide) (hdb:(x==("__debug__":Str))=false:=by decide)
  (he:D_ (e::es) X.env=(false,Ip e X.env)::D_ es X.env:=by rfl) (hpl:(JD pos (D_ es X.env)).any (·.1)=false:=by rfl):PE X (.Call (.Name x p) (e::es) [] pos) (tCB r t):=by
 intro pins s σ H Q I h;refine JF (lB I hg hm hv ?_ hn hdb);exact Jm (thn (ha pos pins s σ H _ I h) fun us s1 ⟨vs,H1,I1,r1,q1⟩=>hc pins s1 σ H1 vs us Q I1 r1 q1) he hpl
end
end L2
namespace HT
open PySem PyProof.Rows
section
open PySem.SeqAt
open PySem.AutoSeq1 (wpAny_loadPart')
open PySem.MeetsSeq PySem.MeetsSeq2 PySem.MeetsSeq3
end
section
variable {prog:HS} {w:ID} {A:IA} {E:η->χ->Prop} {s:χ}
noncomputable def sIx (n d:Nat):Option Int->Nat
 | none=>d
 | some v=>if v<0 then (v+(n:Int)).toNat else min v.toNat n
theorem kQ (n d:Nat):sIx n d none=d:=rfl
theorem mL (n d k:Nat):sIx n d (some (k:Int))=min k n:=by
 show (if (k:Int)<0 then ((k:Int)+(n:Int)).toNat else min (k:Int).toNat n)=min k n
 rw [if_neg (by omega),G_]
theorem Ft (n d:Nat) (hd:d<=n) (o:Option Int):sIx n d o<=n:=by
 cases o with
 | none=>exact hd
 | some v =>
  show (if v<0 then (v+(n:Int)).toNat else min v.toNat n)<=n
  by_cases hv:v<0
  ·rw [if_pos hv]; omega
  ·rw [if_neg hv]; exact NF _ _
theorem w8 (v:Int) (n d:Nat):(if v<0 then max (v+(n:Int)) 0 else min v (n:Int))=((sIx n d (some v):Nat):Int):=by
 show (if v<0 then max (v+(n:Int)) 0 else min v (n:Int))=(((if v<0 then (v+(n:Int)).toNat else min v.toNat n):Nat):Int)
 by_cases hv:v<0
 ·simp only [if_pos hv]; omega
 ·simp only [if_neg hv]; omega
theorem vH (lo hi:Option Int) (n:Nat):Kn lo hi 1 (n:Int)=(((sIx n 0 lo:Nat):Int),((sIx n n hi:Nat):Int)):=by
 have h1:¬ ((1:Int)<0):=by omega
 unfold Kn;simp only [h1,if_false];refine Prod.ext ?_ ?_
 ·cases lo with
  | none => rfl
  | some v => exact w8 v n 0
 ·cases hi with
  | none => rfl
  | some v => exact w8 v n n
theorem wg (i j:Nat):Jq (i:Int) (j:Int) 1=j - i:=by
 unfold Jq;have h1:(1:Int) > 0:=by omega
 simp only [h1,if_true,Int.ediv_one]
 split<;>omega
theorem oF {v:η} {o:Option Int} {Q:Option Int->χ->Prop} (p:ML v o) (h:Q o s):BG (B_ prog w) A (Builtin.Slice.slicePartIndex v) Q E s:=by
 cases p with
 | none=>exact slicePart_none h
 | int i t=>exact slicePart_int h
theorem gJ {sl:ς} {vl vu:η} {lo hi:Option Int} {n:Nat} {Q:Int×Int×Nat->χ->Prop} (hs:s.heap.IsSliceOf sl vl vu .none) (pl:ML vl lo) (pu:ML vu hi)
  (h:Q (((sIx n 0 lo:Nat):Int),1,sIx n n hi - sIx n 0 lo) s):BG (B_ prog w) A (MU (.ref sl) (pure (n:Int))) Q E s:=by
 obtain ⟨os,hos,hcs,hds⟩:=id hs;unfold MU Builtin.Slice.sliceFields;refine θ (θ (IU hos hds (x:=vl) rfl (θ (IU hos hds (x:=vu) rfl (θ (IU hos hds (x:=.none) rfl (Aw ?_)))))));refine θ (slicePart_none ?_)
 show BG _ _ (if ((1:Int)==0)=true then _ else _) _ _ s
 rw [if_neg (by decide)];refine θ (oF pl (θ (oF pu (θ (Aw ?_)))))
 show BG _ _ (match Kn lo hi 1 (n:Int) with | (lo,hi)=>pure (lo,(1:Int),Jq lo hi 1)) _ _ s
 rw [vH lo hi n]
 show BG _ _ (pure (((sIx n 0 lo:Nat):Int),(1:Int),Jq ((sIx n 0 lo:Nat):Int) ((sIx n n hi:Nat):Int) 1)) _ _ s
 rw [wg];exact Aw h
theorem AJ (xs:Array η) (i k:Nat):((Io k).filterMap fun (m:Nat)=>xs[((i:Int)+(m:Int)*1).toNat]?).toArray=((xs.toList.drop i).take k).toArray:=by
 have e:(fun (m:Nat)=>xs[((i:Int)+(m:Int)*1).toNat]?)=fun m=>xs[i+m]?:=by
  funext m
  have:((i:Int)+(m:Int)*1).toNat=i+m:=by omega
  rw [this]
 rw [e];have:=pick_run xs i k
 rw [List.filterMap_map] at this;have e2:((fun x=>xs[x]?)∘fun x=>i+x)=fun m=>xs[i+m]?:=rfl;rw [e2] at this;rw [this]
theorem kA {t sl:ς} {items:Array η} {vl vu:η} {lo hi:Option Int} {Q:η->χ->Prop} (ht:IsTup s.heap t items) (hs:s.heap.IsSliceOf sl vl vu .none) (pl:ML vl lo) (pu:ML vu hi)
  (hw:¬ (sIx items.size 0 lo=0/\sIx items.size items.size hi=items.size))
  (h:Q (.ref s.heap.objs.size) { s with heap:=s.heap.push { cls:=.type "tuple",data:=.seq ((items.toList.drop (sIx items.size 0 lo)).take (sIx items.size items.size hi - sIx items.size 0 lo)).toArray } })
  (hsz:items.size<=BC):BG (B_ prog w) A (Lp (.ref t) (.ref sl)) Q E s:=by
 have htake:sizeOk (.seq ((items.toList.drop (sIx items.size 0 lo)).take (sIx items.size items.size hi - sIx items.size 0 lo)).toArray):=by
  show ((items.toList.drop (sIx items.size 0 lo)).take (sIx items.size items.size hi - sIx items.size 0 lo)).toArray.size<=BC
  rw [HH,Hw,IG,HK];omega
 have hj:sIx items.size items.size hi<=items.size:=Ft _ _ (Ω _) hi;obtain ⟨os,hos,hcs,hds⟩:=id hs;have hTs:s.TypeIs (.ref sl) "slice":=⟨os,hos,hcs⟩
 unfold Lp
 try with_reducible refine Ij ?_
 first | refine θ (Aw ?_) | skip
 refine θ (wpAny_sequenceKey ht.typeIs (by decide) ?_);refine θ (JY (name:=JK "__getitem__") ht.typeIs Ig
  (KI Ig ht.typeIs entry_tuple_getitem ?_ (args_tuple_getitem _ _)))
 show BG _ _ (MT (.ref t) >>= _) _ _ s
 refine θ (tupleItemsOf_ ht ?_);refine θ (wpAny_typeOf hTs ?_);rw [if_pos (by decide)];refine θ (gJ hs pl pu ?_)
 have hno:¬ ((((sIx items.size 0 lo:Nat):Int)==0&&(1:Int)==1&&(sIx items.size items.size hi - sIx items.size 0 lo)==items.size)=true):=by
  intro q;rw [Hy,Hy] at q;have q1:((sIx items.size 0 lo:Nat):Int)=0:=eq_of_beq q.1.1;have q2:sIx items.size items.size hi - sIx items.size 0 lo=items.size:=eq_of_beq q.2;exact hw ⟨by omega,by omega⟩
 show BG _ _ (if (((sIx items.size 0 lo:Nat):Int)==0&&(1:Int)==1&&(sIx items.size items.size hi - sIx items.size 0 lo)==items.size)=true then _ else _) _ _ s
 rw [if_neg hno,AJ]
 first
  | exact θ (m := Jy _) (JX (Aw ⟨_, rfl, Aw h⟩) htake)
  | exact θ (m := Jy _) (JX (θ (Aw (Aw ⟨_, rfl, Aw h⟩))) htake)
  | exact θ (θ (m := Jy _) (JX (Aw (Aw ⟨_, rfl, Aw h⟩)) htake))
  | exact θ (θ (m := Jy _) (JX (Aw ⟨_, rfl, Aw h⟩) htake))
end
end HT
namespace L2
open PySem PySem.Spec PyProof.Rows
noncomputable abbrev TO:=St->Hp->(Option Int->Hp->Prop)->Prop
def PO (X:Cx) (e:Option II) (t:TO):Prop :=
 ∀ (pins:List (ς×Iz)) (s:χ) (σ:St) (H:Hp) (Q:Option Int->Hp->Prop),Inv X pins σ H s->t σ H Q ->
  BG (B_ X.prog X.w) X.A (evalPart e X.env) (fun u s'=>∃ o H',Inv X pins σ H' s'/\ML u o/\Q o H') X.xe s
noncomputable def xW:TO:=fun _ H Q=>Q none H
noncomputable def Ee (t:TE):TO:=fun σ H Q=>t σ H fun x H1=>∃ i,x=.int i/\Q (some i) H1
section
variable {X:Cx} {e:II} {te:TE} {lo hi:Option II} {tl th:TO} {pos p2:J8}
theorem bu:PO X none xW:=by
 intro pins s σ H Q I h;rw [evalPart_none];exact Aw ⟨none,H,I,.none,h⟩
theorem bz (h:PE X e te):PO X (some e) (Ee te):=by
 intro pins s σ H Q I hw;rw [evalPart_some];refine thn (h pins s σ H _ I hw) fun u s1 ⟨x,H1,I1,r1,q1⟩=>?_;obtain ⟨i,rfl,q⟩:=q1;obtain ⟨t,rfl⟩:=r1;exact ⟨some i,H1,I1,.int i t,q⟩
def SlR (X:Cx) (r:V->Option Int->Option Int->Hp->VK->Prop):Prop :=
 ∀ (pins:List (ς×Iz)) (s:χ) (σ:St) (H:Hp) (x:V) (v vl vu:η) (lo hi:Option Int) (sl:ς) (Q:VK),Inv X pins σ H s->bF x v->s.heap.IsSliceOf sl vl vu .none->ML vl lo->ML vu hi->r x lo hi H Q ->
  ∃ T id,typeLookup (.type T) "__getitem__"=pure (some (.builtin id))/\s.TypeIs v T/\BG (B_ X.prog X.w) X.A (Lp v (.ref sl)) (EP X pins σ Q) X.xe s
def tSl (r:V->Option Int->Option Int->Hp->VK->Prop) (te:TE) (tl th:TO):TE:=fun σ H Q=>te σ H fun x H1=>tl σ H1 fun l H2=>th σ H2 fun u H3=>r x l u H3 Q
theorem aU {r:V->Option Int->Option Int->Hp->VK->Prop} (hr:SlR X r) (he:PE X e te) (hl:PO X lo tl) (hu:PO X hi th):PE X (.Subscript e (.Slice lo hi none p2) pos) (tSl r te tl th):=by
 intro pins s σ H Q I h;refine Subscript_ (thn (he pins s σ H _ I h) fun v s1 ⟨x,H1,I1,r1,q1⟩=>?_);refine wpAny_Slice (thn (hl pins s1 σ H1 _ I1 q1) fun vl s2 ⟨l,H2,I2,pl,q2⟩=>thn (hu pins s2 σ H2 _ I2 q2) fun vu s3 ⟨u,H3,I3,pu,q3⟩=>?_);rw [evalPart_none];refine Aw ?_;have I4:Inv X pins σ H3 { s3 with heap:=s3.heap.push { cls:=.type "slice",data:=.fields #[vl,vu,.none] } }:=I3.kept (t':=s3.toks) fun b ob q=>Δ _ q;obtain ⟨T,id,hT,ht,hg⟩:=hr pins { s3 with heap:=s3.heap.push { cls:=.type "slice",data:=.fields #[vl,vu,.none] } } σ H3 x v vl vu l u s3.heap.objs.size Q I4 r1 (Heap.IsSliceOf.new ..) pl pu q3
 show BG (B_ X.prog X.w) X.A (OZ e (.Slice lo hi none p2) v (.ref s3.heap.objs.size)) (EP X pins σ Q) X.xe { s3 with heap:=s3.heap.push { cls:=.type "slice",data:=.fields #[vl,vu,.none] } }
 exact tail_any (ops:=[.ref s3.heap.objs.size,v]) ht hT hg (by with_unfolding_all rfl)
noncomputable def cg (xs:List V) (lo hi:Option Int):List V:=(xs.drop (HT.sIx xs.length 0 lo)).take (HT.sIx xs.length xs.length hi - HT.sIx xs.length 0 lo)
theorem lV (xs:List V) (lo hi:Option Int):(cg xs lo hi).length<=xs.length:=by
 unfold cg;rw [Hw,IG];omega
def He (K:A_):V->Option Int->Option Int->Hp->VK->Prop:=fun x lo hi H Q=>∃ a xs,x=.ref a/\SqT K H a xs /\
 ¬ (HT.sIx xs.length 0 lo=0/\HT.sIx xs.length xs.length hi=xs.length)/\∀ p,H p=none->Q (.ref p) (upd H p (.tup (cg xs lo hi)))
theorem Fw:SlR X (He X.K):=by
 intro pins s σ H x v vl vu lo hi sl Q I rx hs pl pu h;obtain ⟨a,xs,rfl,hx,hw,q⟩:=h
 cases rx;obtain ⟨its,r,ht,hz⟩:=I.tuple hx;have hlen:its.toArray.size=xs.length:=by rw [HH]; exact r.length.symm
 refine ⟨"tuple",_,Ig.lookup,ht.typeIs,?_⟩;refine HT.kA ht hs pl pu (by rw [hlen]; exact hw) ?_ (by rw [hlen]; exact hz);rw [hlen];refine ⟨.ref s.heap.objs.size,_,I.laid (t':=s.toks) (o:=.tup (cg xs lo hi)) (fun b ob q=>Δ _ q) (Ω _) ?_,rfl,q _ (I.hok.fresh (Ω _))⟩;exact ⟨BA (lV xs lo hi) hz,_,(r.drop (HT.sIx xs.length 0 lo)).take (HT.sIx xs.length xs.length hi - HT.sIx xs.length 0 lo),IsTup.new _ _⟩
end
noncomputable def ixN (n:Nat) (i:Int):Option Nat:=if 0<=i then (if i<n then some i.toNat else none) else if -(n:Int)<=i then some (i+n).toNat else none
noncomputable def atI {α:Type} (xs:List α) (i:Int):Option α:=(ixN xs.length i).bind fun j=>xs[j]?
theorem rf {n:Nat} {i:Int} {j:Nat} (h:ixN n i=some j):seqIndex? i n=some j/\j<n/\-(n:Int)<=i/\i<n:=by
 unfold ixN at h;by_cases h0:0<=i
 ·rw [if_pos h0] at h;by_cases h1:i<n
  ·rw [if_pos h1] at h;have e:i.toNat=j:=IT h;exact ⟨by rw [seqIndex_of h0 h1,e],by omega,by omega,h1⟩
  ·rw [if_neg h1] at h; cases h
 ·rw [if_neg h0] at h;by_cases h1:-(n:Int)<=i
  ·rw [if_pos h1] at h;have e:(i+n).toNat=j:=IT h;exact ⟨by rw [seqIndex_neg (by omega) h1,e],by omega,h1,by omega⟩
  ·rw [if_neg h1] at h; cases h
theorem qJ {α:Type} {xs:List α} {i:Int} {v:α} (h:atI xs i=some v):∃ j,seqIndex? i xs.length=some j/\xs[j]?=some v/\j<xs.length/\-(xs.length:Int)<=i/\i<xs.length:=by
 unfold atI at h
 cases e:ixN xs.length i with
 | none=>rw [e] at h; cases h
 | some j =>
  rw [e] at h;obtain ⟨h1,h2,h3,h4⟩:=rf e;exact ⟨j,h1,h,h2,h3,h4⟩
theorem cK {α:Type} {xs:List α} {j:Nat} {v:α} (h:xs[j]?=some v):atI xs (j:Int)=some v:=by
 have hj:j<xs.length:=(F_.mp h).1
 have e:ixN xs.length (j:Int)=some j:=by
  unfold ixN;rw [if_pos (by omega),if_pos (by omega)]; simp
 unfold atI; rw [e]; exact h
def qG (b:II):Prop:=∀ o i,Nr b false o i=operate [o,i] (Lp o i)
def IxR (X:Cx) (r:R2):Prop :=
 ∀ (value slice:II) (pins:List (ς×Iz)) (s:χ) (σ:St) (H:Hp) (x y:V) (v u:η) (Q:VK),Inv X pins σ H s->bF x v->bF y u->r x y H Q ->
  Nr slice false v u=operate [v,u] (Lp v u)->BG (B_ X.prog X.w) X.A (OZ value slice v u) (EP X pins σ Q) X.xe s
def MtR (X:Cx) (id:String) (r:V->List V->Hp->VK->Prop):Prop :=
 ∀ (pins:List (ς×Iz)) (s:χ) (σ:St) (H:Hp) (x:V) (xs:List V) (v:η) (us:List η) (Q:VK),Inv X pins σ H s->bF x v->bq xs us->r x xs H Q ->
  BG (B_ X.prog X.w) X.A (call (.builtin id) (v::us)) (EP X pins σ Q) X.xe s
section
variable {X:Cx} {a b:II} {ta tb:TE} {pos:J8}
theorem DV {r:R2} (hr:IxR X r) (ha:PE X a ta) (hb:PE X b tb) (hs:qG b):PE X (.Subscript a b pos) (tOp r ta tb):=by
 intro pins s σ H Q I h;exact Subscript_ (Ek ha hb I h fun v u s2 x y H2 I2 rx ry q=>hr a b pins s2 σ H2 x y v u Q I2 rx ry q (hs _ _))
def CP (K:A_):R2:=fun x y H Q=>∃ p xs i v,x=.ref p/\y=.int i/\SqL K H p xs/\atI xs i=some v/\Q v H
def EZ (K:A_):R2:=fun x y H Q=>∃ p xs i v,x=.ref p/\y=.int i/\SqT K H p xs/\atI xs i=some v/\Q v H
def EY:R2:=fun x y H Q=>∃ z i c,x=.str z/\y=.int i/\z.length<=BC/\atI z.cps.toList i=some c/\Q (.str ⟨#[c]⟩) H
theorem Cu:IxR X (CP X.K):=by
  intro value slice pins s σ H x y v u Q I rx ry h hs;obtain ⟨p,xs,i,z,rfl,rfl,hq,he,q⟩:=h
  cases rx;obtain ⟨t,rfl⟩:=ry;obtain ⟨its,r,pl,hz⟩:=I.list hq;obtain ⟨j,h1,h2,h3,h4,h5⟩:=qJ he;obtain ⟨w,ew,rw'⟩:=r.get h2;have hl:=r.length;have hn:=lC;have fin:EP X pins σ Q w s:=⟨z,H,I,rw',q⟩
  by_cases h0:0<=i
  · have hj:i.toNat=j:=by
      rw [seqIndex_of h0 h5] at h1;exact IT h1
    exact item_listR pl.isList h0 (by omega) (by rw [hj]; simpa using ew) fin hs
  · have hj:(i+(its.toArray.size:Int)).toNat=j:=by
      rw [seqIndex_neg (by omega) h4] at h1;rw [HH,<- hl];exact IT h1
    exact subscriptTail_builtinR (x:=w) pl.isList.typeIs slot_list_getitem.lookup
      (wpAny_getItem_list_neg (Q:=fun r s'=>r=w/\EP X pins σ Q r s') pl.isList (by omega) (by rw [HH]<;>omega) (by omega) (by rw [hj]; simpa using ew) ⟨rfl,fin⟩) hs
theorem Eu:IxR X (EZ X.K):=by
 intro value slice pins s σ H x y v u Q I rx ry h hs;obtain ⟨p,xs,i,z,rfl,rfl,hq,he,q⟩:=h
 cases rx;obtain ⟨t,rfl⟩:=ry;obtain ⟨its,r,pl,hz⟩:=I.tuple hq;obtain ⟨j,h1,h2,h3,h4,h5⟩:=qJ he;obtain ⟨w,ew,rw'⟩:=r.get h2;have hl:=r.length;have hn:=lC;have fin:EP X pins σ Q w s:=⟨z,H,I,rw',q⟩
 exact subscriptTail_builtinR (x:=w) pl.typeIs slot_tuple_getitem.lookup
  (getItem_tuple (j:=j) (Q:=fun r s'=>r=w/\EP X pins σ Q r s') pl (by omega) (by omega) (by rw [HH,<- hl]; exact h1) (by simpa using ew) ⟨rfl,fin⟩) hs
theorem Et:IxR X EY:=by
 intro value slice pins s σ H x y v u Q I rx ry h hs;obtain ⟨z,i,c,rfl,rfl,hz,he,q⟩:=h;obtain ⟨t,rfl⟩:=rx;obtain ⟨t',rfl⟩:=ry;obtain ⟨j,h1,h2,h3,h4,h5⟩:=qJ he;have hl:z.cps.toList.length=z.length:=by simp [Str.length]
 rw [hl] at h1 h4 h5;have hn:=lC;exact tail_any (LY s z t) slot_str_getitem.lookup (getItem_str (c:=c) (by
  have e1:decide (i < -(2 ^ 63:Int))=false:=decide_eq_false (by omega);have e2:decide (i>=2 ^ 63)=false:=decide_eq_false (by omega);rw [e1,e2,Bool.or_false]) (by rw [h1]; simpa using h2) ⟨.str ⟨#[c]⟩,H,I.tok _,⟨_,rfl⟩,q⟩) hs
theorem vX (its:List η) (n j:Nat) (u:η):Mf (·.setIfInBounds j u) { cls:=.type "list",data:=.seq its.toArray n }={ cls:=.type "list",data:=.seq (its.set j u).toArray n }:=by
 simp [Mf]
theorem Inv.lst {pins:List (ς×Iz)} {σ:St} {H:Hp} {s:χ} {p:ς} {xs:List V} (I:Inv X pins σ H s) (h:H p=some (.lst xs)) :
  ∃ (its:List η) (n:Nat),bq xs its/\s.heap.get? p=some { cls:=.type "list",data:=.seq its.toArray n }/\xs.length<=sizeLine:=by
 obtain ⟨z,its,n,r,e⟩:=I.hok p _ h;exact ⟨its,n,r,e,z⟩
theorem Inv.lstUpd {pins:List (ς×Iz)} {σ:St} {H:Hp} {s:χ} {p:ς} {xs ys:List V} {its its':List η} {n n':Nat} {f:Iz->Iz} (I:Inv X pins σ H s) (h:H p=some (.lst xs))
  (ho:s.heap.get? p=some { cls:=.type "list",data:=.seq its.toArray n }) (hf:f { cls:=.type "list",data:=.seq its.toArray n }={ cls:=.type "list",data:=.seq its'.toArray n' }) (r:bq ys its') (hz:ys.length<=BC) (t:Nat) :
  Inv X pins σ (upd H p (.lst ys)) { s with heap:=s.heap.update p f,toks:=t }:=by
 have e:(s.heap.update p f).get? p=some { cls:=.type "list",data:=.seq its'.toArray n' }:=by
  rw [I_ f ho (by rw [hf]<;>rfl),hf]
 refine I.write (x:=p) (e:=p) (by rw [h]; trivial) (.inl rfl) (fun b u hb q=>(Ib _ _ (IL hb)).trans q) ⟨_,e⟩ ?_;exact ⟨hz,its',n',r,e⟩
def D0:V->V->V->Hp->(Hp->Prop)->Prop:=fun o i v H Q=>∃ p xs k j,o=.ref p/\i=.int k/\H p=some (.lst xs)/\ixN xs.length k=some j/\Q (upd H p (.lst (xs.set j v)))
theorem Br:FI X D0:=by
  intro pins s σ H o i v ov iv u Q I ro ri rv h;obtain ⟨p,xs,k,j,rfl,rfl,hp,hj,q⟩:=h
  cases ro;obtain ⟨t,rfl⟩:=ri;obtain ⟨its,n,r,ho,hz⟩:=I.lst hp;obtain ⟨h1,h2,h3,h4⟩:=rf hj;have hl:=r.length;have hn:=lC
  have I':Inv X pins σ (upd H p (.lst (xs.set j v))) { s with heap:=s.heap.update p (Mf (·.setIfInBounds j u)) } :=
    I.lstUpd hp ho (vX its n j u) (r.set rv j) (by rw [NI]; exact hz) s.toks
  by_cases h0:0<=k
  · have hk:k.toNat=j:=by
      rw [seqIndex_of h0 h4] at h1;exact IT h1
    exact W.ki_setAt ho h0 (by omega) (by rw [HH,<- hl]; exact h4) (by rw [hk]; exact ⟨_,I',q⟩)
  · have hk:(k+(its.toArray.size:Int)).toNat=j:=by
      rw [seqIndex_neg (by omega) h3] at h1;rw [HH,<- hl];exact IT h1
    exact W.ki_setBack ho (by omega) (by rw [HH,<- hl]; exact h3) (by omega) (by rw [hk]; exact ⟨_,I',q⟩)
theorem sO (lo hi:Option Int) (n:Nat):(K3 lo hi none n).1=((HT.sIx n 0 lo:Nat):Int)/\(K3 lo hi none n).2.1=((HT.sIx n n hi:Nat):Int)/\(K3 lo hi none n).2.2=1:=by
 refine ⟨?_,?_,rfl⟩
 ·cases lo with
  | none => simp [K3, HT.sIx]
  | some i =>
   simp only [K3,HT.sIx,Ot,show (1:Int) > 0 by decide,if_true];by_cases h:i<0
   ·simp only [h,if_true]<;>omega
   ·simp only [h,if_false]<;>omega
 ·cases hi with
  | none => simp [K3, HT.sIx]
  | some i =>
   simp only [K3,HT.sIx,Ot,show (1:Int) > 0 by decide,if_true];by_cases h:i<0
   ·simp only [h,if_true]<;>omega
   ·simp only [h,if_false]<;>omega
theorem pI (its:List η) (lo hi:Option Int):slicePick its.toArray lo hi none=((its.drop (HT.sIx its.length 0 lo)).take (HT.sIx its.length its.length hi - HT.sIx its.length 0 lo)).toArray:=by
 obtain ⟨h1,h2,h3⟩:=sO lo hi its.toArray.size;unfold slicePick;rw [h1,h2,h3];simp only [sliceRange_one,pick_run,HH]<;>rfl
def CS (K:A_):V->Option Int->Option Int->Hp->VK->Prop:=fun x lo hi H Q=>∃ a xs,x=.ref a/\SqL K H a xs/\∀ p,H p=none->Q (.ref p) (upd H p (.lst (cg xs lo hi)))
theorem Dy:SlR X (CS X.K):=by
 intro pins s σ H x v vl vu lo hi sl Q I rx hs pl pu h;obtain ⟨a,xs,rfl,hx,q⟩:=h
 cases rx;obtain ⟨its,r,ht,hz⟩:=I.list hx;have hlen:=r.length;refine ⟨"list",_,slot_list_getitem.lookup,ht.isList.typeIs,?_⟩;refine wpAny_getItem_list_slice ht.isList hs pl pu .none (by simp) ?_ (by rw [HH]<;>omega);rw [pI,<- hlen];refine ⟨.ref s.heap.objs.size,_,I.laid (t':=s.toks) (o:=.lst (cg xs lo hi)) (fun b ob q=>Δ _ q) (Ω _) ?_,rfl,q _ (I.hok.fresh (Ω _))⟩;exact ⟨BA (lV xs lo hi) hz,_,0,(r.drop (HT.sIx xs.length 0 lo)).take (HT.sIx xs.length xs.length hi - HT.sIx xs.length 0 lo),HE _ rfl⟩
theorem qL:b9 X (.builtin "len") (fun xs H Q=>∃ p ys,xs=[.ref p]/\(SqL X.K H p ys\/SqT X.K H p ys)/\Q (.int ys.length) H):=by
 intro pins s σ H xs us Q I r h;obtain ⟨p,ys,rfl,hq,q⟩:=h;obtain ⟨u,rfl,rx⟩:=jj r
 cases rx;have hn:=lC;rcases hq with hq | hq
 ·obtain ⟨its,r',pl,hz⟩:=I.list hq;have hlen:=r'.length;exact Calls.call_len_list pl.isList (by simp only [HH]<;>omega) ⟨.int ys.length,H,I.tok _,⟨s.toks+1,by rw [HH,hlen]⟩,q⟩
 ·obtain ⟨its,r',pl,hz⟩:=I.tuple hq;have hlen:=r'.length;exact len_tuple pl (by simp only [HH]<;>omega) ⟨.int ys.length,H,I.tok _,⟨s.toks+1,by rw [HH,hlen]⟩,q⟩
theorem qM:b9 X (.builtin "len") (fun xs H Q=>∃ z,xs=[.str z]/\z.length<=BC/\Q (.int z.length) H):=by
 intro pins s σ H xs us Q I r h;obtain ⟨z,rfl,hz,q⟩:=h;obtain ⟨u,rfl,t,rfl⟩:=jj r;have hn:=lC;exact len_str (by omega) ⟨.int z.length,H,I.tok _,⟨_,rfl⟩,q⟩
theorem qN:b9 X (.type "list") (fun xs H Q=>∃ p ys,xs=[.ref p]/\(SqL X.K H p ys\/SqT X.K H p ys)/\∀ l,H l=none->Q (.ref l) (upd H l (.lst ys))):=by
  intro pins s σ H xs us Q I r h;obtain ⟨p,ys,rfl,hq,q⟩:=h;obtain ⟨u,rfl,rx⟩:=jj r
  cases rx;have fin:∀ (its:List η),bq ys its->ys.length<=BC->∀ (h':IC) (c':Nat),(∀ b o',s.heap.get? b=some o'->h'.get? b=some o') ->
      h'.get? s.heap.objs.size=some { cls:=.type "list",dict:=none,data:=.seq its.toArray c',slots:=#[] }->EP X pins σ Q (.ref s.heap.objs.size) { s with heap:=h' }:=fun its r' hz h' c' kp e =>
    ⟨.ref s.heap.objs.size,_,I.laid (t':=s.toks) kp (Ω _) (show bP X.prog X.w _ h' _ (.lst ys) from ⟨hz,its,c',r',e⟩),rfl,q _ (I.hok.fresh (Ω _))⟩
  rcases hq with hq | hq
  · obtain ⟨its,r',pl,hz⟩:=I.list hq
    have hlen:=r'.length;obtain ⟨o,ho,hc,n,hd⟩:=pl.isList;exact call_list_seq p (.inl rfl) ho hc hd (fun h' c' kp e=>fin its r' hz h' c' kp e) (by simp only [HH]<;>omega)
  · obtain ⟨its,r',pl,hz⟩:=I.tuple hq
    have hlen:=r'.length;obtain ⟨o,ho,hc,n,hd⟩:=pl;exact call_list_seq p (.inr rfl) ho hc hd (fun h' c' kp e=>fin its r' hz h' c' kp e) (by simp only [HH]<;>omega)
theorem oY:b9 X (.type "tuple") (fun xs H Q=>∃ p ys,xs=[.ref p]/\((SqL X.K H p ys/\∀ l,H l=none->Q (.ref l) (upd H l (.tup ys)))\/(SqT X.K H p ys/\Q (.ref p) H))):=by
 intro pins s σ H xs us Q I r h;obtain ⟨p,ys,rfl,h⟩:=h;obtain ⟨u,rfl,rx⟩:=jj r
 cases rx;rcases h with ⟨hq,q⟩ | ⟨hq,q⟩
 ·obtain ⟨its,r',pl,hz⟩:=I.list hq;have hlen:=r'.length;refine call_tuple_list pl.isList (fun h' kp=>?_) (by simp only [HH]<;>omega);have I1:Inv X pins σ H { s with heap:=h' }:=I.kept (t':=s.toks) kp
  have I2:Inv X pins σ (upd H h'.objs.size (.tup ys)) { s with heap:=h'.push { cls:=.type "tuple",data:=.seq its.toArray } } :=
   I1.laid (t':=s.toks) (fun b o e=>Δ _ e) (Ω _) (show bP X.prog X.w _ _ _ (.tup ys) from ⟨hz,its,r',IsTup.new _ _⟩)
  exact ⟨.ref h'.objs.size,_,I2,rfl,q _ (I1.hok.fresh (Ω _))⟩
 ·obtain ⟨its,r',pl,hz⟩:=I.tuple hq;exact call_tuple_same pl ⟨.ref p,H,I,rfl,q⟩
def tyV (K:A_) (T:String) (x:V) (H:Hp):Prop:=match x with
  | .str _ => T = "str"
  | .int _ => T = "int"
  | .ref p => (T = "list" /\ ∃ xs, SqL K H p xs) \/ (T = "tuple" /\ ∃ o, K.lookup p = some o /\ o.cls = .type "tuple" /\ o.dict = none) \/
      (T="dict"/\((∃ kvs,H p=some (.dK kvs))\/∃ kvs,H p=some (.dT kvs)))\/(T="set"/\∃ S n,H p=some (.set S n))
  | _ => False
theorem FC {pins:List (ς×Iz)} {σ:St} {H:Hp} {s:χ} {T:String} {x:V} {v:η} (I:Inv X pins σ H s) (r:bF x v) (ty:tyV X.K T x H) :
    s.TypeIs v T/\∀ a,v=.ref a->∃ ob,s.heap.get? a=some ob/\ob.dict=none:=by
  cases x with
  | str z =>
    obtain ⟨t,rfl⟩:=r
    cases (show T="str" from ty)
    exact ⟨LY s z t,fun _ e=>nomatch e⟩
  | int i =>
    obtain ⟨t,rfl⟩:=r
    cases (show T="int" from ty)
    exact ⟨typeIs_int s i t,fun _ e=>nomatch e⟩
  | ref p =>
    cases r;rcases ty with ⟨rfl,xs,hq⟩ | ⟨rfl,o,hk,hc,hd⟩ | ⟨rfl,hk⟩ | ⟨rfl,S,n,hk⟩
    · obtain ⟨its,_,pl,_⟩:=I.list hq
      refine ⟨pl.isList.typeIs,fun a e=>?_⟩
      cases e;obtain ⟨o,n,e,c,hd,_⟩:=pl;exact ⟨o,e,hd⟩
    · refine ⟨⟨o,I.kIn p o hk,hc⟩,fun a e=>?_⟩
      cases e;exact ⟨o,I.kIn _ o hk,hd⟩
    · have z:∃ o,s.heap.get? p=some o/\o.ExactDict:=by
        rcases hk with ⟨kvs,hk⟩ | ⟨kvs,hk⟩
        · obtain ⟨_,_,_,_,o,_,_,e,ex,_⟩:=I.hok p _ hk
          exact ⟨o,e,ex⟩
        · obtain ⟨_,_,_,_,o,_,_,e,ex,_⟩:=I.hok p _ hk
          exact ⟨o,e,ex⟩
      obtain ⟨o,e,ex⟩:=z;refine ⟨⟨o,e,ex.1⟩,fun a e2=>?_⟩
      cases e2;exact ⟨o,e,ex.2.1⟩
    · obtain ⟨o,_,_,_,e,ex,_⟩:=I.hok p _ hk
      refine ⟨⟨o,e,ex.1⟩,fun a e2=>?_⟩
      cases e2;exact ⟨o,e,ex.2.1⟩
  | _ => exact Hz ty
def tBM (K:A_) (T:String) (r:V->List V->Hp->VK->Prop) (to:TE) (t:TA):TE:=fun σ H Q=>to σ H fun x H1=>tyV K T x H1/\t σ H1 fun xs H2=>r x xs H2 Q
variable {o e:II} {es:List II} {to:TE} {t:TA} {name:Str} {apos cpos:J8} {T id:String} {r:V->List V->Hp->VK->Prop}
theorem cQ (pa:PlainAttrs T) (slot:Slot T name id) (hty:M7 (.builtin id)=pure (.type "method_descriptor")) (hm:MtR X id r) (ho:PE X o to) (ha:PA X (e::es) t)
  (hbase:Kz o name X.env (Ip o X.env)=Ip o X.env:=by rfl)
  (hfew:((JD cpos (D_ (e::es) X.env)).all (fun x=>!x.1)&&(Lc cpos (KG [] X.env)).all (fun x=>x.1.isSome)
   && decide ((e::es).length+([]:List OB).length+(if ([]:List OB).isEmpty then 0 else 1)<30))=true:=by rfl)
  (hline:(apos.endLine==cpos.line)=true:=by rfl) (hs:D_ (e::es) X.env=(false,Ip e X.env)::D_ es X.env:=by rfl) (hplain:(JD cpos (D_ es X.env)).any (·.1)=false:=by rfl) :
  PE X (.Call (.Attribute o name apos) (e::es) [] cpos) (tBM X.K T r to t):=by
 intro pins s σ H Q I h;refine wpAny_Call_method_late hbase hfew hline rfl (thn (ho pins s σ H _ I h) fun v s1 ⟨x,H1,I1,r1,ty,q1⟩=>?_);obtain ⟨h1,h2⟩:=FC I1 r1 ty;refine ⟨T,id,pa,slot,hty,h1,h2,?_⟩;have hA:=ha cpos pins s1 σ H1 _ I1 q1;rw [hs] at hA ⊢;refine Lm (by show (false||(JD cpos (D_ es X.env)).any (·.1))=false; rw [hplain]<;>rfl) (J2 ?_);exact thn hA fun us s2 ⟨vs,H2,I2,r2,q2⟩=>hm pins s2 σ H2 x vs v us Q I2 r1 r2 q2
end
def MtM (X:Cx) (id:String) (r:V->List V->Hp->VK->Prop):Prop :=
 ∀ (pins:List (ς×Iz)) (s:χ) (σ:St) (H:Hp) (x:V) (xs:List V) (v:η) (us:List η) (Q:VK),Inv X pins σ H s->bF x v->bq xs us->r x xs H Q ->
  BG (B_ X.prog X.w) X.A (call (.builtin id) (v::us)) (EP X pins σ Q) X.xe s
theorem bq.one:∀ {x:V} {us:List η},bq [x] us->∃ u,us=[u]/\bF x u:=by
 intro x us h
 cases h with
 | cons r h =>
  cases h;exact ⟨_,rfl,r⟩
theorem bq.two:∀ {x y:V} {us:List η},bq [x,y] us->∃ u v,us=[u,v]/\bF x u/\bF y v:=by
 intro x y us h
 cases h with
 | cons r h =>
  cases h with
  | cons q h =>
   cases h;exact ⟨_,_,rfl,r,q⟩
theorem bq.eraseIdx:∀ {xs:List V} {us:List η} (i:Nat),bq xs us->bq (xs.eraseIdx i) (us.eraseIdx i)
 | _,_,_,.nil=>.nil
 | _,_,0,.cons _ t=>t
 | _,_,i+1,.cons r t=>.cons r (bq.eraseIdx i t)
theorem qp {α:Type}:∀ (l:List α) (i:Nat),(l.eraseIdx i).length<=l.length
 | [],_=>Ω _
 | _::_,0=>MK _
 | _::r,i+1=>IS (qp r i)
section
variable {X:Cx} {pins:List (ς×Iz)} {σ:St} {H:Hp} {s:χ} {l b:ς} {xs ys zs:List V}
theorem Inv.lset {its its':List η} {n:Nat} {f:Array η->Array η} {t':Nat} (I:Inv X pins σ H s) (hH:H l=some (.lst xs))
  (e:s.heap.get? l=some { cls:=.type "list",data:=.seq its.toArray n }) (hf:f its.toArray=its'.toArray) (hv:bq ys its') (hz:ys.length<=BC) :
  Inv X pins σ (upd H l (.lst ys)) { s with heap:=s.heap.update l (Mf f),toks:=t' }:=by
 have q:=PySem.IsL.update e f;rw [hf] at q;refine I.write (x:=l) (e:=l) (by rw [hH]; exact trivial) (.inl rfl) (fun b' u hb hu=>(Ib s.heap (Mf f) (IL hb)).trans hu) ⟨_,q⟩ ?_;exact ⟨hz,its',_,hv,q⟩
theorem Inv.lnew {its:List η} {t':Nat} (I:Inv X pins σ H s) (hv:bq ys its) (hz:ys.length<=BC) :
  Inv X pins σ (upd H s.heap.objs.size (.lst ys)) { s with heap:=s.heap.push { cls:=.type "list",data:=.seq its.toArray },toks:=t' } :=
 I.laid (fun _ _ q=>Δ _ q) (Ω _) ⟨hz,its,0,hv,HE _ rfl⟩
theorem Inv.fresh (I:Inv X pins σ H s):H s.heap.objs.size=none:=I.hok.fresh (Ω _)
theorem Inv.lstM (I:Inv X pins σ H s) (hH:H l=some (.lst xs)):xs.length<=BC/\∃ (its:List η) (n:Nat),bq xs its/\xs.length=its.length/\s.heap.get? l=some { cls:=.type "list",data:=.seq its.toArray n }:=by
 obtain ⟨z,its,n,r,e⟩:=I.hok l _ hH;exact ⟨z,its,n,r,r.length,e⟩
end
section
variable {X:Cx}
def xE:V->List V->Hp->VK->Prop:=fun x vs H Q=>∃ l xs y,x=.ref l/\vs=[y]/\H l=some (.lst xs)/\xs.length<BC/\Q .non (upd H l (.lst (xs++[y])))
theorem bS:MtM X "list.append" xE:=by
 intro pins s σ H x vs v us Q I rx rv h;obtain ⟨l,xs,y,rfl,rfl,hH,hz,q⟩:=h
 cases rx;obtain ⟨u,rfl,ru⟩:=rv.one;obtain ⟨z,its,n,r,hl,e⟩:=I.lstM hH;refine La F.slot_list_append ⟨_,e,rfl⟩ F.entry_list_append (F.args_list_append_2 _ _) (PySem.list_append l its.toArray n u (by rw [HH]; omega)) ⟨e,?_⟩;refine ⟨.non,_,I.lset (its':=its++[u]) hH e (by simp) (r.append (.cons ru .nil)) ?_,rfl,q⟩;rw [Av,HU];omega
def AQ:V->List V->Hp->VK->Prop:=fun x vs H Q=>∃ l xs i k y,x=.ref l/\vs=[.int i]/\H l=some (.lst xs)/\-(2 ^ 63)<=i/\i<2 ^ 63/\seqIndex? i xs.length=some k/\xs[k]?=some y/\Q y (upd H l (.lst (xs.eraseIdx k)))
theorem Ap:MtM X "list.pop" AQ:=by
 intro pins s σ H x vs v us Q I rx rv h;obtain ⟨l,xs,i,k,y,rfl,rfl,hH,h1,h2,hk,hy,q⟩:=h
 cases rx;obtain ⟨u,rfl,ru⟩:=rv.one;obtain ⟨t,rfl⟩:=ru;obtain ⟨z,its,n,r,hl,e⟩:=I.lstM hH;obtain ⟨w,hw,rw'⟩:=r.get hy;refine La F.slot_list_pop ⟨_,e,rfl⟩ F.entry_list_pop (F.args_list_pop_2 _ _)
  (MeetsSeq.list_pop_at l its.toArray n i t k w (fitsIndex_both h1 h2) (by rw [HH,<- hl]; exact hk) (by rw [<- IK]; exact hw) (by rw [HH]; omega)) ⟨e,?_⟩
 refine ⟨y,_,I.lset (its':=its.eraseIdx k) hH e ?_ (r.eraseIdx k) ?_,rw',q⟩
 ·show its.toArray.eraseIdxIfInBounds k=(its.eraseIdx k).toArray
  rw [List.eraseIdxIfInBounds_toArray]
 ·have:=qp xs k
  omega
def EV:R2:=fun x y H Q=>∃ l b xs zs,x=.ref l/\y=.ref b/\H l=some (.lst xs)/\H b=some (.lst zs)/\xs.length+zs.length<=BC/\∀ p,H p=none->Q (.ref p) (upd H p (.lst (xs++zs)))
theorem cP:OpR X (Lb .Add) EV:=by
 intro pins s σ H x y v u Q I rx ry h;obtain ⟨l,b,xs,zs,rfl,rfl,hH,hB,hz,q⟩:=h
 cases rx
 cases ry;obtain ⟨z,its,n,r,hl,e⟩:=I.lstM hH;obtain ⟨z2,its2,n2,r2,hl2,e2⟩:=I.lstM hB;refine PySem.P.add_list e e2 ?_ (by rw [HH,HH]; omega);have ea:its.toArray++its2.toArray=(its++its2).toArray:=by simp
 rw [ea];exact ⟨.ref _,_,I.lnew (t':=s.toks) (r.append r2) (by rw [Av]; omega),rfl,q _ I.fresh⟩
end
section
variable {prog:HS} {w:ID} {A:IA} {E:η->χ->Prop} {s:χ}
set_option maxRecDepth 100000 in
end
end L2
namespace Att
open PySem PySem.W PySem.Calls PyProof.Rows
theorem mj {P:Params} {h:IC}:∀ (ns:List Int) (vs:List η),WellAll P h vs (ns.map WData.int)->IntsAre vs ns:=by
 intro ns
 induction ns with
 | nil =>
  intro vs w;rw [Mp] at w
  cases w;exact .nil
 | cons n ns ih =>
  intro vs w;rw [Ho] at w
  cases w with
  | cons a b =>
   cases a;exact .cons _ _ (ih _ b)
theorem zb {l:OpenLaw} {n:Nat} (hn:l.most=some n) {P:Params} {h:IC} {args:List WData} {vals:List η}
  (hpre:l.row.toRowW.claim.pre args=true) (hwl:WellAll P h vals args) :
  ∃ a vs ns,vals=[Bl a]/\args=[WData.list (ns.map WData.int)]/\h.get? a=some { cls:=.type "list",data:=.seq vs.toArray }/\IntsAre vs ns/\ns.length<=n:=by
 have hsh:WShape.hasAll [] args [.list .int]=true:=(pre_splitW hpre).1;have hc:l.pre.holds [] { args:=args }=true:=(pre_splitW hpre).2;obtain ⟨d,r,rfl,h1,h2⟩:=hasAllW_cons hsh;obtain rfl:=hasAllW_nil h2
 obtain ⟨xs,rfl,h3⟩:=hasW_list h1;obtain ⟨ns,rfl⟩:=items_int h3
 have hlen:ns.length<=n:=by
  unfold OpenLaw.pre at hc
  have h4:(WTm.not (.lt (.lit (.int (n:Int))) (.len (.arg 0)))).holds [] { args:=[.list (ns.map .int)] }=true:=by
   have h4:=(holds_andW hc).1;rw [hn] at h4;exact h4
  have h5:=condW_of h4 (w_not (w_lt w_lit (w_len_list (w_arg rfl))));rw [ξ] at h5;refine Nat.le_of_not_lt fun q=>?_;have q':(n:Int)<((ns.length:Nat):Int):=by omega
  first
   | (rw [decide_eq_true q'] at h5; exact absurd h5 (by decide))
   | (simp at h5; omega)
 cases hwl with
 | cons w1 w2 =>
  cases w2
  cases w1 with
  | list ho hall => exact ⟨_, _, ns, rfl, rfl, ho, mj ns _ hall, hlen⟩
theorem yQ (l:OpenLaw) (args:List WData):l.row.toRowW.claim.post args (.bool true) args=true :=
 postW_of (r:=l.row.toRowW) (X:=(true==true))
  (show WShape.has [] (.bool true) .bool=true by first | rfl | decide | simp [WShape.has,WShape.arms,WShape.armsAll])
  (show (WTm.eq .res (.lit (.bool true))).value [] { args:=args,res:=some (.bool true),after:=args }=some (.bool (true==true)) from w_eq_bool (w_res rfl) w_lit) rfl
theorem tY {l:OpenLaw} {n:Nat} {q:HS} {loose:List Str} {XP:(Str->Option η)->IC->Prop} {YP:ID->IC->Prop} {d:DefRec}
  (hn:l.most=some n) (hdf:d.params.defaults=[])
  (call:∀ (w:ID) (s₀ s₁:χ) (mg mb:Str->Option η) (fa:ς) (o:Iz) (pm cd doc:η) (a:ς) (vs:List η) (ns:List Int),
   Ground q loose [] XP w s₀ mg mb s₁.heap->YP w s₁.heap ->
   s₁.heap.get? fa=some o->o.data=.func (docDef d.name d.params d.body d.scope pm cd doc)->s₁.heap.CodeRec cd d.name->mg d.name=some (.ref fa) ->
   s₁.heap.get? a=some { cls:=.type "list",data:=.seq vs.toArray }->IntsAre vs ns->ns.length<=n->s₁.gens=#[] ->
   KR (B_ l.prog w) Mn (.call (.ref fa) ⟨[.ref a],[]⟩) (fun r s'=>r=.ok (.ret (.bool true))/\OldK s₁.heap s'.heap/\s'.os=s₁.os/\LN s'.gens) s₁) :
  WalkO q loose XP YP l.row.toRowW d [] (fun f vs=>Oc f vs):=by
 intro w s₀ s₁ mg mb G Y fa o pm cd doc dV kV ho hd hcd hD hmg hg args vals as hpre hlay hrd hwl hlo;obtain rfl:dV=.none:=Dflts.none hD hdf
 obtain rfl:kV=.none:=Dflts.noKw hD
 obtain ⟨a,vs,ns,rfl,rfl,hobj,hints,hlen⟩:=zb hn hpre hwl;refine enter_call (JM (call w s₀ s₁ mg mb fa o pm cd doc a vs ns G Y ho (fd_plain hd) hcd hmg hobj hints hlen hg) fun r s' hq=>?_);obtain ⟨rfl,h2,h3,h4⟩:=hq;exact ⟨.inl ⟨.bool true,.bool true,[],rfl,fun _=>rfl,.bool true,yQ l _,fun _=>⟨List.Pairwise.nil,fun _ hm=>(nomatch hm)⟩⟩,h2,h3,h4⟩
section
variable {prog:HS} {w:ID} {A:IA} {E:η->χ->Prop} {s:χ} {K:Frag}
noncomputable def G6 (h:IC) (L d:ς):List (ς×Iz):=(Io h.objs.size).filterMap fun a=>if a=L\/a=d then none else (h.get? a).map fun o=>(a,o)
end
end Att
namespace L2
open PySem PySem.Spec PyProof.Rows
theorem qD:∀ {vs:List η} {ns:List Int},IntsAre vs ns->bq (ns.map V.int) vs
 | _,_,.nil=>.nil
 | _,_,.cons n t h=>.cons ⟨t,rfl⟩ (qD h)
def Ca (H:Hp):Prop:=∀ b,H b=none\/∃ o xs,H b=some (.frz o (.lst xs))
theorem An {P:HS} {w:ID} {K:A_} {mg mb:Str->Option η} {CX:CXT} {k:Nat} {fa a:ς} {fd:IJ} {x:Str} {sp:Sp} {s₁:χ} {vs:List η} {ns:List Int}
    (KX:K.In s₁.heap) (hns:s₁.heap.Ns JQ mg) (hb:s₁.heap.Ns builtinsNs mb) (hbb:∀ x:Str,x≠"__name__"->mb x=IM x) (hlim:s₁.heap.NoLimit) (hg:s₁.gens=#[])
    (ha:s₁.heap.get? a=some { cls:=.type "list",data:=.seq vs.toArray }) (hi:IntsAre vs ns) (hl:ns.length<=BC) (hr:cM k Mn)
    (F:∀ base:IC,K.In base->base.Ns JQ mg->aR P w K mg base CX k fa fd [x] sp) (hbind:∀ (s:χ) (u:η),NZ s fd ⟨[u],[]⟩ [(x,u)])
    (hsp:∀ H:Hp,Ca H->SqL K H a (ns.map V.int)->sp [.ref a] H (fun v _=>v=.bl true) fun _ _ _=>False)
    (hCX:∀ H e s',CX [] H s₁ (fun _ _ _=>False) e s'->False) :
    KR (B_ P w) Mn (.call (.ref fa) ⟨[.ref a],[]⟩) (fun r s'=>r=.ok (.ret (.bool true))/\OldK s₁.heap s'.heap/\s'.os=s₁.os/\LN s'.gens) s₁:=by
  have rv:=qD hi;have lenV:=hi.length
  -- from an abstract heap in which nothing but the script may be tracked
  have core:∀ H:Hp,Ca H->SqL K H a (ns.map V.int)->HOk P w H s₁.heap->(∀ b,H b≠none->b=a)->(H a≠none->K.lookup a=none) ->
      KR (B_ P w) Mn (.call (.ref fa) ⟨[.ref a],[]⟩) (fun r s'=>r=.ok (.ret (.bool true))/\OldK s₁.heap s'.heap/\s'.os=s₁.os/\LN s'.gens) s₁:=by
    intro H hO hS hok hA hK;have base_of:∀ {b:ς} {o:Iz},s₁.heap.get? b=some o->H b=none->(qY s₁.heap H).get? b=some o:=fun e n=>Ag e n;have noA:∀ {b:ς} {o:Iz} {es:Array DictEntry} {ep:Nat},s₁.heap.get? b=some o->o.data=.dict es ep->H b=none:=fun {b o es ep} e d=>by
      cases q:H b with
      | none=>rfl
      | some u =>
        have e':b=a:=hA b (by rw [q]; simp);subst e';rw [ha] at e; cases e;have d':Data.seq vs.toArray _=Data.dict es ep:=d
        cases d'
    have nsK:∀ {b:ς} {m:Str->Option η},s₁.heap.Ns b m->(qY s₁.heap H).Ns b m:=fun {b m} ⟨o,es,ep,e,d,r⟩=>⟨o,es,ep,base_of e (noA e d),d,r⟩
    have hKb:K.In (qY s₁.heap H):=fun b o e=>base_of (KX b o e) (by
      cases q:H b with
      | none=>rfl
      | some u =>
        have e':b=a:=hA b (by rw [q]; simp);subst e';rw [hK (by rw [q]; simp)] at e; cases e)
    have hM:Mod K mg (qY s₁.heap H):=⟨hKb,nsK hns,⟨mb,nsK hb,hbb⟩,let ⟨mc,h1,h2⟩:=hlim; ⟨mc,nsK h1,h2⟩⟩
    have e0:tT P w K mg (qY s₁.heap H) Mn [] s₁ H:=⟨rfl,hM,fun b o e=>Cy e,OO (yr _ _),trivial,fun b hb=>absurd (show b∈([]:List ς) from hb) (by simp),hok,.of_eq hg⟩
    refine JM ((F _ hKb (nsK hns)).run Mn [] s₁ H ⟨[.ref a],[]⟩ [.ref a] [.ref a] _ _ hr e0 (hbind s₁ (.ref a)) (.cons rfl .nil) (hsp H hO hS)) fun r s' h=>?_
    cases r with
    | error e=>exact (hCX H e s' h).elim
    | ok fl =>
      cases fl with
      | next=>exact Hz h
      | brk=>exact Hz h
      | cont=>exact Hz h
      | ret u =>
        obtain ⟨v,H',os,bare,un,hok',r',q⟩:=h;have q':v=.bl true:=q;subst q';obtain rfl:u=Li true:=r'
        refine ⟨rfl,OldK.of_keep fun b o e=>?_,os,bare⟩
        cases q:H b with
        | none=>exact un.keep b o e q (by intro z; exact absurd (show b∈([]:List ς) from z) (by simp)) (by simp)
        | some u =>
          rcases hO b with z | ⟨ob,xs,z⟩
          · rw [q] at z; cases z
          · have z2:=un.frzs b ob _ z
            obtain ⟨e1,_⟩:=hok b _ z;obtain ⟨e2,_⟩:=hok' b _ z2;rw [e] at e1; cases e1;exact e2
  cases hk:K.lookup a with
  | some o =>
    -- the script is one of the module's own objects
    have e:=KX a o hk;rw [ha] at e
    cases e;refine core (fun _=>none) (fun _=>.inl rfl) (.inr ⟨_,vs.toArray,_,hk,rfl,rfl,rfl,by rw [HH,lenV]; exact hl,by simpa using rv⟩) (fun b u z=>by have z':(none:Option HO)=some u:=z; cases z') (fun b z=>absurd rfl z) fun z=>absurd rfl z
  | none =>
    refine core (fun b=>if b=a then some (.frz { cls:=.type "list",data:=.seq vs.toArray } (.lst (ns.map V.int))) else none) (fun b=>?_) (.inl (.inr ⟨{ cls:=.type "list",data:=.seq vs.toArray },if_pos rfl⟩)) (fun b u z=>?_) (fun b z=>?_) fun _=>hk
    · by_cases hb:b=a
      · exact .inr ⟨_,_,if_pos hb⟩
      · exact .inl (if_neg hb)
    · by_cases hb:b=a
      · have z':=(if_pos hb).symm.trans z
        cases z';subst hb;exact ⟨ha,by rw [ξ]; exact hl,vs,_,rv,ha⟩
      · have z':=(if_neg hb).symm.trans z
        cases z'
    · by_cases hb:b=a
      · exact hb
      · exact absurd (if_neg hb) z
noncomputable abbrev KOf {K:A_} {h:IC} (_:K.In h):W.Frag:=K
theorem walk_of {l:Oo} {n k:Nat} {q:HS} {loose:List Str} {XP:(Str->Option η)->IC->Prop} {YP:ID->IC->Prop} {d:DefRec} {K:Params->A_} {CX:ID->CXT} {sp:ID->Sp} {x:Str}
  (hn:l.most=some n) (hn2:n<=BC) (hdf:d.params.defaults=[]) (hr:cM k Mn)
  (hY:∀ (w:ID) (h:IC),YP w h->(K w.params).In h)
  (F:∀ (w:ID) (mg:Str->Option η) (fa:ς) (h:IC),(K w.params).In h->h.Ns JQ mg->mg d.name=some (.ref fa) ->
   ∃ fd:IJ,(∀ (s:χ) (u:η),NZ s fd ⟨[u],[]⟩ [(x,u)]) /\
    ∀ base:IC,(K w.params).In base->base.Ns JQ mg->aR l.prog w (K w.params) mg base (CX w) k fa fd [x] (sp w))
  (hsp:∀ (w:ID) (H:Hp) (a:ς) (ns:List Int),ns.length<=n->Ca H->SqL (K w.params) H a (ns.map V.int)->sp w [.ref a] H (fun v _=>v=.bl true) fun _ _ _=>False)
  (hCX:∀ (w:ID) (H:Hp) (s:χ) (e:η) (s':χ),CX w [] H s (fun _ _ _=>False) e s'->False) :
  PySem.W.WalkO q loose XP YP l.row.toRowW d [] (fun f vs=>Oc f vs):=by
 refine Att.tY hn hdf fun w s₀ s₁ mg mb fa o pm cd doc a vs ns G Y ho hd hcd hmg hobj hints hlen hg=>?_;have KX:=hY w _ Y;obtain ⟨fd,hb,hF⟩:=F w mg fa _ KX G.T.g hmg;exact An KX G.T.g G.T.b G.T.builtins G.T.nolimit hg hobj hints (BA hlen hn2) hr hF hb (fun H hO hS=>hsp w H a ns hlen hO hS) fun H e s'=>hCX w H s₁ e s'
theorem walk_ofK {l:Oo} {n k:Nat} {q:HS} {loose:List Str} {XP:(Str->Option η)->IC->Prop} {YP:ID->IC->Prop} {d:DefRec} {K:Params->A_} {CX:CXT} {sp:A_->Sp} {x:Str}
  (hn:l.most=some n) (hn2:n<=BC) (hdf:d.params.defaults=[]) (hr:cM k Mn)
  (hY:∀ (w:ID) (h:IC),YP w h->(K w.params).In h)
  (F:∀ (w:ID) (mg:Str->Option η) (fa:ς) (h:IC),(K w.params).In h->h.Ns JQ mg->mg d.name=some (.ref fa) ->
   ∃ fd:IJ,(∀ (s:χ) (u:η),NZ s fd ⟨[u],[]⟩ [(x,u)]) /\
    ∀ base:IC,(K w.params).In base->base.Ns JQ mg->aR l.prog w (K w.params) mg base CX k fa fd [x] (sp (K w.params)))
  (hsp:∀ (K:A_) (H:Hp) (a:ς) (ns:List Int),ns.length<=n->Ca H->SqL K H a (ns.map V.int)->sp K [.ref a] H (fun v _=>v=.bl true) fun _ _ _=>False)
  (hCX:∀ (H:Hp) (s:χ) (e:η) (s':χ),CX [] H s (fun _ _ _=>False) e s'->False) :
  PySem.W.WalkO q loose XP YP l.row.toRowW d [] (fun f vs=>Oc f vs) :=
 walk_of (K:=K) (CX:=fun _=>CX) (sp:=fun w=>sp (K w.params)) hn hn2 hdf hr hY F (fun w H a ns h1 h2 h3=>hsp (K w.params) H a ns h1 h2 h3) fun _ H s e s'=>hCX H s e s'
end L2
namespace L2
open PySem PySem.Spec PyProof.Rows
noncomputable def bL (s:Kf) (j:Nat):Stmt:=match s with
 | .ClassDef _ _ _ body _ _ _ _ _ _ _=>body.getD j (.Pass ⟨0,0,0,0⟩)
 | _=>.Pass ⟨0,0,0,0⟩
noncomputable def eM (s:Kf):Arguments:=match s with
 | .FunctionDef _ a _ _ _ _ _ _ _ _=>a
 | _=>{ posonlyargs:=[],args:=[],vararg:=none,kwonlyargs:=[],kw_defaults:=[],kwarg:=none,defaults:=[] }
noncomputable def df (s:Kf):List Stmt:=match s with
 | .FunctionDef _ _ b _ _ _ _ _ _ _=>b
 | _=>[]
noncomputable def ak (s:Kf):Scope:=match s with
 | .FunctionDef _ _ _ _ _ _ sc _ _ _=>sc
 | _=>{ kind:=.function,names:=[],isGenerator:=false,isCoroutine:=false }
noncomputable abbrev CX0:CXT:=fun _ _ _ _ _ _=>False
abbrev E0:XK:=fun _ _ _=>False
theorem aV {X:Cx}:fx CX0 X E0:=fun _ _ _ _ _ _ _ h=>h.elim
structure Fun (K:A_) (x qual:Str) (st:Kf) (f:ς) (fd:IJ):Prop where
 ex:∃ (oc:η) (od:Option ς) (kV doc pm:η) (an:Option ς) (cdv ct:η) (osl:Array (Option η)),
  fd=Lh x qual (eM st) (df st) (ak st) .none kV doc pm an cdv ct/\K.lookup f=some ⟨oc,od,.func fd,osl⟩/\W.codeIn K cdv qual=true
 kp:Ke K (.ref f)=true
section
variable {P:HS} {w:ID} {K:A_} {mg:Str->Option η} {base:IC}
theorem Fun.ok {x qual:Str} {st:Kf} {f:ς} {fd:IJ} {N ps:List Str} {k:Nat} {sp:Sp} (F:Fun K x qual st f fd) (S:aA N ps (ak st)) (len:∀ vs H Q E,sp vs H Q E->vs.length=ps.length)
  (hbody:∀ (cdv:η) (A:IA) (outer:List LU) (s:χ) (H:Hp) (vs:List V) (Q:VK) (E:XK),cM k (A.deeper (KL qual (ak st) s.heap.objs.size f cdv))->sp vs H Q E ->
   ∃ t,PSs (cE CX0 P w K mg base N qual (ak st) f cdv A outer s H E).nox (df st) t/\t { nx:=fun _ H'=>Q .non H',rt:=Q } (gf N vs) H):aR P w K mg base CX0 (k+1) f fd ps sp:=by
 obtain ⟨oc,od,kV,doc,pm,an,cdv,ct,osl,rfl,lk,hcd⟩:=F.ex;refine z9 lk hcd S len fun A outer s H vs Q E hr hsp=>?_;obtain ⟨t,h,q⟩:=hbody cdv A outer s H vs Q E hr hsp;exact ⟨t,h.nox,q⟩
theorem Fun.binds {x qual:Str} {st:Kf} {f:ς} {fd:IJ} {ps:List Str} (F:Fun K x qual st f fd)
  (h:∀ (kV doc pm:η) (an:Option ς) (cdv ct:η) (us:List η),us.length=ps.length->MA (Lh x qual (eM st) (df st) (ak st) .none kV doc pm an cdv ct) ⟨us,[]⟩=pure (ps.zip us)):aJ K fd ps []:=by
 obtain ⟨oc,od,kV,doc,pm,an,cdv,ct,osl,rfl,lk,hcd⟩:=F.ex;exact .all (h kV doc pm an cdv ct)
theorem fun_mk {x qual:Str} {st:Kf} {f:ς} {oc:η} {od an:Option ς} {osl:Array (Option η)} {kV doc pm cdv ct:η} (l:K.lookup f=some ⟨oc,od,.func (Lh x qual (eM st) (df st) (ak st) .none kV doc pm an cdv ct),osl⟩)
  (c:W.codeIn K cdv qual=true) (k:Ke K (.ref f)=true):Fun K x qual st f (Lh x qual (eM st) (df st) (ak st) .none kV doc pm an cdv ct):=⟨⟨oc,od,kV,doc,pm,an,cdv,ct,osl,rfl,l,c⟩,k⟩
end
theorem cY {A:IA} {k:Nat} (hr:cM k A):A.units+1<cLine:=HX (Nat.add_le_add_left (by decide:1<=64) _) hr.units
theorem aQ {n:Nat} (h:n<=1000):n<sizeLine:=HX h (by decide)
section
variable {X:Cx}
theorem pv (i:Nat) {x:Str} {pos:J8} (hN:X.N[i]?=some x:=by rfl) (hv:Vis X.env.scope x:=by first | exact IQ rfl | exact L0 (IQ rfl) | exact L0 (L0 rfl)) (hd:(x==("__debug__":Str))=false:=by decide)
  (hcd:(x==("__classdict__":Str))=false:=by decide):PE X (.Name x pos) (FA i):=AI hN hv hd hcd
end
theorem G3 {A B:Prop} (h:B):if false=true then A else B:=by
 rw [if_neg IB];exact h
theorem pe {A B:Prop} (h:A):if true=true then A else B:=by
 rw [if_pos rfl];exact h
theorem fT {c A B:Prop} [Decidable c] (h1:c->A) (h2:¬ c->B):if c then A else B:=by
 by_cases h:c
 ·rw [if_pos h];exact h1 h
 ·rw [if_neg h];exact h2 h
def ai (H H':Hp):Prop:=∀ b o,H b=some o->H' b=some o
theorem ai.refl (H:Hp):ai H H:=fun _ _ h=>h
theorem ai.trans {H H1 H2:Hp} (a:ai H H1) (b:ai H1 H2):ai H H2:=fun c o h=>b c o (a c o h)
theorem ai.free {H H':Hp} (e:ai H H') {l:ς} (h:H' l=Option.none):H l=Option.none:=by
 cases q:H l with
 | none=>rfl
 | some o =>
  rw [e l o q] at h
  cases h
theorem ai.seq {K:A_} {H H':Hp} {a:ς} {xs:List V} (e:ai H H') (h:SqL K H a xs):SqL K H' a xs:=by
 rcases h with (h | ⟨o,h⟩) | h
 ·exact .inl (.inl (e _ _ h))
 ·exact .inl (.inr ⟨o,e _ _ h⟩)
 ·exact .inr h
noncomputable def dk (cells:List (Str×ς)):List (Str×Ld)->List (Str×ς)->List (Str×ς)
 | [],acc=>acc
 | (n,k)::r,acc=>dk cells r (if k==.free then (n,(cells.lookup n).getD 0)::acc else acc)
theorem jE {scope:LG} {env:LU} (h:∀ x∈scope.names,x.2=.free->∃ c,env.cells.lookup x.1=some c):closureFor scope env=pure (dk env.cells scope.names []):=by
 unfold closureFor;generalize hn:scope.names=names at h ⊢;clear hn;generalize ([]:List (Str×ς))=acc
 induction names generalizing acc with
 | nil=>simp [dk]
 | cons x r ih =>
  obtain ⟨n,k⟩:=x;have ih':=fun a=>ih (fun x hx=>h x (Au _ hx)) a;simp only [NK,bind_pure] at ih' ⊢;by_cases hk:k=.free
  ·obtain ⟨c,hc⟩:=h (n,k) Θ hk;subst hk;have hcl:cellOf env n=pure c:=by simp only [cellOf,hc]
   simp only [beq_self_eq_true,if_true,hcl,hc,pure_bind,dk,Oq]
   simpa using ih' _
  ·have hb:(k==Kc)=false:=by simpa using hk
   simp only [hb,MZ,if_false,pure_bind,dk]
   simpa using ih' _
theorem fV {cells:List (Str×ς)} {y:Str} {c:ς}:∀ {names:List (Str×Ld)} {acc:List (Str×ς)},(∀ x∈names,x.2=.free->∃ c,cells.lookup x.1=some c)->(acc.lookup y=some c->cells.lookup y=some c) ->
  (dk cells names acc).lookup y=some c->cells.lookup y=some c
 | [],_,_,ha,e=>ha e
 | (n,k)::r,acc,h,ha,e=>by
  unfold dk at e;refine fV (names:=r) (fun x hx=>h x (Au _ hx)) (fun e'=>?_) e;by_cases hk:k=.free
  ·obtain ⟨d,hd⟩:=h (n,k) Θ hk;subst hk;simp only [beq_self_eq_true,if_true,hd,Oq,Lg] at e'
   cases q:y==n with
   | true =>
    rw [q] at e';have:y=n:=by simpa using q
    subst this;exact hd.trans e'
   | false=>rw [q] at e'; exact ha e'
  ·have hb:(k==Kc)=false:=by simpa using hk
   simp only [hb,MZ,if_false] at e';exact ha e'
theorem jM {cells:List (Str×ς)} {y:Str}:∀ {names:List (Str×Ld)} {acc:List (Str×ς)},((y,Kc)∈names\/∃ c,acc.lookup y=some c)->∃ c,(dk cells names acc).lookup y=some c
 | [],_,h=>by simpa [dk] using h
 | (n,k)::r,acc,h=>by
  unfold dk;refine jM (names:=r) ?_;rcases h with h | ⟨c,h⟩
  ·rcases Ξ.mp h with e | e
   ·cases e;right
    simp
   ·exact .inl e
  ·right
   by_cases hk:(k==Kc)=true
   ·rw [if_pos hk,Lg]
    cases y==n
    ·exact ⟨c,h⟩
    ·exact ⟨_,rfl⟩
   ·rw [if_neg hk];exact ⟨c,h⟩
def PTs (X:Cx) (ifs:List II) (t:TT):Prop :=
 ∀ (pins:List (ς×Iz)) (s:χ) (σ:St) (H:Hp) (Q:Bool->Hp->Prop),Inv X pins σ H s->t σ H Q ->
  BG (B_ X.prog X.w) X.A (forIn ifs true fun c r=>if r=true then do let ok <- isTrue c X.env (Ip c X.env); pure (LS ok) else pure (LS r)) (TP X pins σ Q) X.xe s
def jI:TT:=fun _ H Q=>Q true H
theorem cD {X:Cx}:PTs X [] jI:=fun _ _ _ H _ I h=>wpAny_tests_nil ⟨H,I,h⟩
theorem CM {X:Cx} {c:II} {t:TT} (h:PT X c t):PTs X [c] t:=fun pins s σ H Q I hw=>wpAny_tests_one (h pins s σ H Q I hw)
noncomputable def Cx.block (X:Cx) (scope:LG) (N:List Str) (s:χ) (H:Hp) (fp:List ς):Cx where
 prog:=X.prog
 w:=X.w
 K:=X.K
 mg:=X.mg
 base:=X.base
 A:=X.A
 N:=N
 s₀:=s
 H₀:=H
 env:=compEnvC scope (dk X.env.cells scope.names []) s.heap.objs.size X.env
 outer:=X.stack
 stack:=X.stack
 ex:=fp
 fn:=fun _=>false
 calm:=X.calm
 pn:=[]
 xe:=fun _ _=>False
noncomputable def Aj:Option Ld->Bool
 | some .cell=>true
 | some .free=>true
 | _=>false
theorem m8 {k:Option Ld} (h:Aj k=true):k=some .cell\/k=some .free:=by
 unfold Aj at h
 split at h
 ·exact .inl rfl
 ·exact .inr rfl
 ·cases h
structure fv (X:Cx) (scope:LG) (N:List Str) (cap:List (Option Nat)):Prop where
 kind:scope.kind=.function
 nocell:(scope.names.all fun y=>!(y.2==.cell))=true
 loc:(scope.names.all fun y=>!(y.2==.local)||(scope.names.lookup y.1==some .local))=true
 fre:(scope.names.all fun y=>!(y.2==.free)||Aj (X.env.kindOf y.1))=true
 len:cap.length=N.length
 cap:((cap.zip N).all fun p=>match p.1 with | none=>true | some j=>(X.N[j]?==some p.2)&&Aj (X.env.kindOf p.2)&&Aj ((relabel scope X.env).names.lookup p.2))=true
noncomputable def gh (cap:List (Option Nat)) (σ:St):St:=cap.map fun o=>match o with | none=>none | some j=>(σ[j]?).join
section
variable {X:Cx} {pins:List (ς×Iz)} {σ:St} {H:Hp} {s:χ} {fp:List ς} {scope:LG} {N:List Str} {cap:List (Option Nat)}
theorem fv.freeH (c:fv X scope N cap) (ok:X.Ok):∀ x∈scope.names,x.2=.free->∃ a,X.env.cells.lookup x.1=some a:=fun x hx hf=>by
 have:=IW.mp c.fre x hx
 rw [hf] at this;simp only [beq_self_eq_true,N3,N4] at this;exact ok.has x.1 (m8 this)
theorem kN {scope:LG} {env:LU} {y:Str} (h:(relabel scope env).names.lookup y=some .cell\/(relabel scope env).names.lookup y=some .free) (nc:∀ z∈scope.names,z.2≠.cell):(y,Kc)∈scope.names:=by
 unfold relabel at h;dsimp only at h;generalize scope.names=names at h nc
 induction names with
 | nil=>simp at h
 | cons z r ih =>
  obtain ⟨n,k⟩:=z;have nc':∀ z∈r,z.2≠.cell:=fun z hz=>nc z (Au _ hz);rw [Ho,Lg] at h;have nck:=nc (n,k) Θ;dsimp only at h nck;by_cases hc:(k==Kc&&env.scope.kind==.function&&env.kindOf n==some .cell)=true
  ·rw [if_pos hc] at h;dsimp only at h
   have hk:k=.free:=by
    simp only [Hy,beq_iff_eq] at hc;exact hc.1.1
   cases q:y==n with
   | true=>rw [show y=n from by simpa using q,hk]; exact Θ
   | false=>rw [q] at h; exact Au _ (ih h nc')
  ·rw [if_neg hc] at h;dsimp only at h
   cases q:y==n with
   | true =>
    rw [q] at h;rcases h with h | h
    ·cases h; exact absurd rfl nck
    ·cases h; rw [show y=n from by simpa using q]; exact Θ
   | false=>rw [q] at h; exact Au _ (ih h nc')
theorem fv.nc (c:fv X scope N cap):∀ z∈scope.names,z.2≠.cell:=fun z hz e=>by
 have:=IW.mp c.nocell z hz
 rw [e] at this;exact absurd this (by decide)
theorem fv.lc (c:fv X scope N cap):∀ x∈scope.names,x.2=.local->scope.names.lookup x.1=some .local:=fun x hx e=>by
 have:=IW.mp c.loc x hx
 rw [e] at this
 simpa using this
theorem zG (c:fv X scope N cap) (I:Inv X pins σ H s) (hf:∀ b∈fp,jz X pins H b) (hlt:∀ b∈fp,b<s.heap.objs.size):(X.block scope N s H fp).Ok:=by
 have lk:∀ {y:Str} {a:ς},(dk X.env.cells scope.names []).lookup y=some a->X.env.cells.lookup y=some a:=fun e=>fV (c.freeH I.ok) (fun z=>by simp at z) e;refine ⟨I.ok.mod,c.kind,I.ok.glob,I.ok.blt,Ω _,fun x y a h1 h2=>I.ok.inj x y a (lk h1) (lk h2),fun x hx=>jM (.inl (kN hx c.nc)),fun x a h=>absurd h (by simp [Cx.block]),I.ok.hd,I.ok.frames,.inl rfl,fun b hb=>⟨?_,fun x a h=>(hf b hb).2.2.2.2.1 x a (lk h)⟩,I.bs,BA I.ok.bsz I.sz,fun b o e hb=>?_,fun b hb z=>?_,I.stack,I.stkFree⟩
 ·exact Hi (hlt b hb)
 ·rcases (hf b hb).2.2.2.1 with z | z
  ·exact I.ok.noex b o e z
  ·exact absurd (Ht (BE (I.ok.bs b o e).1) z) (KJ _)
 ·rcases Ξ.mp (I.stkSub b z) with e | e
  ·exact (hf b hb).2.1 e
  ·exact (hf b hb).2.2.1 e
theorem zJ {i:Nat} {v:V} (h:(gh cap σ)[i]?=some (some v)):∃ j,cap[i]?=some (some j)/\σ[j]?=some (some v):=by
 unfold gh at h;rw [BD] at h
 cases q:cap[i]? with
 | none=>rw [q] at h; cases h
 | some o =>
  rw [q] at h
  cases o with
  | none => cases h
  | some j =>
   refine ⟨j,rfl,?_⟩;have h':(σ[j]?).join=some v:=IT h
   cases q2:σ[j]? with
   | none=>rw [q2] at h'; cases h'
   | some o =>
    rw [q2] at h';have:o=some v:=h'
    rw [this]
theorem ya (c:fv X scope N cap) (I:Inv X pins σ H s) (hf:∀ b∈fp,jz X pins H b) (hlt:∀ b∈fp,b<s.heap.objs.size) {h1:IC} {t1:Nat} (hns:h1.Ns s.heap.objs.size (fun x=>([]:List (Str×η)).reverse.lookup x))
  (hsb:Jj s.heap.objs.size (s.heap.push { cls:=.type (if (some X.env:Option LU).isSome then "dict" else "frame"),data:=.dict #[] }) h1):Inv (X.block scope N s H fp) [] (gh cap σ) H { s with heap:=h1,toks:=t1 }:=by
 have lk:∀ {y:Str} {a:ς},(dk X.env.cells scope.names []).lookup y=some a->X.env.cells.lookup y=some a:=fun e=>fV (c.freeH I.ok) (fun z=>by simp at z) e;have keep:∀ b o,s.heap.get? b=some o->h1.get? b=some o:=fun b o e=>(hsb.2 b (Hi (BE e))).trans (Δ _ e);have cellK:∀ {a:ς} {v:Option η},s.heap.IsCell a v->h1.IsCell a v:=fun ⟨o,e,d⟩=>⟨o,keep _ _ e,d⟩
 refine ⟨zG c I hf hlt,rfl,I.bare,Un.kept keep,⟨_,hns,fun i x v h1 h2 h3=>?_⟩,fun x a e=>?_,I.hok.fresh (Ω _),fun x a e=>I.freeC x a (lk e),fun p hp=>absurd (show p∈([]:List (ς×Iz)) from hp) (by simp),I.hok.kept keep,?_⟩
 ·obtain ⟨j,hc,hs⟩:=zJ h2;have hN:N[i]?=some x:=h1;have hz:(cap.zip N)[i]?=some (some j,x):=by rw [List.getElem?_zip_eq_some]; exact ⟨hc,hN⟩
  have:=IW.mp c.cap _ (H_ hz)
  simp only [Hy,beq_iff_eq] at this;obtain ⟨⟨e1,e2⟩,e3⟩:=this;obtain ⟨m,hn,hl⟩:=I.loc;have hk:=m8 e2;obtain ⟨u,r,l⟩:=hl j x v e1 hs (by rcases hk with z | z; exact .inr (.inl z); exact .inr (.inr z));refine ⟨u,r,?_⟩;rcases l with ⟨l,_⟩ | ⟨_,a,ea,ca⟩
  ·rw [l] at hk; rcases hk with z | z<;>cases z
  ·have hk':=m8 e3;obtain ⟨a',ha'⟩:=jM (cells:=X.env.cells) (acc:=[]) (.inl (kN hk' c.nc));have:a'=a:=IT ((lk ha').symm.trans ea)
   subst this;exact .inr ⟨hk',a',ha',cellK ca⟩
 ·obtain ⟨v,hv⟩:=I.cell x a (lk e);exact ⟨v,cellK hv⟩
 ·unfold gh;rw [ξ];exact c.len
end
theorem uf {prog:HS} {w:ID} {A:IA} {R:Result->χ->Prop} {s:χ} {elt target iter:II} {ifs:List II} {scope:LG} {pos:J8} {it acc:η} {env:LU} (J:Nat->χ->Prop)
    (turn:∀ n s,J n s->BG (B_ prog w) A (OG it) (fun r s₁=>match r with
      | none=>R (.ok .next) s₁
      | some v=>BG (B_ prog w) A (LC target it v) (fun _ s₀=>BG (B_ prog w) A (OI target env v) (fun _ s₂ =>
          BG (B_ prog w) A (forIn ifs true fun c r=>if r=true then do let ok <- isTrue c env (Ip c env); pure (LS ok) else pure (LS r)) (fun ok s₃ =>
            if ok=true then BG (B_ prog w) A (Ip elt env) (fun x s₄ =>
              BG (B_ prog w) A (call (.builtin "list.append") [acc,x]) (fun _ s₅=>∃ m,m<n/\J m s₅) (fun _ _=>False) s₄) (fun _ _=>False) s₃
            else ∃ m,m<n/\J m s₃) (fun _ _=>False) s₂) (fun _ _=>False) s₀) (fun _ _=>False) s₁) (fun _ _=>False) s)
    (n:Nat) (h:J n s) :
    KR (B_ prog w) A (.compLoop (.ListComp elt [⟨target,iter,ifs,0⟩] scope pos) 0 it acc env) R s:=by
  refine codeAny_loop rfl J (fun n s hI=>?_) n h
  show BG _ A ((compTurn (.ListComp elt [⟨target,iter,ifs,0⟩] scope pos) 0 it acc env).onRaise (fun x=>do L8 x env; theTreesLotGoes x)) _ _ s
  refine wpAny_noted ?_;rw [compTurn_list];refine θ (Jd (θ (Hq (turn n s hI) (fun r s₁ h₁=>?_) fun _ _ h'=>h'.elim)))
  cases r with
  | none => exact Aw h₁
  | some v =>
    refine θ (Hq h₁ (fun _ s₀ h₀=>?_) fun _ _ h'=>h'.elim);refine θ (Hq h₀ (fun _ s₂ h₂=>θ (Hq h₂ (fun ok s₃ h₃=>?_) fun _ _ h'=>h'.elim)) fun _ _ h'=>h'.elim)
    cases ok with
    | false=>exact Aw ⟨rfl,h₃⟩
    | true =>
      exact θ (θ (Hq h₃ (fun x s₄ h₄=>θ (Hq h₄ (fun _ s₅ h₅=>Aw (Aw ⟨rfl,h₅⟩)) fun _ _ h'=>h'.elim)) fun _ _ h'=>h'.elim))
def xU (wi:TI) (g:TG) (tt:TT) (te:TE) (cap:List (Option Nat)):TE:=fun σ H Q=>wi σ H fun J H1=>∀ l,H1 l=none ->
 ∃ (n:Nat) (Pv:Nat->List V->St->Hp->Prop),Pv 0 [] (gh cap σ) (upd H1 l (.lst [])) /\
  (∀ i ys σ' H',i<n->Pv i ys σ' H'->J.go i H'/\∀ x H2,J.yld i H' x H2->g x σ' H2 fun σ3 H3=>tt σ3 H3 fun b H4 =>
   if b=true then te σ3 H4 fun y H5=>H5 l=some (.lst ys)/\ys.length<BC/\Pv (i+1) (ys++[y]) σ3 (upd H5 l (.lst (ys++[y]))) else Pv (i+1) ys σ3 H4) /\
  ∀ ys σ' H',Pv n ys σ' H'->J.stop n H'/\Q (.ref l) H'
section
variable {X:Cx} {elt tg iter:II} {ifs:List II} {scope:LG} {pos:J8} {N:List Str} {cap:List (Option Nat)} {wi:TI} {g:TG} {tt:TT} {te:TE}
theorem ui {U:η->ς->χ->Prop} (hc:X.calm=true) (c:fv X scope N cap) (hi:PI X tg iter wi) (hg:∀ s H fp,PG (X.block scope N s H fp) tg g) (ht:∀ s H fp,PTs (X.block scope N s H fp) ifs tt)
    (he:∀ s H fp,PE (X.block scope N s H fp) elt te)
    {pins:List (ς×Iz)} {s:χ} {σ:St} {H:Hp} {Q:VK} (I:Inv X pins σ H s) (h:xU wi g tt te cap σ H Q)
    (hU:∀ (l C:ς) (H':Hp) (s':χ),Inv X pins σ H' s'->(∃ m,s'.heap.Ns C m)->jz X pins H' C->Q (.ref l) H'->U (.ref l) C s')
    {RR:η->ς->Result->χ->Prop} (hRR:∀ a C s',U a C s'->RR a C (.ok .next) s') :
    BG (B_ X.prog X.w) X.A (Ip iter X.env) (fun x s₁=>BG (B_ X.prog X.w) X.A (pyIter x) (fun it s₂=>BG (B_ X.prog X.w) X.A (newList []) (fun acc s₃ =>
      BG (B_ X.prog X.w) X.A (newFunctionEnv scope X.env.globals (dk X.env.cells scope.names []) [] X.env.qual none .none (some X.env)) (fun cenv s₄ =>
        KR (B_ X.prog X.w) X.A (.compStart (.ListComp elt [⟨tg,iter,ifs,0⟩] scope pos) 0 it acc { cenv with scope:=relabel scope X.env }) (RR acc cenv.locals) s₄) X.xe s₃) X.xe s₂) X.xe s₁) X.xe s:=by
  refine thn (hi pins s σ H _ I h) fun v s1 h1=>thn h1 fun itv s2 h2=>?_;obtain ⟨it,fp,tn,J,H2,e,I2,T,st2,f2,hq⟩:=h2;subst e;have hl:H2 s2.heap.objs.size=none:=I2.hok.fresh (Ω _);obtain ⟨n,Pv,p0,step,fin⟩:=hq _ hl;refine JX ?_ (by show 0<=BC; exact Hs _)
  have I3:Inv X pins σ (upd H2 s2.heap.objs.size (.lst [])) { s2 with heap:=s2.heap.push { cls:=.type "list",data:=.seq ([]:List η).toArray } } :=
    I2.laid (t':=s2.toks) (fun b u e=>Δ _ e) (Ω _) ⟨Hs _,[],_,.nil,HE _ rfl⟩
  generalize hs3:({ s2 with heap:=s2.heap.push { cls:=.type "list",data:=.seq ([]:List η).toArray } }:χ)=s3 at I3 ⊢;have k23:∀ b o,s2.heap.get? b=some o->s3.heap.get? b=some o:=fun b o e=>by rw [<- hs3]; exact Δ _ e
  have fplt2:∀ b∈fp,b<s2.heap.objs.size:=fun b hb=>let ⟨o,e,_⟩:=T.obj _ _ st2 b hb; BE e;have sz23:s2.heap.objs.size<=s3.heap.objs.size:=by rw [<- hs3]; show _<=(s2.heap.push _).objs.size; rw [JJ]; exact MK _
  have fplt:∀ b∈fp,b<s3.heap.objs.size:=fun b hb=>Ht (fplt2 b hb) sz23;have f3:∀ b∈fp,jz X pins (upd H2 s2.heap.objs.size (.lst [])) b:=fun b hb=>⟨by rw [aE (Hi (fplt2 b hb))]; exact (f2 b hb).1,(f2 b hb).2⟩
  have st3:tn 0 s3.heap:=T.keep _ _ _ st2 fun b hb o e=>k23 b o e;refine wpAny_newFunctionEnv c.nc (by intro y hy; simp at hy) (fun h4 hns hsb=>?_) c.kind;have I4:=ya (t1:=s3.toks+([]:List (Str×η)).length) c I3 f3 fplt hns hsb;have st4:tn 0 h4:=T.keep _ _ _ st3 fun b hb o e=>(hsb.2 b (Hi (fplt b hb))).trans (Δ _ e);generalize hY:X.block scope N s3 (upd H2 s2.heap.objs.size (.lst [])) fp=Y at I4;have yP:Y.prog=X.prog:=by rw [<- hY]; rfl
  have yw:Y.w=X.w:=by rw [<- hY]; rfl
  have yK:Y.K=X.K:=by rw [<- hY]; rfl
  have yA:Y.A=X.A:=by rw [<- hY]; rfl
  have yx:Y.xe=fun _ _=>False:=by rw [<- hY]; rfl
  have yc:Y.calm=true:=by rw [<- hY]; exact hc
  have yex:Y.ex=fp:=by rw [<- hY]; rfl
  have yfs:Y.fs=frs X.stack:=by rw [<- hY]; rfl
  have yH:Y.H₀=upd H2 s2.heap.objs.size (.lst []):=by rw [<- hY]; rfl
  have ys:Y.s₀=s3:=by rw [<- hY]; rfl
  have yC:Y.env.locals=s3.heap.objs.size:=by rw [<- hY]; rfl
  have yenv:compEnvC scope (dk X.env.cells scope.names []) s3.heap.objs.size X.env=Y.env:=by rw [<- hY]; rfl
  have yg:=hg s3 (upd H2 s2.heap.objs.size (.lst [])) fp;have yt:=ht s3 (upd H2 s2.heap.objs.size (.lst [])) fp;have ye:=he s3 (upd H2 s2.heap.objs.size (.lst [])) fp;have ypn:Y.pn=[]:=by rw [<- hY]; rfl
  have ycl:Y.env.cells=dk X.env.cells scope.names []:=by rw [<- hY]; rfl
  rw [hY] at yg yt ye;have lk:∀ {y:Str} {a:ς},Y.env.cells.lookup y=some a->X.env.cells.lookup y=some a:=fun e=>by rw [ycl] at e; exact fV (c.freeH I.ok) (fun z=>by simp at z) e
  have stat:∀ {H':Hp},(∀ b∈fp,H' b=none)->∀ b∈fp,jz Y [] H' b:=fun hn b hb=>by
    refine ⟨hn b hb,by rw [yC]; exact Hi (fplt b hb),?_,.inl (by rw [yex]; exact hb),fun x a e=>(f2 b hb).2.2.2.2.1 x a (lk e),fun p hp=>?_⟩
    · rw [yfs]
      intro z;rcases Ξ.mp (I2.stkSub b z) with e | e
      · exact (f2 b hb).2.1 e
      · exact (f2 b hb).2.2.1 e
    · rw [ypn] at hp
      exact absurd hp (by simp)
  -- the end
  have done:∀ {σ':St} {H':Hp} {s':χ},Inv Y [] σ' H' s'->Q (.ref s2.heap.objs.size) H'->U (.ref s2.heap.objs.size) s3.heap.objs.size s':=fun {σ' H' s'} J' q=>by
    have un:=J'.base;rw [yfs,yex,yH,ys] at un;have J3:=I3.call' (s':=s') (ch:=fp) (by rw [J'.os,ys]) un (by have:=J'.hok; rw [yP,yw] at this; exact this) J'.bare fun b hb=>⟨(f3 b hb).2.2.2.1,(f3 b hb).2.1,(f3 b hb).2.2.2.2.1,(f3 b hb).2.2.2.2.2⟩
    have hCn:H' s3.heap.objs.size=none:=by have:=J'.free; rw [yC] at this; exact this
    have hne:s3.heap.objs.size≠X.env.locals:=Ka I3.lt;have hcl:∀ x a,X.env.cells.lookup x=some a->a≠s3.heap.objs.size:=fun x a e=>let ⟨_,o,ho,_⟩:=I3.cell x a e; Hi (BE ho);have hpn:∀ p∈X.pn++pins,p.1≠s3.heap.objs.size:=fun p hp=>Hi (BE (I3.pin p hp).1);obtain ⟨m,hn,_⟩:=J'.loc;rw [yC] at hn;exact hU _ _ H' s' J3 ⟨m,hn⟩ ⟨hCn,hne,I3.nofs (Ω _),.inr I3.sz,hcl,hpn⟩ q
  have loop:∀ s5:χ,s5={ s3 with heap:=h4,toks:=s3.toks+([]:List (Str×η)).length } ->
      KR (B_ X.prog X.w) X.A (.compLoop (.ListComp elt [⟨tg,iter,ifs,0⟩] scope pos) 0 (.ref it) (.ref s2.heap.objs.size) Y.env) (RR (.ref s2.heap.objs.size) s3.heap.objs.size) s5:=by
    rintro s5 rfl;refine uf (fun k s'=>∃ i ys σ' H',Inv Y [] σ' H' s'/\tn i s'.heap/\(∀ b∈fp,H' b=none)/\i<=n/\k=n - i/\Pv i ys σ' H') ?_ n ⟨0,[],_,_,I4,st4,fun b hb=>(f3 b hb).1,Hs _,rfl,p0⟩;rintro k s6 ⟨i,zs,σ6,H6,I6,st6,fr6,hin,rfl,pv6⟩;by_cases hlt:i<n
    · obtain ⟨go,stp⟩:=step i zs σ6 H6 hlt pv6
      have q:=T.item Y yP yw yK yc i [] s6 σ6 H6 (fun _ _=>False) I6 (stat fr6) st6 go;rw [yA] at q;refine thn q fun r s7 ⟨u,hr,h7⟩=>?_;subst hr;refine thn h7 fun _ s8 ⟨x,H8,I8,r8,y8,st8,fr8⟩=>?_;have I8':=I8.pinned (stat fr8) (T.obj _ _ st8);have q:=yg _ s8 σ6 H8 x u _ I8' r8 (stp x H8 y8);rw [yP,yw,yA,yx] at q;refine thn q fun _ s9 ⟨σ9,H9,I9,q9⟩=>?_;have q:=yt _ s9 σ9 H9 _ I9 q9;rw [yP,yw,yA,yx] at q;refine thn q fun b s10 ⟨H10,I10,q10⟩=>?_;have again:∀ {ws:List V} {σ':St} {H':Hp} {s':χ},Inv Y ([]++nQ fp s8.heap) σ' H' s'->Pv (i+1) ws σ' H'->∃ m,m<n - i/\∃ i ys σ' H',Inv Y [] σ' H' s'/\tn i s'.heap/\(∀ b∈fp,H' b=none)/\i<=n/\m=n - i/\Pv i ys σ' H':=fun {ws σ' H' s'} J' p'=>by
        refine ⟨n - (i+1),by omega,i+1,ws,σ',H',J'.unpinned,T.keep _ _ _ st8 fun b hb o e=>(J'.pin (b,o) (IE _ (IE _ (gS hb e)))).1,fun b hb=>?_,hlt,rfl,p'⟩;obtain ⟨o,e,d⟩:=T.obj _ _ st8 b hb;exact (J'.pin (b,o) (IE _ (IE _ (gS hb e)))).2.1
      cases b with
      | false=>exact again I10 q10
      | true =>
        have q10:=(if_pos (α:=Prop) rfl).mp q10;have q:=ye _ s10 σ9 H10 _ I10 q10;rw [yP,yw,yA,yx] at q;refine pe ?_;refine thn q fun xv s11 ⟨y,H11,I11,r11,hl11,hz,p11⟩=>?_;have q:=bS (X:=Y) _ s11 σ9 H11 (.ref s2.heap.objs.size) [y] _ [xv] (fun _ H'=>Pv (i+1) (zs++[y]) σ9 H') I11 rfl (.cons r11 .nil) ⟨_,_,_,rfl,rfl,hl11,hz,p11⟩;rw [yP,yw,yA,yx] at q;exact thn q fun _ s12 ⟨_,H12,I12,_,p12⟩=>again I12 p12
    · have e:i=n:=by omega
      subst e;obtain ⟨stop,q⟩:=fin zs σ6 H6 pv6;have qd:=T.done Y yP yw yK yc i [] s6 σ6 H6 (fun _ _=>False) I6 (stat fr6) st6 stop;rw [yA] at qd;refine thn qd fun r s7 ⟨hr,I7⟩=>?_;subst hr;exact hRR _ _ _ (done I7 q)
  show KR _ _ (.compStart _ 0 (.ref it) _ (compEnvC scope (dk X.env.cells scope.names []) s3.heap.objs.size X.env)) (RR (.ref s2.heap.objs.size) s3.heap.objs.size) _
  rw [yenv];exact codeAny_compStart_list (loop _ rfl) (T.self X.A 0 _ _ _ st4 (loop _ rfl))
theorem jz.turned {pins:List (ς×Iz)} {σ:St} {H:Hp} {s:χ} {C:ς} {h':IC} (f:jz X pins H C) (I:Inv X pins σ H s) (sb:Jj C s.heap h'):Inv X pins σ H { s with heap:=h' } :=
 I.turned (t':=s.toks) (fun b o hb e=>(sb.2 b hb).trans e) f.1 f.2.1 f.2.2.2.1 f.2.2.2.2.1 f.2.2.2.2.2
theorem cT (hc:X.calm=true) (c:fv X scope N cap) (hi:PI X tg iter wi) (hg:∀ s H fp,PG (X.block scope N s H fp) tg g) (ht:∀ s H fp,PTs (X.block scope N s H fp) ifs tt)
  (he:∀ s H fp,PE (X.block scope N s H fp) elt te) (hs:∀ x,NQ iter X.env x=pure x:=by intro _; rfl):PE X (.ListComp elt [⟨tg,iter,ifs,0⟩] scope pos) (xU wi g tt te cap):=by
 intro pins s σ H Q I h;rw [eval_ListComp];refine OY rfl hs (jE (c.freeH I.ok)) c.kind c.lc ?_;exact ui (U:=fun a C s'=>∃ m,s'.heap.Ns C m/\∀ h',Jj C s'.heap h'->EP X pins σ Q a { s' with heap:=h' }) hc c hi hg ht he I h
  (fun l C H' s' I' ⟨m,hn⟩ f q=>⟨m,hn,fun h' sb=>⟨.ref l,H',f.turned I' sb,rfl,q⟩⟩) fun a C s' u=>u
theorem rM {i:Nat} {x:Str} {pos' pos2:J8} (hN:X.N.Nodup) (hi':X.N[i]?=some x) (hx:Loc X.env.scope x) (hc:X.calm=true) (c:fv X scope N cap) (hi:PI X tg iter wi) (hg:∀ s H fp,PG (X.block scope N s H fp) tg g) (ht:∀ s H fp,PTs (X.block scope N s H fp) ifs tt)
  (he:∀ s H fp,PE (X.block scope N s H fp) elt te) (hsw:L7 (.ListComp elt [⟨tg,iter,ifs,0⟩] scope pos) (some (.Name x pos')) pos2.line X.env=pure true) (hs:∀ x,NQ iter X.env x=pure x:=by intro _; rfl)
  (hf:X.fn x=true\/X.env.scope.names.lookup x=some .local:=by first | exact .inl rfl | exact .inr rfl | assumption):PS X (.Assign [.Name x pos'] (.ListComp elt [⟨tg,iter,ifs,0⟩] scope pos) pos2) (wQ (xU wi g tt te cap) (eB i)):=by
 intro pins s σ H D I h;rw [exec_Assign_Name_used _ _ _ _ hsw];refine θ (Jd (θ ?_))
 show BG _ X.A (do let _ <- comprehension (.ListComp elt [⟨tg,iter,ifs,0⟩] scope pos) scope X.env _ (newList []) false (Ip iter X.env) (some (OI (.Name x pos') X.env))) _ _ s
 refine θ (Hq (OY (Q:=fun _ s'=>SP X pins D .next s') rfl hs (jE (c.freeH I.ok)) c.kind c.lc ?_) (fun _ s' hq=>Aw (Aw hq)) fun _ _ e=>e);refine ui (U:=fun a C s'=>BG (B_ X.prog X.w) X.A (OI (.Name x pos') X.env a) (fun _ s''=>∃ m,s''.heap.Ns C m/\∀ h',Jj C s''.heap h'->SP X pins D .next { s'' with heap:=h' }) X.xe s') hc c hi hg ht he I h ?_ fun a C s' u=>u;intro l C H' s' I' hn f q;obtain ⟨m,o,es,ep,ho,hd,r⟩:=hn;have I2:Inv X (pins++[(C,o)]) σ H' s':=I'.pins_of fun p hp=>by
  rcases Hj.mp hp with z | z
  ·exact I'.pin p (IE _ z)
  ·have e:p=(C,o):=by simpa using z
   subst e;exact ⟨ho,f.1,f.2.1,f.2.2.1,fun v z=>by rw [hd] at z; cases z⟩
 refine wpAny_assign_Name (fQ I2 hN hi' hx (v:=.ref l) rfl (fun s2 I3=>?_) hf);have pc:=(I3.pin (C,o) (IE _ (IE _ Θ))).1;exact ⟨m,⟨o,es,ep,pc,hd,r⟩,fun h' sb=>⟨_,H',f.turned I3.unpinned sb,q⟩⟩
end
section
variable {X:Cx}
theorem uc:b9 X (.builtin "isinstance") (fun xs H Q=>∃ x n t b,xs=[x,.ty n]/\jA X.K H x t/\IF X.K t (.type n)=some b/\Q (.bl b) H):=by
 intro pins s σ H xs us Q I r h;obtain ⟨x,n,t,b,rfl,ty,e,q⟩:=h;obtain ⟨u,v,rfl,ru,rv⟩:=r.two
 cases (show v=MQ n from rv)
 exact yu I ru ty e fun tk=>⟨.bl b,H,I.tok tk,rfl,q⟩
theorem Ah {A:IA} (h:A.handled=none):A.in1.handled=none:=h
theorem zr {its:List η} {bs:List Bool} (r:bq (bs.map V.bl) its) {i:Nat} {v:η} (e:its[i]?=some v):v=.bool (bs.getD i false):=by
 have hl:=r.length;rw [ξ] at hl;have hi:i<its.length:=(F_.mp e).1
 have hb:(bs.map V.bl)[i]?=some (V.bl (bs.getD i false)):=by
  rw [BD,Hl,E_ (by omega)];rfl
 obtain ⟨u,hu,ru⟩:=r.get hb;rw [e] at hu
 cases hu;exact ru
theorem yT (bs:List Bool):(Io bs.length).all (fun i=>bs.getD i false)=bs.all id:=by
 rw [Ks];simp only [IW,MF,id];constructor
 ·intro h b hb;obtain ⟨i,hi,rfl⟩:=List.mem_iff_getElem.mp hb;have:=h i hi
  rwa [Hl,E_ hi] at this
 ·intro h i hi;rw [Hl,E_ hi];exact h _ (Iq hi)
theorem ub (hc:X.calm=true):b9 X (.builtin "all") (fun xs H Q=>∃ (p:ς) (bs:List Bool),xs=[.ref p]/\SqL X.K H p (bs.map V.bl)/\Q (.bl (bs.all id)) H):=by
 intro pins s σ H xs us Q I r h;obtain ⟨p,bs,rfl,hp,q⟩:=h;obtain ⟨u,rfl,ru⟩:=r.one
 cases (show u=Bl p from ru)
 obtain ⟨its,rv,pl,hz⟩:=I.list hp;have hh:=Ah (I.ok.hd hc);have hlt:p<s.heap.objs.size:=let ⟨o,ho,_⟩:=pl.isList; BE ho;refine call_all_walk (NN pl.isList ?_);refine ⟨s.heap.objs.size,_,_,_,_,_,fun i=>bs.getD i false,rfl,Walks.list hh s.heap.objs.size p (Hi hlt) its.toArray,⟨⟨_,HE _ rfl,rfl,rfl⟩,pl.isList.push _⟩,fun i v s' Q' E' hP hQ=>?_,fun h' tk hk=>?_⟩
 ·have:=zr rv (i:=i) (v:=v) (by simpa using hP)
  subst this;exact Jl hQ
 ·have hl:=rv.length;rw [ξ] at hl;refine ⟨.bl (bs.all id),H,I.kept (h':=h') (t':=tk) fun b o e=>hk b o (by simpa using Hi (BE e)) (Δ _ e),?_,q⟩
  show _=_
  rw [HH,<- hl,yT]
theorem qB {its:List η} {ns:List Int} (r:bq (ns.map V.int) its) {i:Nat} {v:η} (e:its[i]?=some v):∃ t,v=.int (ns.getD i 0) t:=by
 have hl:=r.length;rw [ξ] at hl;have hi:i<its.length:=(F_.mp e).1
 have hb:(ns.map V.int)[i]?=some (V.int (ns.getD i 0)):=by
  rw [BD,Hl,E_ (by omega)];rfl
 obtain ⟨u,hu,ru⟩:=r.get hb;rw [e] at hu
 cases hu;exact ru
theorem iJ (ns:List Int):∀ k,k<=ns.length->preSum (fun i=>ns.getD i 0) k=(ns.take k).sum
 | 0,_=>rfl
 | k+1,h=>by
  have ih:=iJ ns k (by omega);rw [Jx,List.sum_append,<- ih,E_ (by omega)]
  show preSum _ k+ns.getD k 0=_
  rw [Hl,E_ (by omega)];simp
def gA (ns:List Int):Prop:=∀ k,k<=ns.length->InLong ((ns.take k).sum)/\∀ n∈ns,InLong n
theorem qP (hc:X.calm=true):b9 X (.builtin "sum") (fun xs H Q=>∃ (p:ς) (ns:List Int),xs=[.ref p]/\(SqL X.K H p (ns.map V.int)\/SqT X.K H p (ns.map V.int))/\gA ns/\Q (.int ns.sum) H):=by
  intro pins s σ H xs us Q I r h;obtain ⟨p,ns,rfl,hp,sm,q⟩:=h;obtain ⟨u,rfl,ru⟩:=r.one
  cases (show u=Bl p from ru)
  have hh:=Ah (I.ok.hd hc);have fin:∀ {its:List η} {h':IC} {tk:Nat} {t':Om},bq (ns.map V.int) its->(∀ b o,b∉[s.heap.objs.size]->s.heap.get? b=some o->h'.get? b=some o) ->
      EP X pins σ Q (.int (preSum (fun i=>ns.getD i 0) its.length) t') { s with heap:=h',toks:=tk }:=fun {its h' tk t'} rv hk=>by
    have hl:=rv.length;rw [ξ] at hl;refine ⟨.int ns.sum,H,I.kept (h':=h') (t':=tk) fun b o e=>hk b o (by simpa using Hi (BE e)) e,⟨t',?_⟩,q⟩;rw [<- hl,iJ _ _ (Ω _),Hr (Ω _)]
  have fit:∀ {its:List η},bq (ns.map V.int) its->∀ j,j<its.length->InLong (ns.getD j 0)/\InLong (preSum (fun i=>ns.getD i 0) (j+1)):=fun {its} rv j hj=>by
    have hl:=rv.length;rw [ξ] at hl;refine ⟨(sm 0 (Hs _)).2 _ ?_,?_⟩
    · rw [Hl,E_ (by omega)]
      exact Iq _
    · rw [iJ _ _ (by omega)]
      exact (sm _ (by omega)).1
  rcases hp with hp | hp
  · obtain ⟨its,rv,pl,hz⟩:=I.list hp
    have hlt:p<s.heap.objs.size:=let ⟨o,ho,_⟩:=pl.isList; BE ho;refine call_sum_walk (NN pl.isList ?_);refine ⟨s.heap.objs.size,_,_,_,_,_,fun i=>ns.getD i 0,rfl,Walks.list hh s.heap.objs.size p (Hi hlt) its.toArray,⟨⟨_,HE _ rfl,rfl,rfl⟩,pl.isList.push _⟩,fun b hb=>?_,fun i v hP=>qB rv (by simpa using hP),fun j hj=>fit rv j (by simpa using hj),fun h' tk t' hk=>fin rv fun b o hb e=>hk b o hb (Δ _ e)⟩;rw [JJ];rcases Ξ.mp hb with e | e
    · rw [e]; exact Kl _
    · have:b=p:=by simpa using e
      rw [this]; exact Nat.lt_succ_of_lt hlt
  · obtain ⟨its,rv,pl,hz⟩:=I.tuple hp
    have hlt:p<s.heap.objs.size:=let ⟨o,ho,_⟩:=pl; BE ho;refine call_sum_walk (LX pl ?_);refine ⟨s.heap.objs.size,_,_,_,_,_,fun i=>ns.getD i 0,rfl,Walks.tuple hh s.heap.objs.size p (Hi hlt) its.toArray,⟨⟨_,HE _ rfl,rfl,rfl⟩,pl.push _⟩,fun b hb=>?_,fun i v hP=>qB rv (by simpa using hP),fun j hj=>fit rv j (by simpa using hj),fun h' tk t' hk=>fin rv fun b o hb e=>hk b o hb (Δ _ e)⟩;rw [JJ];rcases Ξ.mp hb with e | e
    · rw [e]; exact Kl _
    · have:b=p:=by simpa using e
      rw [this]; exact Nat.lt_succ_of_lt hlt
end
mutual
def Rep (H:Hp):JB->V->Prop
 | .none,v=>v=.non
 | .bool b,v=>v=.bl b
 | .int i,v=>v=.int i
 | .str x,v=>v=.str x
 | .list ds,v=>∃ a xs,v=.ref a/\H a=some (.lst xs)/\RepL H ds xs
 | .tuple ds,v=>∃ a xs,v=.ref a/\H a=some (.tup xs)/\RepL H ds xs
 | .dict _,_=>False
def RepL (H:Hp):List JB->List V->Prop
 | [],xs=>xs=[]
 | d::ds,xs=>∃ x r,xs=x::r/\Rep H d x/\RepL H ds r
end
mutual
theorem Rep.mono {H H':Hp} (s:ai H H'):∀ {d:JB} {v:V},Rep H d v->Rep H' d v
 | .none,_,h=>by simpa [Rep] using h
 | .bool _,_,h=>by simpa [Rep] using h
 | .int _,_,h=>by simpa [Rep] using h
 | .str _,_,h=>by simpa [Rep] using h
 | .list ds,_,h=>by
  simp only [Rep] at h ⊢;obtain ⟨a,xs,e,h1,h2⟩:=h;exact ⟨a,xs,e,s _ _ h1,RepL.mono s h2⟩
 | .tuple ds,_,h=>by
  simp only [Rep] at h ⊢;obtain ⟨a,xs,e,h1,h2⟩:=h;exact ⟨a,xs,e,s _ _ h1,RepL.mono s h2⟩
 | .dict _,_,h=>by simp only [Rep] at h
theorem RepL.mono {H H':Hp} (s:ai H H'):∀ {ds:List JB} {xs:List V},RepL H ds xs->RepL H' ds xs
 | [],_,h=>by simpa [RepL] using h
 | d::ds,_,h=>by
  simp only [RepL] at h ⊢;obtain ⟨x,r,e,h1,h2⟩:=h;exact ⟨x,r,e,Rep.mono s h1,RepL.mono s h2⟩
end
section
variable {X:Cx} {pins:List (ς×Iz)} {σ:St} {H:Hp} {s:χ}
mutual
theorem Rep.reads (I:Inv X pins σ H s):∀ {d:JB} {v:V} {u:η},Rep H d v->bF v u->∃ as,Reads s.heap u d as
 | .none,_,_,h,r=>by simp only [Rep] at h; subst h; cases r; exact ⟨_,.none⟩
 | .bool _,_,_,h,r=>by simp only [Rep] at h; subst h; cases r; exact ⟨_,.bool _⟩
 | .int _,_,_,h,r=>by simp only [Rep] at h; subst h; obtain ⟨t,rfl⟩:=r; exact ⟨_,.int _ _⟩
 | .str _,_,_,h,r=>by simp only [Rep] at h; subst h; obtain ⟨t,rfl⟩:=r; exact ⟨_,.str _ _⟩
 | .list ds,_,_,h,r=>by
  simp only [Rep] at h;obtain ⟨a,xs,rfl,h1,h2⟩:=h
  cases (show _=Bl a from r)
  obtain ⟨its,rv,pl,_⟩:=I.list (SqL.of h1);obtain ⟨as,ra⟩:=RepL.reads I h2 rv;obtain ⟨o,n,e,c,_,d⟩:=pl;exact ⟨_,.list e c d (by simpa using ra)⟩
 | .tuple ds,_,_,h,r=>by
  simp only [Rep] at h;obtain ⟨a,xs,rfl,h1,h2⟩:=h
  cases (show _=Bl a from r)
  obtain ⟨its,rv,pl,_⟩:=I.tuple (SqT.of h1);obtain ⟨as,ra⟩:=RepL.reads I h2 rv;obtain ⟨o,e,c,n,d⟩:=pl;exact ⟨_,.tuple e c d (by simpa using ra)⟩
 | .dict _,_,_,h,_=>by simp only [Rep] at h
theorem RepL.reads (I:Inv X pins σ H s):∀ {ds:List JB} {xs:List V} {us:List η},RepL H ds xs->bq xs us->∃ as,ReadsAll s.heap us ds as
 | [],_,_,h,r=>by simp only [RepL] at h; subst h; cases r; exact ⟨_,.nil⟩
 | d::ds,_,_,h,r=>by
  simp only [RepL] at h;obtain ⟨x,t,rfl,h1,h2⟩:=h
  cases r with
  | cons r1 r2 =>
   obtain ⟨as,a1⟩:=Rep.reads I h1 r1;obtain ⟨bs,a2⟩:=RepL.reads I h2 r2;exact ⟨_,.cons a1 a2⟩
end
end
def CO (neg:Bool):R2:=fun x y H Q=>∃ d e,Rep H d x/\Rep H e y/\Lj d=true/\Lj e=true/\Q (.bl (if neg then !PyData.eqv d e else JS d e)) H
section
variable {X:Cx}
theorem EF (hu:X.A.units+64<L_):OpR X (Ie .Eq) (CO false):=by
 intro pins s σ H x y v u Q I rx ry h;obtain ⟨d,e,h1,h2,s1,s2,q⟩:=h;obtain ⟨as,r1⟩:=h1.reads I rx;obtain ⟨bs,r2⟩:=h2.reads I ry;exact eq_dataH r1 r2 s1 s2 hu ⟨.bl _,H,I,rfl,q⟩
theorem Az (hu:X.A.units+64<L_):OpR X (Ie .NotEq) (CO true):=by
 intro pins s σ H x y v u Q I rx ry h;obtain ⟨d,e,h1,h2,s1,s2,q⟩:=h;obtain ⟨as,r1⟩:=h1.reads I rx;obtain ⟨bs,r2⟩:=h2.reads I ry;exact ne_dataH r1 r2 s1 s2 hu ⟨.bl _,H,I,rfl,q⟩
end
noncomputable def tyD:JB->String
 | .none=>"NoneType"
 | .bool _=>"bool"
 | .int _=>"int"
 | .str _=>"str"
 | .list _=>"list"
 | .tuple _=>"tuple"
 | .dict _=>"dict"
theorem Rep.ty {K:A_} {H:Hp} {d:JB} {v:V} (h:Rep H d v):jA K H v (.type (tyD d)):=by
 cases d with
 | none=>simp only [Rep] at h; subst h; exact .non
 | bool b=>simp only [Rep] at h; subst h; exact .bl b
 | int b=>simp only [Rep] at h; subst h; exact .int b
 | str b=>simp only [Rep] at h; subst h; exact .str b
 | list ds=>simp only [Rep] at h; obtain ⟨a,xs,rfl,e,_⟩:=h; exact .lst e
 | tuple ds=>simp only [Rep] at h; obtain ⟨a,xs,rfl,e,_⟩:=h; exact .tup e
 | dict _=>simp only [Rep] at h
noncomputable def isD (T:String):JB->Bool
 | .none=>T=="NoneType"
 | .bool _=>T=="bool"||T=="int"
 | .int _=>T=="int"
 | .str _=>T=="str"
 | .list _=>T=="list"
 | .tuple _=>T=="tuple"
 | .dict _=>T=="dict"
theorem uE {K:A_} (d:JB):IF K (.type (tyD d)) (.type "bool")=some (isD "bool" d):=by cases d<;>kernel_rfl
theorem xp {K:A_} (d:JB):IF K (.type (tyD d)) (.type "int")=some (isD "int" d):=by cases d<;>kernel_rfl
theorem xq {K:A_} (d:JB):IF K (.type (tyD d)) (.type "str")=some (isD "str" d):=by cases d<;>kernel_rfl
theorem nq {K:A_} (d:JB):IF K (.type (tyD d)) (.type "list")=some (isD "list" d):=by cases d<;>kernel_rfl
theorem jq {K:A_} (d:JB):IF K (.type (tyD d)) (.type "tuple")=some (isD "tuple" d):=by cases d<;>kernel_rfl
theorem Inv.turnedL {X:Cx} {pins:List (ς×Iz)} {σ:St} {H:Hp} {s:χ} {h':IC} {t':Nat} {ch:List ς} {T:ς} {o:HO} (I:Inv X pins σ H s) (k:∀ b o,b∉ch->s.heap.get? b=some o->h'.get? b=some o)
  (f:∀ b∈ch,jz X pins H b) (there:∀ b∈ch,∃ o,h'.get? b=some o) (hT:s.heap.objs.size<=T) (new:bP X.prog X.w (upd H T o) h' T o):Inv X pins σ (upd H T o) { s with heap:=h',toks:=t' }:=by
 have nit:∀ b u,H b=some u->b∉ch:=fun b u e z=>by rw [(f b z).1] at e; cases e
 have ltT:∀ b ob,s.heap.get? b=some ob->b≠T:=fun b ob e=>Hi (Ht (BE e) hT);have hTn:H T=none:=I.hok.fresh hT;have neT:∀ b u,H b=some u->b≠T:=fun b u e=>cj e hTn;refine I.step (g':=s.gens) (d':=s.drawn) (ch:=ch) (fun b hb=>⟨(f b hb).2.2.2.1,(f b hb).2.1,(f b hb).2.2.2.2.1,(f b hb).2.2.2.2.2⟩) (fun b o _ _ hc e _=>k b o hc e) (fun b o _ _ hc e _=>⟨o.slots,k b o hc e⟩) (fun b o _ e n=>by rw [aE (ltT b o e)]; exact n)
  (fun b o hc e=>⟨o,k b o hc e⟩) (fun b _ e=>by rw [aE (neT b _ e)]; exact e) (fun b _ _ e=>by rw [aE (neT b _ e)]; exact e) (fun b ps e=>⟨#[],by rw [aE (neT b _ e),e]; simp⟩) (fun m hm=>?_) (fun b u e=>?_) I.bare
 ·obtain ⟨ob,es,ep,ho,r⟩:=hm;exact ⟨ob,es,ep,k _ ob (fun z=>(f _ z).2.1 rfl) ho,r⟩
 ·by_cases hb:b=T
  ·subst hb;rw [af] at e
   cases e;exact new
  ·rw [aE hb] at e;refine (I.hok b u e).stay (fun c v hc q=>k c v ?_ q) (fun q e'=>?_) fun a q e'=>?_
   ·rcases hc with z | z
    ·rw [z]; exact nit b u e
    ·exact nit c _ z
   ·rw [aE (neT _ _ e')]; exact e'
   ·rw [aE (neT _ _ e')]; exact e'
noncomputable def Itz (K:A_) (a b:ς):It :=
  ⟨fun i H=>∃ xs ys x y,SqL K H a xs/\SqL K H b ys/\xs[i]?=some x/\ys[i]?=some y,
   fun i H v H'=>∃ T,v=.ref T/\H T=none/\∀ xs ys,SqL K H a xs->SqL K H b ys->∃ x y,xs[i]?=some x/\ys[i]?=some y/\H'=upd H T (.tup [x,y]),
   fun i H=>∃ xs ys,SqL K H a xs/\SqL K H b ys/\(xs.length<=i\/ys.length<=i)⟩
theorem BZ {P:HS} {w:ID} {K:A_} {elts:List II} {kt:Nat} {pt:J8} {a b n:ς} (ha:a<n) (hb:b<n) :
    tX P w K (.Tuple elts kt pt) (Itz K a b) [n+4,n+2,n+3,n,n+1] (n+4) (fun i h=>Mi h (n+4) (n+2) (n+3) .none/\Km h (n+2) (.ref n) (.ref (n+1))/\(∃ x y,Km h (n+3) x y)/\h.IsListIter n a i/\h.IsListIter (n+1) b i) where
  mem:=by simp
  obj:=fun i h st c hc=>by
    obtain ⟨z1,z2,⟨x,y,z3⟩,⟨o4,e4,c4,d4⟩,⟨o5,e5,c5,d5⟩⟩:=st;simp only [Ξ,HJ,or_false] at hc;rcases hc with rfl | rfl | rfl | rfl | rfl
    · exact ⟨_,z1,fun v z=>by cases z⟩
    · exact ⟨_,z2,fun v z=>by cases z⟩
    · exact ⟨_,z3,fun v z=>by cases z⟩
    · exact ⟨_,e4,fun v z=>by rw [d4] at z; cases z⟩
    · exact ⟨_,e5,fun v z=>by rw [d5] at z; cases z⟩
  keep:=fun i h h' st k=>by
    obtain ⟨z1,z2,⟨x,y,z3⟩,z4,z5⟩:=st;exact ⟨k _ (by simp) _ z1,k _ (by simp) _ z2,⟨x,y,k _ (by simp) _ z3⟩,z4.at fun o e=>k _ (by simp) o e,z5.at fun o e=>k _ (by simp) o e⟩
  item:=by
    intro X hP hw hK hc i pins s σ H E I hf st hg;subst hP hw hK;obtain ⟨xs,ys,x,y,hqa,hqb,hx,hy⟩:=hg;obtain ⟨its,rv,p,hz⟩:=I.list hqa;obtain ⟨jts,rw',p',hz'⟩:=I.list hqb;obtain ⟨u,hu,ru⟩:=rv.get hx;obtain ⟨u',hu',ru'⟩:=rw'.get hy;obtain ⟨z1,z2,⟨x0,y0,z3⟩,z4,z5⟩:=st;have D:NS (n+4) (n+2) (n+3) n (n+1) a b:=Jt ha hb;have ltz:n+4<s.heap.objs.size:=BE z1;refine wpAny_pyNext_zip_item D z1 z2 z3 z4 z5 p.isList p'.isList (x:=u) (y:=u') (by simpa using hu) (by simpa using hu') fun h' a1 a2 a3 a4 a5 a6 hk=>?_;refine ⟨_,rfl,OT (s:={ s with heap:=h' }) a1 fun h2 b1 hs=>?_⟩;have neT:∀ {c:ς},c<=n+4->c≠s.heap.objs.size:=fun h=>Hi (HX h ltz);have kk:∀ c o,c∉[n+4,n+3,n,n+1]->s.heap.get? c=some o->h2.get? c=some o:=fun c o hc e=>by
      simp only [Ξ,HJ,or_false,not_or] at hc;exact (hs.2 c hc.1).trans (hk c o hc.1 hc.2.1 hc.2.2.1 hc.2.2.2 e)
    have q2:h2.get? (n+2)=_:=kk _ _ (by simp only [Ξ,HJ,or_false,not_or]; exact ⟨D.TIz,D.TITO,D.TIi1,D.TIi2⟩) z2;have q3:h2.get? (n+3)=_:=(hs.2 _ D.TOz).trans a2;obtain ⟨o4,e4,c4⟩:=a3;obtain ⟨o5,e5,c5⟩:=a4;have q4:h2.get? n=_:=(hs.2 _ D.i1z).trans e4;have q5:h2.get? (n+1)=_:=(hs.2 _ D.i2z).trans e5;have qT:h2.get? s.heap.objs.size=_:=(hs.2 _ (IL (neT (Ω _)))).trans a5;have Nk:∀ c∈[n+4,n+3,n,n+1],c∈[n+4,n+2,n+3,n,n+1]:=fun c hc=>by
      simp only [Ξ,HJ,or_false] at hc ⊢;rcases hc with e | e | e | e
      · exact .inl e
      · exact .inr (.inr (.inl e))
      · exact .inr (.inr (.inr (.inl e)))
      · exact .inr (.inr (.inr (.inr e)))
    have I1:Inv X pins σ (upd H s.heap.objs.size (.tup [x,y])) { s with heap:=h2,toks:=s.toks }:=I.turnedL (ch:=[n+4,n+3,n,n+1]) kk (fun c hc=>hf c (Nk c hc)) (fun c hc=>by
        simp only [Ξ,HJ,or_false] at hc;rcases hc with rfl | rfl | rfl | rfl
        · exact ⟨_,b1⟩
        · exact ⟨_,q3⟩
        · exact ⟨_,q4⟩
        · exact ⟨_,q5⟩) (Ω _) ⟨by show 2<=BC; decide,[u,u'],.cons ru (.cons ru' .nil),_,qT,rfl,_,rfl⟩
    refine ⟨.ref s.heap.objs.size,_,I1,rfl,⟨_,rfl,I.hok.fresh (Ω _),fun vs ws hv hw=>?_⟩,⟨b1,q2,⟨_,_,q3⟩,⟨_,q4,c4⟩,⟨_,q5,c5⟩⟩,fun c hc=>?_⟩
    · rw [I.list_inj hv hqa,I.list_inj hw hqb]
      exact ⟨x,y,hx,hy,rfl⟩
    · have hle:c<=n+4:=by
        simp only [Ξ,HJ,or_false] at hc;rcases hc with rfl | rfl | rfl | rfl | rfl
        · exact Ω _
        · exact C_ (n+2) 2
        · exact C_ (n+3) 1
        · exact C_ _ 4
        · exact C_ (n+1) 3
      rw [aE (neT hle)];exact (hf c hc).1
  done:=by
    intro X hP hw hK hc i pins s σ H E I hf st hg;subst hP hw hK;obtain ⟨xs,ys,hqa,hqb,hl⟩:=hg;obtain ⟨its,rv,p,hz⟩:=I.list hqa;obtain ⟨jts,rw',p',hz'⟩:=I.list hqb;obtain ⟨z1,z2,⟨x0,y0,z3⟩,z4,z5⟩:=st;have D:NS (n+4) (n+2) (n+3) n (n+1) a b:=Jt ha hb;have l1:=rv.length;have l2:=rw'.length;refine wpAny_pyNext_zip_end (I.ok.hd hc) D z1 z2 z3 z4 z5 p.isList p'.isList ?_ fun h' hk=>⟨rfl,?_⟩
    · rcases hl with h | h
      · exact .inl (by simp; omega)
      · exact .inr (by simp; omega)
    · have fp:∀ c∈[n+4,n+3,n,n+1],jz X pins H c:=fun c hc=>hf c (by
        simp only [Ξ,HJ,or_false] at hc ⊢;rcases hc with e | e | e | e
        · exact .inl e
        · exact .inr (.inr (.inl e))
        · exact .inr (.inr (.inr (.inl e)))
        · exact .inr (.inr (.inr (.inr e))))
      have kk:∀ c o,c∉[n+4,n+3,n,n+1]->s.heap.get? c=some o->h'.get? c=some o:=fun c o hc e=>by
        simp only [Ξ,HJ,or_false,not_or] at hc;exact hk c o hc.1 hc.2.1 hc.2.2.1 hc.2.2.2 e
      have nit:∀ c u,H c=some u->c∉[n+4,n+3,n,n+1]:=fun c u e z=>by rw [(fp c z).1] at e; cases e
      refine I.step (g':=s.gens) (d':=s.drawn) (t':=s.toks) (ch:=[n+4,n+3,n,n+1]) (fun c hc=>⟨(fp c hc).2.2.2.1,(fp c hc).2.1,(fp c hc).2.2.2.2.1,(fp c hc).2.2.2.2.2⟩) (fun c o _ _ hc e _=>kk c o hc e) (fun c o _ _ hc e _=>⟨o.slots,kk c o hc e⟩) (fun _ _ _ _ n=>n)
        (fun c o hc e=>⟨o,kk c o hc e⟩) (fun _ _ e=>e) (fun _ _ _ e=>e) (fun _ ps e=>⟨#[],by rw [e]; simp⟩) (fun m hm=>?_) (fun c u e=>?_) I.bare
      · obtain ⟨ob,es,ep,ho,r⟩:=hm
        exact ⟨ob,es,ep,kk _ ob (fun z=>(fp _ z).2.1 rfl) ho,r⟩
      · refine (I.hok c u e).stay (fun d v hd q=>kk d v ?_ q) (fun _ e'=>e') fun _ _ e'=>e'
        rcases hd with z | z
        · rw [z]; exact nit c u e
        · exact nit d _ z
  self:=fun _ _ _ _ _ st h=>L6 st.1 h
section
variable {σ:St} {H:Hp} {Q:VK} {D:dn} {QB:Bool->Hp->Prop} {QA:List V->Hp->Prop}
theorem Di (h:D.nx σ H):Ec D σ H:=h
theorem E5 {te:TE} {g:TG} (h:te σ H fun x H1=>g x σ H1 D.nx):wQ te g D σ H:=h
theorem dO {i:Nat} {v:V} {Q:St->Hp->Prop} (h:Q (σ.set i (some v)) H):eB i v σ H Q:=h
theorem Fp {te:TE} (h:te σ H D.rt):GQ te D σ H:=h
theorem C4 {te:TE} (h:te σ H fun _ H1=>D.nx σ H1):D8 te D σ H:=h
theorem Fg {c:TT} {t u:TS} (h:c σ H fun b H1=>if b=true then t D σ H1 else u D σ H1):GN c t u D σ H:=h
theorem GB {t:TE} (h:t σ H fun x H1=>∃ c,x=.bl c/\QB c H1):tB t σ H QB:=h
theorem Bd {t:TE} (h:t σ H fun x H1=>∃ c,x=.bl c/\QB c H1):BX t σ H QB:=h
theorem C5 {b:Bool} {P:Bool->Prop} (h:P b):∃ c,V.bl b=V.bl c/\P c:=⟨b,rfl,h⟩
theorem A0 {a:ς} {P:ς->Prop} (h:P a):∃ c,V.ref a=V.ref c/\P c:=⟨a,rfl,h⟩
theorem AZ {i:Int} {P:Int->Prop} (h:P i):∃ c,V.int i=V.int c/\P c:=⟨i,rfl,h⟩
theorem Fs {i:Nat} {v:V} (e:σ[i]?=some (some v)) (h:Q v H):FA i σ H Q:=⟨v,e,h⟩
theorem Hg {v:V} (h:Q v H):tC v σ H Q:=h
theorem Gy {r:R2} {ta tb:TE} (h:ta σ H fun x H1=>tb σ H1 fun y H2=>r x y H2 Q):tOp r ta tb σ H Q:=h
theorem GC {r:V->Hp->VK->Prop} {ta:TE} (h:ta σ H fun x H1=>r x H1 Q):tUn r ta σ H Q:=h
theorem CV {ta tb:TE} (h:ta σ H fun x H1=>∃ c,x=.bl c/\if c=true then tb σ H1 Q else Q (.bl false) H1):D5 ta tb σ H Q:=h
theorem Dj {ta:TE} (h:ta σ H fun x H1=>∃ c,x=.bl c/\Q (.bl (!c)) H1):Ed ta σ H Q:=h
theorem E4 {t u:TT} (h:t σ H fun c H1=>if c=true then u σ H1 QB else QB false H1):GI t u σ H QB:=h
theorem Gz {t u:TT} (h:t σ H fun c H1=>if c=true then QB true H1 else u σ H1 QB):tOr t u σ H QB:=h
theorem Fn {t:TT} (h:t σ H fun c H1=>QB (!c) H1):GO t σ H QB:=h
theorem Gx {t:TT} {ta tb:TE} (h:t σ H fun c H1=>if c=true then ta σ H1 Q else tb σ H1 Q):tIf t ta tb σ H Q:=h
theorem fk (h:QB true H):jI σ H QB:=h
theorem Gv {g:Int->Int->V} {i j:Int} (h:Q (g i j) H):rI0 g (.int i) (.int j) H Q:=⟨i,j,rfl,rfl,h⟩
theorem bV {C:Int->Int->Prop} {g:Int->Int->V} {i j:Int} (c:C i j) (h:Q (g i j) H):rI C g (.int i) (.int j) H Q:=⟨i,j,rfl,rfl,c,h⟩
theorem Hf {g:Int->V} {i:Int} (h:Q (g i) H):rU g (.int i) H Q:=⟨i,rfl,h⟩
theorem E9 {i j:Int} (h:Q (.bl (decide (i=j))) H):rEq (.int i) (.int j) H Q:=⟨rfl,by
 rw [my,Int.instDecidableEq.eq_def]<;>first | exact h | (simpa [my] using h)⟩
theorem Fj {i j:Int} (h:Q (.bl (!decide (i=j))) H):rNe (.int i) (.int j) H Q:=⟨rfl,by
 have e:decide (V.int i=V.int j)=decide (i=j):=by by_cases z:i=j<;>simp [z]
 rw [e]; exact h⟩
theorem Fb {i j:Str} (h:Q (.bl (decide (i=j))) H):rEq (.str i) (.str j) H Q:=⟨rfl,by
 have e:decide (V.str i=V.str j)=decide (i=j):=by by_cases z:i=j<;>simp [z]
 rw [e]; exact h⟩
theorem E8 {i j:Bool} (h:Q (.bl (decide (i=j))) H):rEq (.bl i) (.bl j) H Q:=⟨rfl,by
 have e:decide (V.bl i=V.bl j)=decide (i=j):=by by_cases z:i=j<;>simp [z]
 rw [e]; exact h⟩
theorem Fi {i j:Bool} (h:Q (.bl (!decide (i=j))) H):rNe (.bl i) (.bl j) H Q:=⟨rfl,by
 have e:decide (V.bl i=V.bl j)=decide (i=j):=by by_cases z:i=j<;>simp [z]
 rw [e]; exact h⟩
theorem aS {K:A_} {p:ς} {xs:List V} {i:Int} {v:V} (h:SqL K H p xs) (e:atI xs i=some v) (q:Q v H):CP K (.ref p) (.int i) H Q:=⟨p,xs,i,v,rfl,rfl,h,e,q⟩
theorem aq {K:A_} {p:ς} {xs:List V} {i:Int} {v:V} (h:SqT K H p xs) (e:atI xs i=some v) (q:Q v H):EZ K (.ref p) (.int i) H Q:=⟨p,xs,i,v,rfl,rfl,h,e,q⟩
theorem AW {r r':R2} {ta tb tc:TE} (h:ta σ H fun x H1=>tb σ H1 fun y H2=>r x y H2 fun z H3=>∃ k,z=.bl k/\if k=true then tc σ H3 fun y' H4=>r' y y' H4 Q else Q (.bl false) H3):BL r r' ta tb tc σ H Q:=h
theorem CW {sp:Sp} {dvs:List V} {E:XK} {t:TA} (h:t σ H fun vs H1=>sp (vs++dvs) H1 Q E):xT sp dvs E t σ H Q:=h
theorem Fl (h:QA [] H):BW σ H QA:=h
theorem CZ {ta:TE} {tr:TA} (h:ta σ H fun x H1=>tr σ H1 fun xs H2=>QA (x::xs) H2):D6 ta tr σ H QA:=h
theorem Gu {r:List V->Hp->VK->Prop} {t:TA} (h:t σ H fun vs H1=>r vs H1 Q):tCB r t σ H Q:=h
end
theorem EB {K:A_}:IF K (.type "int") (.type "int")=some true:=by kernel_rfl
theorem EA {K:A_}:IF K (.type "int") (.type "bool")=some false:=by kernel_rfl
section
variable {X:Cx} {K:A_} {H:Hp} {Q:VK} {σ:St}
def EX (K:A_):List V->Hp->VK->Prop:=fun xs H Q=>∃ x n t b,xs=[x,.ty n]/\jA K H x t/\IF K t (.type n)=some b/\Q (.bl b) H
theorem yb:b9 X (.builtin "isinstance") (EX X.K):=uc
theorem dS {x:V} {n:String} {t:η} {b:Bool} (ty:jA K H x t) (e:IF K t (.type n)=some b) (h:Q (.bl b) H):EX K [x,.ty n] H Q:=⟨x,n,t,b,rfl,ty,e,h⟩
def CQ (K:A_):List V->Hp->VK->Prop:=fun xs H Q=>∃ p ys,xs=[.ref p]/\(SqL K H p ys\/SqT K H p ys)/\Q (.int ys.length) H
theorem Em:b9 X (.builtin "len") (CQ X.K):=qL
theorem bM {p:ς} {ys:List V} (h:H p=some (.lst ys)) (q:Q (.int ys.length) H):CQ K [.ref p] H Q:=⟨p,ys,rfl,.inl (SqL.of h),q⟩
theorem mK {p:ς} {ys:List V} (h:H p=some (.tup ys)) (q:Q (.int ys.length) H):CQ K [.ref p] H Q:=⟨p,ys,rfl,.inr (SqT.of h),q⟩
def EU (K:A_):List V->Hp->VK->Prop:=fun xs H Q=>∃ (p:ς) (bs:List Bool),xs=[.ref p]/\SqL K H p (bs.map V.bl)/\Q (.bl (bs.all id)) H
theorem El (hc:X.calm=true):b9 X (.builtin "all") (EU X.K):=ub hc
theorem iL {p:ς} {bs:List Bool} (h:H p=some (.lst (bs.map V.bl))) (q:Q (.bl (bs.all id)) H):EU K [.ref p] H Q:=⟨p,bs,rfl,SqL.of h,q⟩
def CT (K:A_):List V->Hp->VK->Prop:=fun xs H Q=>∃ (p:ς) (ns:List Int),xs=[.ref p]/\(SqL K H p (ns.map V.int)\/SqT K H p (ns.map V.int))/\gA ns/\Q (.int ns.sum) H
theorem En (hc:X.calm=true):b9 X (.builtin "sum") (CT X.K):=qP hc
theorem xK {p:ς} {ns:List Int} (h:H p=some (.tup (ns.map V.int))) (s:gA ns) (q:Q (.int ns.sum) H):CT K [.ref p] H Q:=⟨p,ns,rfl,.inr (SqT.of h),s,q⟩
theorem xJ {p:ς} {ns:List Int} (h:H p=some (.lst (ns.map V.int))) (s:gA ns) (q:Q (.int ns.sum) H):CT K [.ref p] H Q:=⟨p,ns,rfl,.inl (SqL.of h),s,q⟩
def Gf:List V->Hp->VK->Prop:=fun xs H Q=>∃ i,xs=[.int i]/\Q (.int (if i<0 then -i else i)) H
theorem jL:b9 X (.builtin "abs") Gf:=zI
theorem E3 {i:Int} (q:Q (.int (if i<0 then -i else i)) H):Gf [.int i] H Q:=⟨i,rfl,q⟩
def xG (K:A_):List V->Hp->VK->Prop:=fun xs H Q=>∃ p ys,xs=[.ref p]/\(SqL K H p ys\/SqT K H p ys)/\∀ l,H l=none->Q (.ref l) (upd H l (.lst ys))
theorem Cf:b9 X (.type "list") (xG X.K):=qN
theorem u6 {p:ς} {ys:List V} (h:H p=some (.lst ys)) (q:∀ l,H l=none->Q (.ref l) (upd H l (.lst ys))):xG K [.ref p] H Q:=⟨p,ys,rfl,.inl (SqL.of h),q⟩
theorem iN {p:ς} {ys:List V} (h:H p=some (.tup ys)) (q:∀ l,H l=none->Q (.ref l) (upd H l (.lst ys))):xG K [.ref p] H Q:=⟨p,ys,rfl,.inr (SqT.of h),q⟩
def wk (K:A_):List V->Hp->VK->Prop:=fun xs H Q=>∃ p ys,xs=[.ref p]/\((SqL K H p ys/\∀ l,H l=none->Q (.ref l) (upd H l (.tup ys)))\/(SqT K H p ys/\Q (.ref p) H))
theorem zH:b9 X (.type "tuple") (wk X.K):=oY
theorem qx {p:ς} {ys:List V} (h:H p=some (.lst ys)) (q:∀ l,H l=none->Q (.ref l) (upd H l (.tup ys))):wk K [.ref p] H Q:=⟨p,ys,rfl,.inl ⟨SqL.of h,q⟩⟩
def DW:List V->Hp->VK->Prop:=fun xs H Q=>(∃ i,xs=[.int i]/\Q (.int i) H)\/∃ k,xs=[.bl k]/\Q (.int (if k then 1 else 0)) H
theorem lh:b9 X (.type "int") DW:=yd
theorem C8 {b:Bool} (q:Q (.int (if b then 1 else 0)) H):DW [.bl b] H Q:=.inr ⟨b,rfl,q⟩
def Gh (K:A_) (f:Str):V->Hp->VK->Prop:=fun x H1 Q=>∃ a C dx fs v,x=.ref a/\H1 a=some (.ins C dx fs)/\Cls K C/\de K C f/\fs.lookup f=some v/\Q v H1
theorem Fd {ta:TE} {f:Str} (h:ta σ H fun x H1=>Gh K f x H1 Q):Fy K ta f σ H Q:=h
theorem cu {f:Str} {a C dx:ς} {fs:List (Str×V)} {v:V} (h:H a=some (.ins C dx fs)) (c:Cls K C) (n:de K C f) (l:fs.lookup f=some v) (q:Q v H):Gh K f (.ref a) H Q:=⟨a,C,dx,fs,v,rfl,h,c,n,l,q⟩
def xH (C:ς) (m:Str):V->Hp->Prop->Prop:=fun x H1 q=>∃ a dx fs,x=.ref a/\H1 a=some (.ins C dx fs)/\fs.lookup m=none/\q
theorem Dg {C:ς} {m:Str} {sp:Sp} {dvs:List V} {E:XK} {ta:TE} {t:TA} (h:ta σ H fun x H1=>xH C m x H1 (t σ H1 fun vs H2=>sp (x::(vs++dvs)) H2 Q E)):BV C m sp dvs E ta t σ H Q:=h
theorem ax {C a dx:ς} {m:Str} {fs:List (Str×V)} {q:Prop} (h:H a=some (.ins C dx fs)) (l:fs.lookup m=none) (hq:q):xH C m (.ref a) H q:=⟨a,dx,fs,rfl,h,l,hq⟩
theorem De {C:ς} {sp:Sp} {dvs:List V} {E:XK} {t:TA} (h:t σ H fun vs H1=>∀ x dx,H1 x=none->H1 dx=none->dx≠x ->
 sp (.ref x::(vs++dvs)) (upd (upd H1 dx (.own x)) x (.ins C dx [])) (fun v H2=>v=.non/\Q (.ref x) H2) E):BR C sp dvs E t σ H Q:=h
def rBM (K:A_) (T:String):V->Hp->Prop->Prop:=fun x H1 q=>tyV K T x H1/\q
theorem Gw {T:String} {r:V->List V->Hp->VK->Prop} {to:TE} {t:TA} (h:to σ H fun x H1=>rBM K T x H1 (t σ H1 fun xs H2=>r x xs H2 Q)):tBM K T r to t σ H Q:=h
theorem cV {l:ς} {xs:List V} {q:Prop} (h:H l=some (.lst xs)) (hq:q):rBM K "list" (.ref l) H q:=⟨.inl ⟨rfl,_,SqL.of h⟩,hq⟩
theorem bT {l:ς} {xs:List V} {y:V} (h:H l=some (.lst xs)) (z:xs.length<BC) (q:Q .non (upd H l (.lst (xs++[y])))):xE (.ref l) [y] H Q:=⟨l,xs,y,rfl,rfl,h,z,q⟩
theorem GA {r:V->Option Int->Option Int->Hp->VK->Prop} {te:TE} {tl th:TO} (h:te σ H fun x H1=>tl σ H1 fun l H2=>th σ H2 fun u H3=>r x l u H3 Q):tSl r te tl th σ H Q:=h
theorem yY {Q:Option Int->Hp->Prop} (h:Q none H):xW σ H Q:=h
theorem Dk {t:TE} {Q:Option Int->Hp->Prop} (h:t σ H fun x H1=>∃ i,x=.int i/\Q (some i) H1):Ee t σ H Q:=h
theorem eG {a:ς} {xs:List V} {lo hi:Option Int} (h:H a=some (.lst xs)) (q:∀ p,H p=none->Q (.ref p) (upd H p (.lst (cg xs lo hi)))):CS K (.ref a) lo hi H Q:=⟨a,xs,rfl,SqL.of h,q⟩
def zB (J:It) (g:TG) (tb:TS) (D:dn) (σ:St) (H1:Hp):Prop:=∃ W:Nat->Nat->St->Hp->Prop,(∃ m,W 0 m σ H1)/\∀ i m σ H,W i m σ H ->
 (J.stop i H/\D.nx σ H)\/(J.go i H/\∃ N:St->Hp->Prop,(∀ σ' H',N σ' H'->∃ m',m'<m/\W (i+1) m' σ' H')/\∀ x H',J.yld i H x H'->g x σ H' fun σ2 H2=>tb { D with nx:=N,ct:=N,bk:=D.nx } σ2 H2)
theorem Ff {wi:TI} {g:TG} {tb:TS} {D:dn} (h:wi σ H fun J H1=>zB J g tb D σ H1):GL wi g tb D σ H:=h
theorem gD {a:ς} {xs:List V} {g:TG} {tb:TS} {D:dn} (Pv:Nat->St->Hp->Prop) (h0:Pv 0 σ H) (hl:∀ i σ H,i<=xs.length->Pv i σ H->SqL K H a xs)
  (hs:∀ i x σ H,xs[i]?=some x->Pv i σ H->g x σ H fun σ2 H2=>tb { D with nx:=Pv (i+1),ct:=Pv (i+1),bk:=D.nx } σ2 H2) (hd:∀ σ H,Pv xs.length σ H->D.nx σ H):zB (Itl K a) g tb D σ H:=Ab Pv h0 hl hs hd
theorem Aa {a:ς} {xs:List V} {g:TG} {tb:TS} {D:dn} (Pv:Nat->St->Hp->Prop) (h0:Pv 0 σ H) (hl:∀ i σ H,i<=xs.length->Pv i σ H->SqT K H a xs)
  (hs:∀ i x σ H,xs[i]?=some x->Pv i σ H->g x σ H fun σ2 H2=>tb { D with nx:=Pv (i+1),ct:=Pv (i+1),bk:=D.nx } σ2 H2) (hd:∀ σ H,Pv xs.length σ H->D.nx σ H):zB (Itt K a) g tb D σ H:=Co Pv h0 hl hs hd
theorem gQ {lo:Int} {n:Nat} {g:TG} {tb:TS} {D:dn} (Pv:Nat->St->Hp->Prop) (h0:Pv 0 σ H)
  (hs:∀ i σ H,i<n->Pv i σ H->g (.int (lo+i)) σ H fun σ2 H2=>tb { D with nx:=Pv (i+1),ct:=Pv (i+1),bk:=D.nx } σ2 H2) (hd:∀ σ H,Pv n σ H->D.nx σ H):zB (Itr lo n) g tb D σ H:=yp Pv h0 hs hd
theorem Dl {ta:TA} {R:It->Hp->Prop} (h:ta σ H fun vs H1=>∃ j:Int,vs=[.int j]/\-(2 ^ 62)<=j/\j<2 ^ 62/\R (Itr 0 j.toNat) H1):DQ ta σ H R:=h
theorem A3 {tl:TE} {R:It->Hp->Prop} (h:tl σ H fun x H1=>∃ a,x=.ref a/\(∃ xs,SqL K H1 a xs)/\R (Itl K a) H1):DP K tl σ H R:=h
theorem C9 {tl:TE} {R:It->Hp->Prop} (h:tl σ H fun x H1=>∃ a,x=.ref a/\(∃ xs,SqT K H1 a xs)/\R (Itt K a) H1):F1 K tl σ H R:=h
end
theorem cN {zs:List Int} {i:Int} (h0:0<=i) (h1:i<zs.length):atI (zs.map V.int) i=some (.int (zs.getD i.toNat 0)):=by
 obtain ⟨k,rfl⟩:∃ k:Nat,i=(k:Int):=⟨i.toNat,by omega⟩
 refine cK ?_;have hk:k<zs.length:=by omega
 simp [hk]
theorem ai.new {H:Hp} {p:ς} {o:HO} (h:H p=none):ai H (upd H p o):=fun b u e=>by rw [aE (cj e h)]; exact e
theorem ai.later {H0 H:Hp} {p:ς} {o:HO} (s:ai H0 H) (h:H0 p=none):ai H0 (upd H p o):=fun b u e=>by rw [aE (cj e h)]; exact s b u e
theorem F3 {b:Bool} {A B:Prop} (h:if b=true then A else B):if (true&&b)=true then A else B:=by rw [LV]; exact h
theorem F2 {b:Bool} {A B:Prop} (h:if b=true then B else A):if (!b)=true then A else B:=by cases b<;>exact h
section
variable {prog:HS} {w:ID} {A:IA} {E:η->χ->Prop} {s:χ}
theorem jC {t sl:ς} {items:Array η} {vl vu:η} {lo hi:Option Int} {Q:η->χ->Prop} (ht:IsTup s.heap t items) (hs:s.heap.IsSliceOf sl vl vu .none) (pl:ML vl lo) (pu:ML vu hi)
  (hw:HT.sIx items.size 0 lo=0/\HT.sIx items.size items.size hi=items.size) (h:Q (.ref t) s):BG (B_ prog w) A (Lp (.ref t) (.ref sl)) Q E s:=by
 obtain ⟨os,hos,hcs,hds⟩:=id hs;have hTs:s.TypeIs (.ref sl) "slice":=⟨os,hos,hcs⟩
 unfold Lp
 try with_reducible refine Ij ?_
 first | refine θ (Aw ?_) | skip
 refine θ (wpAny_sequenceKey ht.typeIs (by decide) ?_);refine θ (JY (name:=JK "__getitem__") ht.typeIs Ig
  (KI Ig ht.typeIs entry_tuple_getitem ?_ (args_tuple_getitem _ _)))
 show BG _ _ (MT (.ref t) >>= _) _ _ s
 refine θ (tupleItemsOf_ ht ?_);refine θ (wpAny_typeOf hTs ?_);rw [if_pos (by decide)];refine θ (HT.gJ hs pl pu ?_)
 have hyes:(((HT.sIx items.size 0 lo:Nat):Int)==0&&(1:Int)==1&&(HT.sIx items.size items.size hi - HT.sIx items.size 0 lo)==items.size)=true:=by
  rw [hw.1,hw.2]; simp
 show BG _ _ (if (((HT.sIx items.size 0 lo:Nat):Int)==0&&(1:Int)==1&&(HT.sIx items.size items.size hi - HT.sIx items.size 0 lo)==items.size)=true then _ else _) _ _ s
 rw [if_pos hyes];unfold Builtin.Tuple.tupleIsExact;refine θ (θ (wpAny_typeOf ht.typeIs (Aw ?_)));rw [if_pos (by decide)]
 first
  | exact θ (LW (Aw ⟨_, rfl, Aw h⟩))
  | exact θ (LW (θ (Aw (Aw ⟨_, rfl, Aw h⟩))))
  | exact θ (θ (LW (Aw ⟨_, rfl, Aw h⟩)))
end
def AR (K:A_):V->Option Int->Option Int->Hp->VK->Prop:=fun x lo hi H Q=>∃ a xs,x=.ref a/\H a=some (.tup xs)/\∀ H1 p,ai H H1->H1 p=some (.tup (cg xs lo hi))->Q (.ref p) H1
theorem DA {X:Cx}:SlR X (AR X.K):=by
 intro pins s σ H x v vl vu lo hi sl Q I rx hs pl pu h;obtain ⟨a,xs,rfl,hx,q⟩:=h;by_cases hw:HT.sIx xs.length 0 lo=0/\HT.sIx xs.length xs.length hi=xs.length
 ·cases rx;obtain ⟨its,r,ht,hz⟩:=I.tuple (SqT.of hx);have hlen:its.toArray.size=xs.length:=by rw [HH]; exact r.length.symm
  refine ⟨"tuple",_,Ig.lookup,ht.typeIs,jC ht hs pl pu (by rw [hlen]; exact hw) ⟨.ref a,H,I,rfl,q H a (ai.refl _) ?_⟩⟩;rw [hx];unfold cg;rw [hw.1,hw.2,KY,Mv,Hr (Ω _)]
 ·exact Fw pins s σ H _ v vl vu lo hi sl Q I rx hs pl pu ⟨a,xs,rfl,SqT.of hx,hw,fun p hp=>q _ p (ai.new hp) af⟩
theorem Bc {K:A_} {H:Hp} {Q:VK} {a:ς} {xs:List V} {lo hi:Option Int} (h:H a=some (.tup xs)) (q:∀ H1 p,ai H H1->H1 p=some (.tup (cg xs lo hi))->Q (.ref p) H1):AR K (.ref a) lo hi H Q:=⟨a,xs,rfl,h,q⟩
def jD (J:It) (g:TG) (tt:TT) (te:TE) (cap:List (Option Nat)) (l:ς) (σ:St) (H1:Hp) (Q:VK):Prop :=
 ∃ (n:Nat) (Pv:Nat->List V->St->Hp->Prop),Pv 0 [] (gh cap σ) (upd H1 l (.lst [])) /\
  (∀ i ys σ' H',i<n->Pv i ys σ' H'->J.go i H'/\∀ x H2,J.yld i H' x H2->g x σ' H2 fun σ3 H3=>tt σ3 H3 fun b H4 =>
   if b=true then te σ3 H4 fun y H5=>H5 l=some (.lst ys)/\ys.length<BC/\Pv (i+1) (ys++[y]) σ3 (upd H5 l (.lst (ys++[y]))) else Pv (i+1) ys σ3 H4) /\
  ∀ ys σ' H',Pv n ys σ' H'->J.stop n H'/\Q (.ref l) H'
section
variable {K:A_} {σ:St} {H:Hp} {Q:VK} {te:TE} {cap:List (Option Nat)} {l:ς}
theorem CY {wi:TI} {g:TG} {tt:TT} (h:wi σ H fun J H1=>∀ l,H1 l=none->jD J g tt te cap l σ H1 Q):xU wi g tt te cap σ H Q:=h
theorem pX {α β:Type} (F:α->β) (xs:List α) (i:Nat) {x:α} (h:xs[i]?=some x):(xs.take (i+1)).map F=(xs.take i).map F++[F x]:=by
 rw [Jx,h,HN];rfl
theorem gN {a:ς} {xs:List V} (F:V->V) (hs:SqL K H a xs) (hz:xs.length<=1000) (hl:H l=none)
  (step:∀ x o H' (Q':VK),x∈xs->ai H H'->(∀ H5,ai H' H5->Q' (F x) H5)->te (((gh (none::cap) σ).set 0 o).set 0 (some x)) H' Q')
  (fin:∀ H',ai H H'->H' l=some (.lst (xs.map F))->Q (.ref l) H'):jD (Itl K a) (eB 0) jI te (none::cap) l σ H Q:=by
 refine ⟨xs.length,fun i ys σ' H'=>ys=(xs.take i).map F/\(∃ o,σ'=(gh (none::cap) σ).set 0 o)/\ai H H'/\H' l=some (.lst ys),⟨rfl,⟨none,rfl⟩,ai.new hl,af⟩,?_,?_⟩
 ·rintro i ys σ' H' hi ⟨rfl,⟨o,rfl⟩,s,e⟩;refine ⟨⟨xs,xs[i],s.seq hs,by simp [hi]⟩,fun x H2 y=>?_⟩;obtain ⟨e2,y⟩:=y;subst e2;have hx:=y xs (s.seq hs);refine dO (fk (pe ?_));refine step x o H2 _ (H_ hx) s fun H5 s5=>⟨s5 _ _ e,?_,?_⟩
  ·rw [ξ,Hw];exact aQ (by omega)
  ·exact ⟨(pX F xs i hx).symm,⟨_,J6 ..⟩,(s.trans s5).later hl,af⟩
 ·rintro ys σ' H' ⟨rfl,_,s,e⟩;rw [Hr (Ω _)] at e;exact ⟨⟨xs,s.seq hs,Ω _⟩,fin H' s e⟩
theorem uh {n:Nat} (F:Nat->V) (hz:n<=1000) (hl:H l=none)
  (step:∀ i o H' (Q':VK),i<n->ai H H'->(∀ H5,ai H' H5->Q' (F i) H5)->te (((gh (none::cap) σ).set 0 o).set 0 (some (.int ((0:Int)+(i:Nat))))) H' Q')
  (fin:∀ H',ai H H'->H' l=some (.lst ((Io n).map F))->Q (.ref l) H'):jD (Itr 0 n) (eB 0) jI te (none::cap) l σ H Q:=by
 refine ⟨n,fun i ys σ' H'=>ys=(Io i).map F/\(∃ o,σ'=(gh (none::cap) σ).set 0 o)/\ai H H'/\H' l=some (.lst ys),⟨rfl,⟨none,rfl⟩,ai.new hl,af⟩,?_,?_⟩
 ·rintro i ys σ' H' hi ⟨rfl,⟨o,rfl⟩,s,e⟩;refine ⟨hi,fun x H2 y=>?_⟩;obtain ⟨e2,rfl⟩:=y;subst e2;refine dO (fk (pe ?_));refine step i o H2 _ hi s fun H5 s5=>⟨s5 _ _ e,?_,?_⟩
  ·rw [ξ,KU];exact aQ (by omega)
  ·refine ⟨?_,⟨_,J6 ..⟩,(s.trans s5).later hl,af⟩;rw [Lv,HN];rfl
 ·rintro ys σ' H' ⟨rfl,_,s,e⟩;exact ⟨Ω _,fin H' s e⟩
def DZ (K:A_) (f:Str) (y x:V) (H2:Hp) (k:Hp->Prop):Prop:=∃ a C dx fs,x=.ref a/\H2 a=some (.ins C dx fs)/\Cls K C/\de K C f/\fs.length<1000/\k (upd H2 a (.ins C dx (cU f y fs)))
theorem Dn {D:dn} {ta tv:TE} {f:Str} (h:tv σ H fun y H1=>ta σ H1 fun x H2=>DZ K f y x H2 fun H3=>D.nx σ H3):GD K ta tv f D σ H:=h
theorem c7 {f:Str} {y:V} {k:Hp->Prop} {a C dx:ς} {fs:List (Str×V)} (h:H a=some (.ins C dx fs)) (c:Cls K C) (n:de K C f) (z:fs.length<1000) (q:k (upd H a (.ins C dx (cU f y fs)))):DZ K f y (.ref a) H k:=⟨a,C,dx,fs,rfl,h,c,n,z,q⟩
def Ei (c:TT) (tb:TS) (D:dn) (σ:St) (H:Hp):Prop:=∃ W:Nat->St->Hp->Prop,(∃ m,W m σ H)/\∀ m σ H,W m σ H ->
 c σ H fun b H1=>if b=true then ∃ N:St->Hp->Prop,(∀ σ' H',N σ' H'->∃ m',m'<m/\W m' σ' H')/\tb { D with nx:=N,ct:=N,bk:=D.nx } σ H1 else D.nx σ H1
theorem Be {D:dn} {c:TT} {tb:TS} (h:Ei c tb D σ H):BY c tb D σ H:=h
theorem gZ {n:Nat} {tt:TGs} {a:ς} {xs:List V} {QS:St->Hp->Prop} (h:H a=some (.tup xs)) (hl:xs.length=n) (q:tt xs σ H QS):Ac K n tt (.ref a) σ H QS:=⟨a,xs,rfl,SqT.of h,hl,q⟩
theorem iM {tg:TG} {u:TGs} {v:V} {r:List V} {QS:St->Hp->Prop} (h:tg v σ H fun σ' H'=>u r σ' H' QS):qf tg u (v::r) σ H QS:=⟨v,r,rfl,h⟩
theorem rP {QS:St->Hp->Prop} (h:QS σ H):Cq [] σ H QS:=⟨rfl,h⟩
theorem Dm {a:ς} {xs:List V} {k:Int} {j:Nat} {v:V} {QH:Hp->Prop} (h:H a=some (.lst xs)) (e:ixN xs.length k=some j) (q:QH (upd H a (.lst (xs.set j v)))):D0 (.ref a) (.int k) v H QH:=⟨a,xs,k,j,rfl,rfl,h,e,q⟩
theorem C7 {to ti:TE} {ts:zD} {v:V} {QS:St->Hp->Prop} (h:to σ H fun o H1=>ti σ H1 fun i H2=>ts o i v H2 fun H3=>QS σ H3):F0 to ti ts v σ H QS:=h
end
section
variable {X:Cx} (K:A_) (h:X.K=K)
include h
theorem aG:IxR X (CP K):=h ▸ Cu
theorem au:IxR X (EZ K):=h ▸ Eu
theorem bU:b9 X (.builtin "isinstance") (EX K):=h ▸ yb
theorem bJ:b9 X (.builtin "len") (CQ K):=h ▸ Em
theorem gL (hc:X.calm=true):b9 X (.builtin "all") (EU K):=h ▸ El hc
theorem mx (hc:X.calm=true):b9 X (.builtin "sum") (CT K):=h ▸ En hc
theorem fA:b9 X (.type "list") (xG K):=h ▸ Cf
theorem qb:b9 X (.type "tuple") (wk K):=h ▸ zH
theorem bE:SlR X (CS K):=h ▸ Dy
theorem xS:SlR X (AR K):=h ▸ DA
theorem cq {e:II} {ta:TE} {f:Str} {pos:J8} (he:PE X e ta) (hb:Kz e f X.env (Ip e X.env)=Ip e X.env):PE X (.Attribute e f pos) (Fy K ta f):=h ▸ EI he hb
end
theorem dq {zs:List Int} {k:Nat}:cg (zs.map V.int) (some (k:Int)) none=(zs.drop k).map V.int:=by
 unfold cg;rw [HT.kQ,HT.mL,ξ];rcases Mx k zs.length with h | h
 ·rw [Kx h,<- MS,Hr (by rw [ξ,IG]; omega)]
 ·rw [Ll h,OA h,Mw,ME]; rfl
theorem getD_mem {α:Type} {zs:List α} {k:Nat} {d:α} (h:k<zs.length):zs.getD k d∈zs:=by
 rw [Hl,E_ h];exact Iq h
theorem ju {X:Cx} (K:A_) (hK:X.K=K) {es:List II} {k:Nat} {t:TGs} {n:Nat} {pos:J8} (hc:X.calm=true) (h:PGs X es t)
  (hn:(Kv es X.env).length=n:=by rfl) (hst:(Kv es X.env).findIdx? (·.1)=none:=by rfl):PG X (.Tuple es k pos) (Ac K n t):=hK ▸ EM hc h hn hst
theorem qy {H:Hp}:∀ (ns:List Int),RepL H (ns.map J0) (ns.map V.int)
 | []=>by simp only [Mp,RepL]
 | n::r=>by
  simp only [Ho,RepL,Rep];exact ⟨_,_,rfl,rfl,qy r⟩
theorem kO {H:Hp} {a:ς} {ns:List Int} (h:H a=some (.lst (ns.map V.int))):Rep H (.list (ns.map J0)) (.ref a):=by
 simp only [Rep];exact ⟨a,_,rfl,h,qy ns⟩
theorem uv:∀ ns ms:List Int,LH (ns.map J0) (ms.map J0)=decide (ns=ms)
 | [],[]=>by simp [LH]
 | [],_::_=>by simp [LH]
 | _::_,[]=>by simp [LH]
 | a::r,b::u=>by
  simp only [Ho,LH,JS,uv r u];by_cases h:a=b<;>by_cases h':r=u<;>simp [h,h']
theorem yX {H:Hp} {Q:VK} {a b:ς} {ns ms:List Int} (ha:H a=some (.lst (ns.map V.int))) (hb:H b=some (.lst (ms.map V.int))) (q:Q (.bl (!decide (ns=ms))) H):CO true (.ref a) (.ref b) H Q :=
 ⟨_,_,kO ha,kO hb,W.ke_shaped_ints _,W.ke_shaped_ints _,by
  have e:JS (.list (ns.map J0)) (.list (ms.map J0))=decide (ns=ms):=by simp only [JS]; exact uv ns ms
  rw [e]; exact q⟩
theorem iP {H:Hp}:∀ {ds:List JB} {xs:List V},RepL H ds xs->ds.length=xs.length/\∀ (i:Nat) x,xs[i]?=some x->∃ d,ds[i]?=some d/\Rep H d x
 | [],xs,h=>by simp only [RepL] at h; subst h; exact ⟨rfl,fun i x e=>by simp at e⟩
 | d::ds,xs,h=>by
  simp only [RepL] at h;obtain ⟨x,r,rfl,h1,h2⟩:=h;obtain ⟨l,g⟩:=iP h2;refine ⟨by simp [l],fun i y e=>?_⟩
  cases i with
  | zero => simp at e; subst e; exact ⟨d, rfl, h1⟩
  | succ i => exact g i y (by simpa using e)
theorem yh {K:A_} {σ:St} {H:Hp} {Q:VK} {te:TE} {l a b:ς} {xs ys:List V} (F:Nat->V) (hx:H a=some (.lst xs)) (hy:H b=some (.lst ys)) (he:xs.length=ys.length) (hz:xs.length<=1000) (hl:H l=none)
  (step:∀ (i:Nat) x y H' (Q':VK),xs[i]?=some x->ys[i]?=some y->ai H H'->(∀ H5,ai H' H5->Q' (F i) H5)->te [some x,some y] H' Q')
  (fin:∀ H',ai H H'->H' l=some (.lst ((Io xs.length).map F))->Q (.ref l) H'):jD (Itz K a b) (Ac K 2 (qf (eB 0) (qf (eB 1) Cq))) jI te [none,none] l σ H Q:=by
 refine ⟨xs.length,fun i zs σ' H'=>zs=(Io i).map F/\(∃ o o',σ'=[o,o'])/\ai H H'/\H' l=some (.lst zs),⟨rfl,⟨none,none,rfl⟩,ai.new hl,af⟩,?_,?_⟩
 ·rintro i zs σ' H' hi ⟨rfl,⟨o,o',rfl⟩,s,e⟩;refine ⟨⟨xs,ys,xs[i],ys[i]'(by omega),SqL.of (s _ _ hx),SqL.of (s _ _ hy),by simp [hi],by simp⟩,fun v H2 z=>?_⟩;obtain ⟨T,rfl,hT,z⟩:=z;obtain ⟨x,y,ex,ey,rfl⟩:=z xs ys (SqL.of (s _ _ hx)) (SqL.of (s _ _ hy));have sT:=ai.new (o:=HO.tup [x,y]) hT;refine gZ af rfl (iM (dO (iM (dO (rP (fk (pe ?_)))))));refine step i x y _ _ ex ey (s.trans sT) fun H5 s5=>⟨s5 _ _ (sT _ _ e),?_,?_⟩
  ·rw [ξ,KU];exact aQ (by omega)
  ·refine ⟨?_,⟨_,_,rfl⟩,((s.trans sT).trans s5).later hl,af⟩;rw [Lv,HN];rfl
 ·rintro zs σ' H' ⟨rfl,_,s,e⟩;exact ⟨⟨xs,ys,SqL.of (s _ _ hx),SqL.of (s _ _ hy),.inl (Ω _)⟩,fin H' s e⟩
end L2
set_option maxHeartbeats 4000000
namespace L2
open PySem
inductive DS {α:Type}:LL α->Prop
 | pure (a:α):DS (.pure a)
 | raise (e:η):DS (.raise e)
 | unsup (w:String):DS (.unsupported w)
 | fin (e:Ending):DS (.finish e)
 | rule {t:String} {k:Unit->LL α}:DS (k ())->DS (.rule t k)
 | here {p:J8} {k:Unit->LL α}:DS (k ())->DS (.at p k)
 | load {a:ς} {p:Option η} {k:Iz->LL α}:(∀ o,DS (k o))->DS (.load a p k)
 | upd {a:ς} {p:Option η} {f:Iz->Iz} {k:Unit->LL α}:(∀ o,(f o).dict=o.dict/\(f o).isFreed=o.isFreed)->DS (k ())->DS (.update a p f k)
 | alloc {o:Iz} {k:ς->LL α}:(∀ n,DS (k n))->DS (.alloc o k)
 | point {l:List η} {k:Unit->LL α}:DS (k ())->DS (.point l k)
 | fresh {k:Om->LL α}:(∀ n,DS (k n))->DS (.fresh k)
 | ask {k:Setting->LL α}:(∀ n,DS (k n))->DS (.ask k)
 | stack {k:List (Code×J8)->LL α}:(∀ n,DS (k n))->DS (.stack k)
theorem DS.andThen {α β:Type} {m:LL α} {f:α->LL β} (h:DS m) (g:∀ a,DS (f a)):DS (m >>= f):=by
 show DS (Ia m f)
 induction h with
 | pure a=>rw [Ia]; exact g a
 | raise e=>rw [Ia]; exact .raise e
 | unsup w=>rw [Ia]; exact .unsup w
 | fin e=>rw [Ia]; exact .fin e
 | rule _ ih=>rw [Ia]; exact .rule ih
 | here _ ih=>rw [Ia]; exact .here ih
 | load _ ih=>rw [Ia]; exact .load ih
 | upd z _ ih=>rw [Ia]; exact .upd z ih
 | alloc _ ih=>rw [Ia]; exact .alloc ih
 | point _ ih=>rw [Ia]; exact .point ih
 | fresh _ ih=>rw [Ia]; exact .fresh ih
 | ask _ ih=>rw [Ia]; exact .ask ih
 | stack _ ih=>rw [Ia]; exact .stack ih
def qF (e:ς) (dx:Option ς) (h:IC):Prop:=∃ o,h.get? e=some o/\o.dict=dx
theorem qF.upd {e a:ς} {dx:Option ς} {h:IC} {f:Iz->Iz} (x:qF e dx h) (z:∀ o,(f o).dict=o.dict/\(f o).isFreed=o.isFreed):qF e dx (h.update a f):=by
 obtain ⟨o,h1,h2⟩:=x;by_cases q:a=e
 ·subst q;have fr:o.isFreed=false:=(MX.mp h1).2;exact ⟨_,I_ f h1 (by rw [(z o).2]; exact fr),by rw [(z o).1]; exact h2⟩
 ·exact ⟨o,by rw [Ib h f q]; exact h1,h2⟩
theorem DS.run {α:Type} {M:MN} {Γ:Ctx} {m:LL α} {Q:α->J8->χ->Prop} {E:η->J8->χ->Prop} {p:J8} {s:χ} {e:ς} {dx:Option ς} (h:DS m) (w:JN M Γ m Q E p s) (x:qF e dx s.heap) :
  JN M Γ m (fun a p s'=>Q a p s'/\qF e dx s'.heap) (fun v p s'=>E v p s'/\qF e dx s'.heap) p s:=by
 induction h generalizing p s with
 | pure a=>rw [JN] at w ⊢; exact ⟨w,x⟩
 | raise v=>rw [JN] at w ⊢; exact ⟨w,x⟩
 | unsup q=>rw [JN] at w; exact w.elim
 | fin q=>rw [JN] at w; exact w.elim
 | rule _ ih=>rw [JN] at w ⊢; exact ih w x
 | here _ ih=>rw [JN] at w ⊢; exact ih w x
 | load _ ih=>rw [JN] at w ⊢; obtain ⟨o,h1,h2⟩:=w; exact ⟨o,h1,ih o h2 x⟩
 | upd z _ ih=>rw [JN] at w ⊢; exact ⟨w.1,ih w.2 (x.upd z)⟩
 | alloc _ ih=>rw [JN] at w ⊢; exact ih _ w (let ⟨o,h1,h2⟩:=x; ⟨o,Δ _ h1,h2⟩)
 | point _ ih=>rw [JN] at w ⊢; exact ih w x
 | fresh _ ih=>rw [JN] at w ⊢; exact ih _ w x
 | ask _ ih=>rw [JN] at w ⊢; exact ih _ w x
 | stack _ ih=>rw [JN] at w ⊢; exact ih _ w x
theorem DS.any {α:Type} {M:MN} {A:IA} {m:LL α} {Q:α->χ->Prop} {E:η->χ->Prop} {s:χ} {e:ς} {dx:Option ς} (h:DS m) (w:BG M A m Q E s) (x:qF e dx s.heap) :
  BG M A m (fun a s'=>Q a s'/\qF e dx s'.heap) E s:=fun Γ p hΓ =>
 Sem.wp_mono M Γ m (fun _ _ _ z=>z) (fun _ _ _ z=>z.1) p s (h.run (w Γ p hΓ) x)
theorem iz {α:Type} {c:Prop} [Decidable c] {a b:LL α} (h1:DS a) (h2:DS b):DS (if c then a else b):=by split<;>assumption
theorem kx (v:η) (i:Nat):DS (M5 v i):=by
 unfold M5 fieldsOf;refine DS.andThen ?_ fun vs=>?_
 ·cases v with
  | ref a =>
   refine DS.andThen (.load fun o=>.pure o) fun o=>?_
   cases o.data<;>first | exact .pure _ | exact .unsup _
  | _ => exact .unsup _
 ·cases vs[i]?<;>first | exact .pure _ | exact .unsup _
theorem qV (f:Array η->Array η) (o:Iz):(IZ f o).dict=o.dict/\(IZ f o).isFreed=o.isFreed:=by
 obtain ⟨c,d,dt,sl⟩:=o
 cases dt<;>exact ⟨rfl,rfl⟩
theorem iA (v:η) (i:Nat) (x:η):DS (Mb v i x):=by
 unfold Mb
 cases v with
 | ref a =>
  unfold updateField;refine DS.andThen (.load fun o=>.pure o) fun o=>?_
  cases o.data with
  | fields vs => exact iz (.upd (qV _) (.pure ())) (.unsup _)
  | _ => exact .unsup _
 | _=>exact .unsup _
theorem gP (e:η) (f:Option ς):DS (LO e f):=by
 unfold LO;exact DS.andThen (kx _ _) fun tb=>iz (iA _ _ _) (.pure _)
theorem Ck (env:LU) (b:Bool) (l:List LU):DS (NP env b l):=by
 cases l with
 | nil =>
  unfold NP underTheClaimsCaller;refine iz (.pure _) (DS.andThen (DS.andThen (.stack fun n=>.pure n) fun _=>.pure _) fun q=>.pure _)
 | cons c r=>unfold NP; exact .pure _
theorem ym (env:LU) (l:List LU):DS (Me env l):=by
 unfold Me;exact iz (.pure _) (iz (.pure _) (DS.andThen (kx _ _) fun _=>.pure _))
theorem ur:∀ l:List LU,DS (Ln l)
 | []=>by unfold Ln; exact .pure _
 | env::r=>by
  unfold Ln
  cases env.frame with
  | none => exact .unsup _
  | some f =>
   refine DS.andThen (.load fun o=>.pure o) fun o=>iz (.pure _) ?_;refine DS.andThen (ym _ _) fun b=>DS.andThen (Ck _ _ _) fun v=>DS.andThen (.upd (fun o=>⟨rfl,by obtain ⟨c,d,dt,sl⟩:=o; cases dt<;>rfl⟩) (.pure ())) fun _=>ur r
theorem vP (env:LU):DS (frameOf env):=by
 unfold frameOf frameEnvs;refine DS.andThen (DS.andThen (.stack fun n=>.pure n) fun _=>.pure _) fun l=>DS.andThen ?_ fun o=>?_
 ·generalize l.dropWhile _=l'
  cases l' with
  | nil => unfold Nt; exact .pure _
  | cons c r => unfold Nt; exact DS.andThen (ur _) fun _ => .pure _
 ·cases o with
  | none => exact .unsup _
  | some f => exact .pure _
theorem zY (f:ς) (b:Bool):DS (LK f b):=by
 unfold LK;refine DS.andThen (.stack fun n=>.pure n) fun l=>?_
 cases l.find? _ with
 | none=>exact .pure _
 | some q=>exact .pure _
theorem uq (a b c d e:η) (l:List η):DS (Jg a b c d e l):=by
 unfold Jg newFields newObj newObjAsIs;generalize ([a,b,c,d,e]++if l.isEmpty then Nd 6 Il else l)=vs;dsimp only
 split
 ·exact DS.andThen (.unsup _) fun _=>DS.andThen (.alloc fun n=>.pure n) fun _=>.pure _
 ·exact DS.andThen (.alloc fun n=>.pure n) fun _=>.pure _
theorem ky (e:η) (env:LU):DS (L8 e env):=by
  unfold L8
  cases env.frame with
  | none => exact .unsup _
  | some f =>
    refine DS.andThen (kx _ _) fun hd=>?_;have tail:DS (do
        let a <- frameOf env
        let pl <- LK f (hd != .none)
        let b <- Jg hd a .none (Kh f) .none pl
        Mb e 1 b):=DS.andThen (vP _) fun _=>DS.andThen (zY _ _) fun _=>DS.andThen (uq _ _ _ _ _ _) fun _=>iA _ _ _
    refine iz ?_ tail;refine DS.andThen (kx _ _) fun x=>iz (.pure _) (DS.andThen (iA _ _ _) fun _=>tail)
theorem mY (env:LU) (e:η):DS (NO env e):=by
 unfold NO;exact DS.andThen (ky _ _) fun _=>gP _ _
end L2
namespace L2
open PySem PySem.Spec PyProof.Rows
structure Exc (g h:IC) (H:Hp) (e C:ς) (xo:Option ς):Prop where
 tr:h.Traced g e (.ref C)
 ne:g.get? e=none
 he:H e=none
 hT:∀ oe vs T,h.get? e=some oe->oe.data=.fields vs->vs[1]?=some (.ref T)->H T=none
 dc:∀ dx,xo=some dx->qF e (some dx) h
noncomputable def CX1 (P:HS) (w:ID):CXT:=fun outer H s E x s'=>∃ (e C:ς) (xo:Option ς) (H':Hp),x=.ref e/\s'.os=s.os/\LN s'.gens/\Un (frs outer) [] H H' s.heap s'.heap/\HOk P w H' s'.heap/\Exc s.heap s'.heap H' e C xo/\E (.ref C) xo H'
section
variable {X:Cx} {pins:List (ς×Iz)} {σ:St} {H:Hp} {s:χ}
theorem Inv.left {h':IC} {es:List ς} (I:Inv X pins σ H s) (hs:X.stack=X.env::X.outer) (he:∀ b∈es,H b=none/\X.s₀.heap.get? b=none)
  (keep:∀ b o,s.heap.get? b=some o->b∉frs X.stack->b∉es->h'.get? b=some o) (slot:∀ b o,s.heap.get? b=some o->b∈frs X.stack->∃ sl,h'.get? b=some { o with slots:=sl }):Un X.fs X.ex X.H₀ H X.s₀.heap h'/\HOk X.prog X.w H h':=by
 have Nk:∀ b∈X.fs,b∈frs X.stack:=fun b hb=>by
  rw [hs]; unfold frs; rw [KA]
  cases X.env.frame with
  | none => exact hb
  | some f => exact Au _ hb
 have nfr:∀ b u,H b=some u->b∉frs X.stack:=fun b u e z=>by rw [I.stkFree b z] at e; cases e
 have nes:∀ b u,H b=some u->b∉es:=fun b u e z=>by rw [(he b z).1] at e; cases e
 have neL:∀ b o,X.s₀.heap.get? b=some o->b∉X.fs->b∉frs X.stack:=fun b o e hb z=>by
  rcases Ξ.mp (I.stkSub b z) with q | q
  ·exact absurd (Ht (BE e) (q ▸ I.ok.above)) (KJ _)
  ·exact hb q
 have ne0:∀ b o,X.s₀.heap.get? b=some o->b∉es:=fun b o e z=>by rw [(he b z).2] at e; cases e
 refine ⟨⟨fun b o e n hb hx=>keep b o (I.base.keep b o e n hb hx) (neL b o e hb) (ne0 b o e),fun b o e n hb hx=>?_,I.base.free,fun b o e hx=>?_,I.base.tups,I.base.frzs,I.base.tbls⟩,fun b u e=>?_⟩
 ·obtain ⟨sl,e1⟩:=I.base.slot b o e n hb hx;obtain ⟨sl',e2⟩:=slot b _ e1 (Nk b hb);exact ⟨sl',e2⟩
 ·obtain ⟨o',e1⟩:=I.base.there b o e hx;by_cases hf:b∈frs X.stack
  ·obtain ⟨sl,e2⟩:=slot b o' e1 hf;exact ⟨_,e2⟩
  ·exact ⟨o',keep b o' e1 hf (ne0 b o e)⟩
 ·refine (I.hok b u e).stay (fun c v hc q=>?_) (fun _ q=>q) fun _ _ q=>q;rcases hc with z | z
  ·rw [z] at q ⊢; exact keep b v q (nfr b u e) (nes b u e)
  ·exact keep c v q (nfr c _ z) (nes c _ z)
end
theorem bP.get {P:HS} {w:ID} {H:Hp} {h:IC} {a:ς} {o:HO} (x:bP P w H h a o):∃ ob,h.get? a=some ob:=by
 cases o with
 | lst xs=>obtain ⟨_,_,_,_,e⟩:=x; exact ⟨_,e⟩
 | tup xs=>obtain ⟨_,_,_,p⟩:=x; obtain ⟨o,e,_⟩:=p; exact ⟨_,e⟩
 | dK kvs=>obtain ⟨_,_,_,_,o,_,_,e,_⟩:=x; exact ⟨_,e⟩
 | dT kvs=>obtain ⟨_,_,_,_,o,_,_,e,_⟩:=x; exact ⟨_,e⟩
 | set S n=>obtain ⟨o,_,_,_,e,_⟩:=x; exact ⟨_,e⟩
 | ins C dx fs=>obtain ⟨_,_,_,e,_⟩:=x; exact ⟨_,e⟩
 | own y=>obtain ⟨_,e⟩:=x; exact ⟨_,e⟩
 | xd fs=>obtain ⟨_,⟨_,_,_,e,_⟩,_⟩:=x; exact ⟨_,e⟩
 | rng lo hi=>obtain ⟨_,_,_,e⟩:=x; exact ⟨_,e⟩
 | frz ob u=>obtain ⟨e,_⟩:=x; exact ⟨_,e⟩
 | tbl ps=>exact ⟨_,(show h.get? a=some _ from x)⟩
 | met f y=>exact ⟨_,(show h.get? a=some _ from x)⟩
 | ext φ=>obtain ⟨_,⟨_,e⟩,_⟩:=x; exact ⟨_,e⟩
theorem HOk.none_of {P:HS} {w:ID} {H:Hp} {h:IC} {a:ς} (k:HOk P w H h) (e:h.get? a=none):H a=none:=by
 cases q:H a with
 | none=>rfl
 | some o=>obtain ⟨_,z⟩:=(k a o q).get; rw [e] at z; cases z
section
variable {P:HS} {w:ID} {K:A_} {mg:Str->Option η} {base:IC} {N:List Str} {qual:Str} {scope:LG} {f:ς} {cd:η} {A:IA} {outer:List LU} {s₀:χ} {H₀:Hp} {E:XK} {pins:List (ς×Iz)} {σ:St} {H:Hp} {s:χ}
theorem eT {l:List LU} {as:List ς} (h:∀ b∈frs l,b∈as):∀ env∈l,∀ a,env.frame=some a->a∈as:=fun env he a ha=>h a (K7.mpr ⟨env,he,ha⟩)
theorem x6 {e C:ς} {xo:Option ς} {oe:Iz} {vs:Array η} (I1:Inv (cE (CX1 P w) P w K mg base N qual scope f cd A outer s₀ H₀ E) pins σ H s) (he:s.heap.get? e=some oe) (hcl:oe.cls=.ref C) (hda:oe.data=.fields vs) (h1:vs[1]?=some .none)
  (hs0:s₀.heap.get? e=none) (hHe:H e=none) (dc:∀ dx,xo=some dx->oe.dict=some dx) (q:E (.ref C) xo H):(cE (CX1 P w) P w K mg base N qual scope f cd A outer s₀ H₀ E).xe (.ref e) s:=by
 have ff:=I1.stack;have hl:=Jb (as:=e::frs (cE (CX1 P w) P w K mg base N qual scope f cd A outer s₀ H₀ E).stack) ff (eT fun b hb=>Au _ hb);have fin:=wpAny_leaving_first (M:=B_ P w) (E:=fun v s'=>CX1 P w outer H₀ s₀ E v s') (base:=Im s.heap (e::frs (cE (CX1 P w) P w K mg base N qual scope f cd A outer s₀ H₀ E).stack)) (L:=s₀.heap.objs.size) (e:=e) (s:=s) (Q:=fun _ s'=>∃ h2,s'={ s with heap:=h2 }/\N8 (Im s.heap (e::frs (cE (CX1 P w) P w K mg base N qual scope f cd A outer s₀ H₀ E).stack)) (KL qual scope s₀.heap.objs.size f cd::outer) e oe.cls s.heap h2) I1.ok.frames hl rfl he (fun b o z=>Jr _ z) (IY _ Θ) hda h1 fun h2 lf=>⟨h2,rfl,lf⟩
 refine Hq (DS.any (mY _ _) fin ⟨oe,he,rfl⟩) (fun _ s' ⟨⟨h2,e2,lf⟩,hd2⟩=>?_) fun _ _ z=>z;subst e2;obtain ⟨st,ff2,tr,up⟩:=lf;have lf:=I1.left (h':=h2) (es:=[e]) rfl (fun b hb=>by rw [HL.mp hb]; exact ⟨hHe,hs0⟩) (fun b o z nf ne=>st b o (Ii _ z (by intro m; rcases Ξ.mp m with r | r; exact ne (by simp [r]); exact nf r)))
  (fun b o z hb=>by
   obtain ⟨_,o',z',hd⟩:=ff.mem hb;rw [z] at z'; cases z';exact up b o z hd)
 obtain ⟨oe',ws,T,oT,ts,g1,g2,g3,g4,g5,g6,g7,g8,g9⟩:=tr;have nT:T∉frs (cE (CX1 P w) P w K mg base N qual scope f cd A outer s₀ H₀ E).stack:=fun z=>by
  obtain ⟨_,o,zo,hd⟩:=ff2.mem z;rw [g7] at zo; cases zo;exact hd ts g8
 have key:∀ o,s.heap.get? T=some o->False:=fun o z=>by
  rw [Ii _ z (by intro m; rcases Ξ.mp m with r | r; exact g6 r; exact nT r)] at g5
  cases g5
 have hT0:s₀.heap.get? T=none:=by
  cases z:s₀.heap.get? T with
  | none => rfl
  | some o => obtain ⟨o', z'⟩ := I1.base.there T o z (by intro q; cases q); exact (key o' z').elim
 have hHT:H T=none:=by
  cases z:H T with
  | none => rfl
  | some o => obtain ⟨o', z'⟩ := (I1.hok T o z).get; exact (key o' z').elim
 refine ⟨e,C,xo,H,rfl,I1.os,I1.bare,lf.1,lf.2,⟨⟨oe',ws,T,oT,ts,g1,g2.trans hcl,g3,g4,hT0,g6,g7,g8,g9⟩,hs0,hHe,fun oe2 vs' T' z1 z2 z3=>?_,fun dx z=>by rw [dc dx z] at hd2; exact hd2⟩,q⟩;rw [g1] at z1; cases z1;rw [g3] at z2; cases z2;rw [g4] at z3; cases z3;exact hHT
theorem gu {h':IC} {t':Nat} {e C:ς} {vs:List η} (I:Inv (cE (CX1 P w) P w K mg base N qual scope f cd A outer s₀ H₀ E) pins σ H s) (hx:K9 s.heap h' e (.ref C) vs) (q:E (.ref C) none H) :
  (cE (CX1 P w) P w K mg base N qual scope f cd A outer s₀ H₀ E).xe (.ref e) { s with heap:=h',toks:=t' }:=by
 have I1:=I.kept (t':=t') hx.keeps;obtain ⟨t,he,ht,_⟩:=hx.there
 have hs0:s₀.heap.get? e=none:=by
  cases z:s₀.heap.get? e with
  | none => rfl
  | some o => obtain ⟨o', z'⟩ := I.base.there e o z (by intro q; cases q); rw [hx.new] at z'; cases z'
 exact x6 I1 he rfl rfl rfl hs0 (I.hok.none_of hx.new) (fun _ z=>by cases z) q
theorem aP:fx (CX1 P w) (cE (CX1 P w) P w K mg base N qual scope f cd A outer s₀ H₀ E) E:=by
  intro pins σ H s x s' I h;obtain ⟨e,C,xo,H',rfl,os,bare,un,hok,ex,q⟩:=h;have J:=I.call' (s':=s') (ch:=[]) os un hok bare (fun b hb=>by cases hb);obtain ⟨⟨oe,ws,T,oT,ts,g1,g2,g3,g4,g5,g6,g7,g8,g9⟩,ne,hHe,hHT,dc⟩:=ex;have hHT:=hHT oe ws T g1 g3 g4;have s0:∀ {b:ς},s.heap.get? b=none->s₀.heap.get? b=none:=fun {b} hb=>by
    cases z:s₀.heap.get? b with
    | none=>rfl
    | some o=>obtain ⟨o',z'⟩:=I.base.there b o z (by intro q; cases q); rw [hb] at z'; cases z'
  have ff:=J.stack;have hl:=Jb (as:=e::T::frs (cE (CX1 P w) P w K mg base N qual scope f cd A outer s₀ H₀ E).stack) ff (eT fun b hb=>Au _ (Au _ hb));have fin:=wpAny_leaving_next (M:=B_ P w) (E:=fun v s'=>CX1 P w outer H₀ s₀ E v s') (base:=Im s'.heap (e::T::frs (cE (CX1 P w) P w K mg base N qual scope f cd A outer s₀ H₀ E).stack)) (L:=s₀.heap.objs.size) (e:=e) (s:=s') (Q:=fun _ s2=>∃ h2,s2={ s' with heap:=h2 }/\N8 (Im s'.heap (e::T::frs (cE (CX1 P w) P w K mg base N qual scope f cd A outer s₀ H₀ E).stack)) (KL qual scope s₀.heap.objs.size f cd::outer) e (.ref C) s'.heap h2) J.ok.frames hl rfl
    ⟨oe,ws,T,oT,ts,g1,g2,g3,g4,IY _ (Au _ Θ),g6,g7,g8,g9⟩ (fun b o z=>Jr _ z) (IY _ Θ) fun h2 lf=>⟨h2,rfl,lf⟩
  refine Hq (DS.any (mY _ _) fin ⟨oe,g1,rfl⟩) (fun _ s2 ⟨⟨h2,e2,lf⟩,hd2⟩=>?_) fun _ _ z=>z;subst e2;obtain ⟨st,ff2,tr,up⟩:=lf;have lf:=J.left (h':=h2) (es:=[e,T]) rfl (fun b hb=>by
      simp only [Ξ,HJ,or_false] at hb;rcases hb with rfl | rfl
      · exact ⟨hHe,s0 ne⟩
      · exact ⟨hHT,s0 g5⟩) (fun b o z nf ne=>st b o (Ii _ z (by
        intro m;rcases Ξ.mp m with r | m
        · exact ne (by simp [r])
        · rcases Ξ.mp m with r | r
          · exact ne (by simp [r])
          · exact nf r)))
      (fun b o z hb=>by
        obtain ⟨_,o',z',hd⟩:=ff.mem hb;rw [z] at z'; cases z';exact up b o z hd)
  obtain ⟨oe2,ws2,T2,oT2,ts2,k1,k2,k3,k4,k5,k6,k7,k8,k9⟩:=tr;have nT:T2∉frs (cE (CX1 P w) P w K mg base N qual scope f cd A outer s₀ H₀ E).stack:=fun z=>by
    obtain ⟨_,o,zo,hd⟩:=ff2.mem z;rw [k7] at zo; cases zo;exact hd ts2 k8
  have hT0:s₀.heap.get? T2=none/\H' T2=none:=by
    by_cases r:T2=T
    · subst r; exact ⟨s0 g5,hHT⟩
    · have key:∀ o,s'.heap.get? T2=some o->False:=fun o z=>by
        rw [Ii _ z (by
          intro m;rcases Ξ.mp m with q | m
          · exact k6 q
          · rcases Ξ.mp m with q | q
            · exact r q
            · exact nT q)] at k5
        cases k5
      constructor
      · cases z:s₀.heap.get? T2 with
        | none=>rfl
        | some o=>obtain ⟨o',z'⟩:=J.base.there T2 o z (by intro q; cases q); exact (key o' z').elim
      · cases z:H' T2 with
        | none=>rfl
        | some o=>obtain ⟨o',z'⟩:=(J.hok T2 o z).get; exact (key o' z').elim
  refine ⟨e,C,xo,H',rfl,J.os,J.bare,lf.1,lf.2,⟨⟨oe2,ws2,T2,oT2,ts2,k1,k2,k3,k4,hT0.1,k6,k7,k8,k9⟩,s0 ne,hHe,fun oe' vs' T' z1 z2 z3=>?_,fun dx z=>by
      obtain ⟨o,y1,y2⟩:=dc dx z;rw [g1] at y1; cases y1;rw [y2] at hd2; exact hd2⟩,q⟩
  rw [k1] at z1; cases z1;rw [k3] at z2; cases z2;rw [k4] at z3; cases z3;exact hT0.2
end
def wU (C:ς) (E:XK) (t:TA):TS:=fun _ σ H=>t σ H fun vs H1=>vs.length<=BC/\E (.ref C) none H1
theorem AL {X:Cx} {E:XK} {x:Str} {C:ς} {B newId initId:String} {bm:List η} {np cpos pos:J8} {e:II} {es:List II} {t:TA} (O:OwnCls x C bm newId X.mg X.base) (FB:LM B newId initId bm) (hc:X.calm=true) (hg:Gl X x)
  (hx:∀ (pins:List (ς×Iz)) (σ:St) (H:Hp) (s:χ) (h':IC) (t':Nat) (e:ς) (vs:List η),Inv X pins σ H s->K9 s.heap h' e (.ref C) vs->E (.ref C) none H->X.xe (.ref e) { s with heap:=h',toks:=t' })
  (ha:PA X (e::es) t) (hd:(x==("__debug__":Str))=false:=by decide) (he:D_ (e::es) X.env=(false,Ip e X.env)::D_ es X.env:=by rfl) (hpl:(JD cpos (D_ es X.env)).any (·.1)=false:=by rfl) :
  PS X (.Raise (some (.Call (.Name x np) (e::es) [] cpos)) none pos) (wU C E t):=by
 intro pins s σ H D I h;obtain ⟨tl,N,nm,q,bs,hdct,sn,Nk,ab,col,dd,k0,k1,k2,k3,k5,mN,hC,hN,hni,T⟩:=O.obj;refine wpAny_Raise_call_subT (C:=C) (nm:=nm) (q:=q) (N:=N) (bs:=bs) (bm:=tl) (hdct:=hdct) (sn:=sn) (sub:=Nk) (ab:=ab) (col:=col) (dd:=dd) (k0:=k0) (k1:=k1) (k2:=k2) (k3:=k3) (k5:=k5)
  FB (mN:=mN) (T.hasType FB.hasBase) (I.ok.hd hc) (by rw [he]; show (false||(JD cpos (D_ es X.env)).any (·.1))=false; rw [hpl]; rfl) hni (dN I hg O.bound ⟨rfl,?_⟩ hd)
 have h1:=ha cpos pins s σ H _ I h;rw [he] at h1 ⊢;refine J2 (Hq h1 (fun us s2 ⟨vs,H2,I2,r2,hl,hE⟩=>⟨rfl,by show us.length<=BC; rw [<- r2.length]; exact hl,I2.bk _ _ hC,hN.keeps I2.bk,T.keeps I2.bk,fun h' a mk=>?_⟩) fun _ _ y=>y);exact hx pins σ H2 s2 h' s2.toks a us I2 mk hE
section
variable {P:HS} {w:ID} {K:A_} {mg:Str->Option η} {base:IC}
theorem Fun.ok1 {x qual:Str} {st:Kf} {f:ς} {fd:IJ} {N ps:List Str} {k:Nat} {sp:Sp} (F:Fun K x qual st f fd) (S:aA N ps (ak st)) (len:∀ vs H Q E,sp vs H Q E->vs.length=ps.length)
  (hbody:∀ (cdv:η) (A:IA) (outer:List LU) (s:χ) (H:Hp) (vs:List V) (Q:VK) (E:XK),cM k (A.deeper (KL qual (ak st) s.heap.objs.size f cdv))->sp vs H Q E ->
   ∃ t,PSs (cE (CX1 P w) P w K mg base N qual (ak st) f cdv A outer s H E) (df st) t/\t { nx:=fun _ H'=>Q .non H',rt:=Q } (gf N vs) H):aR P w K mg base (CX1 P w) (k+1) f fd ps sp:=by
 obtain ⟨oc,od,kV,doc,pm,an,cdv,ct,osl,rfl,lk,hcd⟩:=F.ex;exact z9 lk hcd S len fun A outer s H vs Q E hr hsp=>hbody cdv A outer s H vs Q E hr hsp
theorem aR.up {k:Nat} {f:ς} {fd:IJ} {ps:List Str} {sp:Sp} (F:aR P w K mg base CX0 k f fd ps sp):aR P w K mg base (CX1 P w) k f fd ps sp :=
 ⟨F.len,fun A outer s H args us vs Q E hr e0 hb hv hs=>JM (F.run A outer s H args us vs Q E hr e0 hb hv hs) fun r s' h=>by
  cases r with
  | error e => exact Hz h
  | ok fl => cases fl <;> exact h⟩
end
end L2
namespace L2
open PySem PySem.Spec PyProof.Rows PySem.W Builtin Builtin.ObjectAttr Builtin.Getset_descriptor
section
variable {prog:HS} {w:ID} {A:IA} {E:η->χ->Prop} {s:χ} {K:A_} {x C:ς} {R:Result->χ->Prop}
theorem Cg {tp:η} (X:K.In s.heap) (LT:OP (B_ prog w) s.heap (M7 (.ref x)) (.ref C)) (hm:mroIn K C (.type "object")=some true)
  (h:R (.ok (.ret (.ref C))) s):KR (B_ prog w) A (.call (.builtin "getset_descriptor.__get__") ⟨[.builtin "object.__class__",.ref x,tp],[]⟩) R s:=by
 have L1:=looks_mroIn (M:=B_ prog w) X hm; obtain ⟨hh,g,dr,t,os⟩:=s;refine K5 KF.slot_gs.plain KF.entry_gs (KF.slot_gs.check _ _ _ _ _ _ _ _ KF.type_class (KF.args_gs _ _ _) ?_); unfold Mq.«getset_descriptor.__get__» descrGet; rw [dga_obj];refine θ (Aw ?_); unfold descrGetter descrCheckInstance descrNameAndClass M8; simp only [KF.owner_class]
 repeat lk
 refine ⟨MY _ (by decide +kernel),codeAny_builtin KF.entry_class ?_⟩; unfold Mq.«object.__class__» shownTypeOf
 repeat lk
 exact h
theorem yn {Q:Option η->χ->Prop} (X:K.In s.heap) (LT:OP (B_ prog w) s.heap (M7 (.ref x)) (.ref C))
  (hga:Lu K (.ref C) "__getattribute__"=some (some (.builtin "BaseException.__getattribute__"))) (hgt:Lu K (.ref C) "__getattr__"=some none)
  (ha:Lu K (.ref C) "__class__"=some (some (.builtin "object.__class__"))) (hn:specialIn K (.builtin "object.__class__") "__get__"=some (some (.builtin "getset_descriptor.__get__"))) (htk:takesIn K (.builtin "object.__class__")=some true)
  (hm:mroIn K C (.type "object")=some true) (hb:mroIn K C (.type "BaseException")=some true)
  (h:Q (some (.ref C)) { s with toks:=s.toks+1 }):BG (B_ prog w) A (getAttr? (.ref x) "__class__") Q E s:=by
 obtain ⟨hh,g,d,t,os⟩:=s;have L1:=LJ (M:=B_ prog w) X hga;have L2:=LJ (M:=B_ prog w) X hgt;have L3:=looks_mroIn (M:=B_ prog w) X hb
 have L4:OP (B_ prog w) hh (find (.ref x) (.ref C) "__class__") (.bind (.builtin "getset_descriptor.__get__") (.builtin "object.__class__")):=by
  have a1:=LJ (M:=B_ prog w) X ha;have a2:OP (B_ prog w) hh (getOf (some (.builtin "object.__class__"))) (some (.builtin "getset_descriptor.__get__")):=looks_specialIn X hn;have a3:=looks_takesIn (M:=B_ prog w) X htk;refine a1.andThen (a2.andThen ?_);have a4:OP (B_ prog w) hh (dataDescriptor? (some (.builtin "object.__class__")) (some (.builtin "getset_descriptor.__get__"))) (some (.builtin "getset_descriptor.__get__",.builtin "object.__class__")):=a3.andThen .now;exact a4.andThen (Looks.tag .now)
 have f3:=(Ow).ga.bind (.ref x);unfold getAttr? getAttrBy? getAttrBy;refine θ (wpAny_mkText (θ (M4 (Ij (θ (LT.at (θ (L1.at ?_))))))))
 show BG _ _ (getAttrByItsOwn _ _ _ _ _ _) _ _ _
 unfold getAttrByItsOwn hookBefore;refine θ (L2.at ?_);refine θ (M4 (Ij ?_))
 show BG _ _ (boundAndCalled _ _ _) _ _ _
 unfold boundAndCalled;rw [f3];refine θ (Aw (Jw ?_));have hk:builtinKind "BaseException.__getattribute__"=some .slot:=(by decide +kernel); have hsplit:splitId "BaseException.__getattribute__"=some ("BaseException","__getattribute__"):=by decide +kernel
 refine K5 (Ow).ga.plain F.entry_bexc_ga ?_;have ha:=F.args_bexc_ga (.ref x) (.str "__class__" t);simp only [checkBuiltinCall,hk,hsplit]; refine θ ?_;unfold M8;refine θ (LT.at (L3.at ?_));simp only [N3,MZ,if_false]; refine wpAny_of_eq (a:=()) ha ?_;unfold Mq.«object.__getattribute__»
 repeat (first | with_reducible refine Jw (Cg X LT hm ?_) | lk)
 exact h
end
end L2
namespace L2
open PySem PySem.Spec PyProof.Rows
structure eY (K:A_) (C:ς):Prop where
 ga:JG K (.ref C) "__getattribute__"=some (some (.builtin "BaseException.__getattribute__"))
 gt:JG K (.ref C) "__getattr__"=some none
 cl:JG K (.ref C) "__class__"=some (some (.builtin "object.__class__"))
 gs:Kw K (.builtin "object.__class__") "__get__"=some (some (.builtin "getset_descriptor.__get__"))
 tk:W.takesIn K (.builtin "object.__class__")=some true
 mo:Lf K C (.type "object")=some true
 mb:Lf K C (.type "BaseException")=some true
theorem eY.cls {K:A_} {C:ς} (e:eY K C):∃ cd,W.clsIn K C=some cd:=by
 obtain ⟨cd,hc,_⟩:=LQ.mp e.mo;exact ⟨cd,hc⟩
def ij (e C:ς) (h:IC):Prop:=∃ o,h.get? e=some o/\o.cls=.ref C
theorem ij.looks {e C:ς} {h:IC} {M:MN} (p:ij e C h):NV M h (M7 (.ref e)) (.ref C):=by
 obtain ⟨o,h1,h2⟩:=p;rw [<- h2]; exact (PySem.W.Looks.ld h1).andThen .now
def mQ (e C:ς) (xo:Option ς) (h:IC):Prop:=∃ o vs,h.get? e=some o/\o.cls=.ref C/\o.data=.fields vs/\∀ dx,xo=some dx->o.dict=some dx
theorem mQ.at {e C:ς} {xo:Option ς} {h:IC} (p:mQ e C xo h):ij e C h:=let ⟨o,_,h1,h2,_⟩:=p; ⟨o,h1,h2⟩
noncomputable def tU (e C:ς) (xo:Option ς):HO:=.ext (mQ e C xo)
theorem Al {K:A_} {e C:ς} (x:eY K C):PySem.W.KitX K (.ref e) (.ref C) (ij e C) where
 ty:=fun _ _ _ p=>ij.looks p
 it:=fun _ _ X _=>by
  obtain ⟨cdD,hcD⟩:=x.cls;unfold W.clsIn at hcD
  split at hcD
  ·rename_i ho;intro A' Q' E' s' k q;unfold isType loadHead;exact θ (Ma (k _ _ (X _ _ ho)) (Aw q))
  ·cases hcD
 ne:=fun h tp dd its n sl X htp=>by
  obtain ⟨cdD,hcD⟩:=x.cls;refine Ms.mpr fun q=>?_;have z:=Value.ref.inj (beq_iff_eq.mp q);subst z;unfold W.clsIn at hcD
  split at hcD
  ·rename_i ho;have z:=(X _ _ ho).symm.trans htp
   cases z
  ·cases hcD
 ca:=fun X p k=>yn X (ij.looks p) x.ga x.gt x.cl x.gs x.tk x.mo x.mb k
def AN (K:A_):List V->Hp->VK->Prop:=fun xs H Q=>∃ e C xo y c b,xs=[.ref e,y]/\H e=some (tU e C xo)/\eY K C/\bF y c/\IF K (.ref C) c=some b/\Q (.bl b) H
theorem vJ {X:Cx}:b9 X (.builtin "isinstance") (AN X.K):=by
 intro pins s σ H xs us Q I r h;obtain ⟨e,C,xo,y,c,b,rfl,he,ex,ry,k,q⟩:=h;obtain ⟨u,v,rfl,ru,rv⟩:=r.two
 cases (show u=Bl e from ru)
 have hv:v=c:=by
  cases y with
  | ref a => exact (show v = Bl a from rv).trans (show c = Bl a from ry).symm
  | ty n => exact (show v = MQ n from rv).trans (show c = MQ n from ry).symm
  | non => exact (show v = Il from rv).trans (show c = Il from ry).symm
  | bl z => exact (show v = Li z from rv).trans (show c = Li z from ry).symm
  | int i => obtain ⟨t, rfl⟩ := ry; simp [IF, ND] at k
  | str i => obtain ⟨t, rfl⟩ := ry; simp [IF, ND] at k
  | byt i => obtain ⟨t, rfl⟩ := ry; simp [IF, ND] at k
  | flt i => obtain ⟨t, rfl⟩ := ry; simp [IF, ND] at k
 subst hv;have p:ij e C s.heap:=mQ.at (show bP X.prog X.w H s.heap e (.ext (mQ e C xo)) from I.hok e _ he).1;exact Jz (Al ex) I.kIn p k (fun z=>nomatch z) fun tk=>⟨.bl b,H,I.tok tk,rfl,q⟩
theorem cB {X:Cx} (K:A_) (h:X.K=K):b9 X (.builtin "isinstance") (AN K):=h ▸ vJ
theorem fj {K:A_} {H:Hp} {Q:VK} {e C D:ς} {xo:Option ς} {b:Bool} (he:H e=some (tU e C xo)) (x:eY K C) (k:IF K (.ref C) (.ref D)=some b) (q:Q (.bl b) H):AN K [.ref e,.ref D] H Q :=
 ⟨e,C,xo,.ref D,.ref D,b,rfl,he,x,rfl,k,q⟩
section
variable {X:Cx} {pins:List (ς×Iz)} {σ:St} {H:Hp} {s:χ}
theorem Inv.held {h':IC} {es:List ς} (I:Inv X pins σ H s) (hs:X.stack=X.env::X.outer) (hf:X.env.frame=some X.env.locals)
  (he:∀ b∈es,H b=none/\X.s₀.heap.get? b=none/\(∀ p∈X.pn++pins,p.1≠b)/\∃ o vs,s.heap.get? b=some o/\o.data=.fields vs)
  (keep:∀ b o,s.heap.get? b=some o->b∉frs X.stack->b∉es->h'.get? b=some o) (slot:∀ b o,s.heap.get? b=some o->b∈frs X.stack->∃ sl,h'.get? b=some { o with slots:=sl }):Inv X pins σ H { s with heap:=h' }:=by
 have lf:=I.left hs (fun b hb=>⟨(he b hb).1,(he b hb).2.1⟩) keep slot;have inL:X.env.locals∈frs X.stack:=by rw [hs]; unfold frs; rw [KA,hf]; exact Θ
 have cellK:∀ c v,s.heap.IsCell c v->h'.IsCell c v:=fun c v ⟨o,ho,hd⟩=>by
  by_cases hb:c∈frs X.stack
  ·obtain ⟨sl,q⟩:=slot c o ho hb;exact ⟨_,q,hd⟩
  ·refine ⟨o,keep c o ho hb fun hm=>?_,hd⟩;obtain ⟨_,_,_,o',vs,ho',hd'⟩:=he c hm;rw [ho] at ho'; cases ho'; rw [hd] at hd'; cases hd'
 refine ⟨I.ok,I.os,I.bare,lf.1,?_,fun x c e=>?_,I.free,I.freeC,fun p hp=>?_,lf.2,I.len⟩
 ·obtain ⟨m,⟨o,es',ep,ho,r⟩,hl⟩:=I.loc;obtain ⟨sl,hL⟩:=slot _ o ho inL;refine ⟨m,⟨_,es',ep,hL,r⟩,fun i x v e1 e2 e3=>?_⟩;obtain ⟨u,ru,l⟩:=hl i x v e1 e2 e3;refine ⟨u,ru,?_⟩;rcases l with l | ⟨k,c,e,z⟩
  ·exact .inl l
  ·exact .inr ⟨k,c,e,cellK c _ z⟩
 ·obtain ⟨v,z⟩:=I.cell x c e;exact ⟨v,cellK c v z⟩
 ·obtain ⟨e,n,ne,nf,d⟩:=I.pin p hp;refine ⟨keep p.1 p.2 e (fun z=>?_) fun z=>(he p.1 z).2.2.1 p hp rfl,n,ne,nf,d⟩;rcases Ξ.mp (I.stkSub p.1 z) with q | q
  ·exact ne q
  ·exact nf q
theorem Inv.track {e:ς} {φ:IC->Prop} (I:Inv X pins σ H s) (hH:H e=none) (h0:X.s₀.heap.get? e=none) (hp:∀ p∈X.pn++pins,p.1≠e) (hd:∃ o vs,s.heap.get? e=some o/\o.data=.fields vs)
    (hφ:φ s.heap) (st:∀ h1 h2:IC,φ h1->(∀ o,h1.get? e=some o->h2.get? e=some o)->φ h2):Inv X pins σ (upd H e (.ext φ)) s:=by
  obtain ⟨oe,vs,ho,hdd⟩:=hd;have ne:∀ b u,H b=some u->b≠e:=fun b u z=>cj z hH;have n0:∀ b o,X.s₀.heap.get? b=some o->b≠e:=fun b o z q=>by rw [q,h0] at z; cases z
  have nH0:∀ b u,X.H₀ b=some u->H b≠none->b≠e:=fun b u _ z q=>z (q ▸ hH);refine ⟨I.ok,I.os,I.bare,⟨I.base.keep,I.base.slot,fun b o z n hx=>?_,I.base.there,fun b xs z=>?_,fun b o u z=>?_,fun b ps z=>?_⟩,I.loc,I.cell,?_,fun x c z=>?_,fun p hp'=>?_,fun b u z=>?_,I.len⟩
  · rw [aE (n0 b o z)]; exact I.base.free b o z n hx
  · have q:=I.base.tups b xs z
    rw [aE (ne _ _ q)]; exact q
  · have q:=I.base.frzs b o u z
    rw [aE (ne _ _ q)]; exact q
  · obtain ⟨m,q⟩:=I.base.tbls b ps z
    exact ⟨m,by rw [aE (ne _ _ q)]; exact q⟩
  · have q:X.env.locals≠e:=fun q=>by
      obtain ⟨m,⟨o',es,ep,ho',hd',_⟩,_⟩:=I.loc;rw [q,ho] at ho'; cases ho'; rw [hdd] at hd'; cases hd'
    rw [aE q]; exact I.free
  · have q:c≠e:=fun q=>by
      obtain ⟨v,o',ho',hd'⟩:=I.cell x c z;rw [q,ho] at ho'; cases ho'; rw [hdd] at hd'; cases hd'
    rw [aE q]; exact I.freeC x c z
  · obtain ⟨a,n,r⟩:=I.pin p hp'
    exact ⟨a,by rw [aE (hp p hp')]; exact n,r⟩
  · by_cases q:b=e
    · subst q
      rw [af] at z
      cases z;exact ⟨hφ,⟨oe,ho⟩,st⟩
    · rw [aE q] at z
      refine (I.hok b u z).stay (fun _ _ _ w=>w) (fun c w=>?_) fun c xs w=>?_
      · rw [aE (ne _ _ w)]; exact w
      · rw [aE (ne _ _ w)]; exact w
end
noncomputable abbrev Cx.tryIn (X:Cx) (pins:List (ς×Iz)) (E:η->χ->Prop):Cx:={ X with pn:=X.pn++pins,xe:=E }
section
variable {X:Cx} {pins pins':List (ς×Iz)} {σ:St} {H:Hp} {s:χ} {E:η->χ->Prop}
theorem Cx.Ok.tryIn (ok:X.Ok):(X.tryIn pins E).Ok :=
 ⟨ok.mod,ok.kind,ok.glob,ok.blt,ok.above,ok.inj,ok.has,ok.cab,ok.hd,ok.frames,ok.stk,ok.exf,ok.bs,ok.bsz,ok.noex,ok.exfs,ok.funs,ok.frf⟩
theorem Cx.Ok.tryOut (ok:(X.tryIn pins E).Ok):X.Ok :=
 ⟨ok.mod,ok.kind,ok.glob,ok.blt,ok.above,ok.inj,ok.has,ok.cab,ok.hd,ok.frames,ok.stk,ok.exf,ok.bs,ok.bsz,ok.noex,ok.exfs,ok.funs,ok.frf⟩
theorem Inv.tryIn (I:Inv X pins σ H s) (E:η->χ->Prop):Inv (X.tryIn pins E) [] σ H s :=
 ⟨I.ok.tryIn,I.os,I.bare,I.base,I.loc,I.cell,I.free,I.freeC,fun p hp=>I.pin p (by simpa using hp),I.hok,I.len⟩
theorem Inv.tryOut (I:Inv (X.tryIn pins E) pins' σ H s):Inv X pins σ H s :=
 ⟨I.ok.tryOut,I.os,I.bare,I.base,I.loc,I.cell,I.free,I.freeC,fun p hp=>I.pin p (Ji _ hp),I.hok,I.len⟩
theorem SP.tryOut {D:dn} {f:Flow} {s':χ} (h:SP (X.tryIn pins E) pins' D f s'):SP X pins D f s':=by
 cases f with
 | next=>obtain ⟨σ',H',I,q⟩:=h; exact ⟨σ',H',I.tryOut,q⟩
 | brk=>obtain ⟨σ',H',I,q⟩:=h; exact ⟨σ',H',I.tryOut,q⟩
 | cont=>obtain ⟨σ',H',I,q⟩:=h; exact ⟨σ',H',I.tryOut,q⟩
 | ret u=>obtain ⟨v,σ',H',I,r,q⟩:=h; exact ⟨v,σ',H',I.tryOut,r,q⟩
end
def XT (X:Cx) (pins:List (ς×Iz)) (ET:St->XK):η->χ->Prop:=fun x s'=>∃ (σ:St) (e C:ς) (xo:Option ς) (H':Hp),x=.ref e/\Inv X pins σ H' s'/\Exc X.s₀.heap s'.heap H' e C xo /\
 (∀ p∈X.pn++pins,p.1≠e/\∀ oe vs T,s'.heap.get? e=some oe->oe.data=.fields vs->vs[1]?=some (.ref T)->p.1≠T)/\ET σ (.ref C) xo H'
def fU (CX:CXT) (X:Cx) (ET:St->XK):Prop:=∀ (pins:List (ς×Iz)) (σ:St) (H:Hp) (s:χ) (e:η) (s':χ),Inv X pins σ H s->CX X.stack H s (ET σ) e s'->X.xe e s'
theorem iG {X:Cx} {pins:List (ς×Iz)} {ET:St->XK} (hx:X.ex=[]:=by rfl):fU (CX1 X.prog X.w) (X.tryIn pins (XT X pins ET)) ET:=by
 intro pins' σ H s x s' I h;obtain ⟨e,C,xo,H',rfl,os,bare,un,hok,ex,q⟩:=h;have J:=I.call' (s':=s') (ch:=[]) os un hok bare (fun b hb=>by cases hb);obtain ⟨⟨oe,ws,T,oT,ts,g1,g2,g3,g4,g5,g6,g7,g8,g9⟩,ne,hHe,hHT,dc⟩:=ex;have s0:∀ {b:ς},s.heap.get? b=none->X.s₀.heap.get? b=none:=fun {b} hb=>by
  cases z:X.s₀.heap.get? b with
  | none => rfl
  | some o => obtain ⟨o', z'⟩ := I.base.there b o z (by show b ∉ X.ex; rw [hx]; simp); rw [hb] at z'; cases z'
 refine ⟨σ,e,C,xo,H',rfl,J.tryOut,⟨⟨oe,ws,T,oT,ts,g1,g2,g3,g4,s0 g5,g6,g7,g8,g9⟩,s0 ne,hHe,hHT,dc⟩,fun p hp=>?_,q⟩;have hp':=(I.pin p (Ji _ hp)).1;refine ⟨fun z=>(by rw [z,ne] at hp'; cases hp'),fun oe' vs' T' z1 z2 z3 z=>?_⟩;rw [g1] at z1; cases z1;rw [g3] at z2; cases z2;rw [g4] at z3; cases z3;rw [z,g5] at hp'
 cases hp'
def BK (sp:Sp) (dvs:List V) (ET:St->XK) (t:TA):TE:=fun σ H Q=>t σ H fun vs H1=>sp (vs++dvs) H1 Q (ET σ)
def wR (C:ς) (m:Str) (sp:Sp) (dvs:List V) (ET:St->XK) (ta:TE) (t:TA):TE:=fun σ H Q=>ta σ H fun x H1=>xH C m x H1 (t σ H1 fun vs H2=>sp (x::(vs++dvs)) H2 Q (ET σ))
def BU (C:ς) (sp:Sp) (dvs:List V) (ET:St->XK) (t:TA):TE:=fun σ H Q=>t σ H fun vs H1=>∀ x dx,H1 x=none->H1 dx=none->dx≠x ->
 sp (.ref x::(vs++dvs)) (upd (upd H1 dx (.own x)) x (.ins C dx [])) (fun v H2=>v=.non/\Q (.ref x) H2) (ET σ)
section
variable {X:Cx} {CX:CXT} {k:Nat} {f C:ς} {fd:IJ} {ps:List Str} {sp:Sp} {dvs:List V} {ds:List η} {ET:St->XK} {x m:Str} {p pos apos:J8} {e o:II} {es:List II} {ta:TE} {t:TA}
theorem rW {pins:List (ς×Iz)} {σ:St} {H:Hp} {s:χ} {Q:VK} {us:List η} {vs:List V} (F:aR X.prog X.w X.K X.mg X.base CX k f fd ps sp) (hr:cM k X.A) (hb:aJ X.K fd ps ds) (hd:bq dvs ds) (hx:fU CX X ET)
  (I:Inv X pins σ H s) (r:bq vs us) (h:sp (vs++dvs) H Q (ET σ)):BG (B_ X.prog X.w) X.A (call (.ref f) us) (EP X pins σ Q) X.xe s:=by
 have r2:bq (vs++dvs) (us++ds):=r.append hd;have hl:(us++ds).length=ps.length:=by rw [<- r2.length]; exact F.len _ _ _ _ h
 refine Jw (JM (F.run X.A X.stack s H ⟨us,[]⟩ (us++ds) (vs++dvs) Q (ET σ) hr I.env0 (hb s us I.kIn hl) r2 h) fun r s' hq=>?_)
 cases r with
 | error e=>exact hx pins σ H s e s' I hq
 | ok fl =>
  cases fl with
  | ret u => exact I.after hq
  | next => exact Hz hq
  | brk => exact Hz hq
  | cont => exact Hz hq
theorem AE (F:aR X.prog X.w X.K X.mg X.base CX k f fd ps sp) (hr:cM k X.A) (hg:Gl X x) (hm:X.mg x=some (.ref f)) (hk:Ke X.K (.ref f)=true) (hb:aJ X.K fd ps ds) (hd:bq dvs ds) (hx:fU CX X ET)
  (ha:PA X (e::es) t) (hdb:(x==("__debug__":Str))=false:=by decide) (he:D_ (e::es) X.env=(false,Ip e X.env)::D_ es X.env:=by rfl) (hpl:(JD pos (D_ es X.env)).any (·.1)=false:=by rfl) :
  PE X (.Call (.Name x p) (e::es) [] pos) (BK sp dvs ET t):=by
 intro pins s σ H Q I h;refine JF (dN I hg hm ?_ hdb);refine Js (h₀:=X.base) I.ok.mod.kin hk (thn (ha pos pins s σ H _ I h) fun us s1 ⟨vs,H1,I1,r,q⟩=>⟨I1.kIn,?_⟩) he hpl;exact rW F hr hb hd hx I1 r q
theorem eR {pl:LL Bool} (he:PE X o ta) (c:Cls X.K C) (hm:eA X.K C m f) (F:aR X.prog X.w X.K X.mg X.base CX k f fd ps sp) (hr:cM k X.A) (hb:aJ X.K fd ps ds) (hd:bq dvs ds) (hx:fU CX X ET) (ha:PA X (e::es) t)
  (hst:D_ (e::es) X.env=(false,Ip e X.env)::D_ es X.env:=by rfl) (hpl:(JD pos (D_ es X.env)).any (·.1)=false:=by rfl)
  (ht:Ip (.Call (.Attribute o m apos) (e::es) [] pos) X.env=(do
   let ov <- Ip o X.env
   Mm apos.atName
   let (f,first) <- Lo [ov] (LP ov m pl)
   Mc pos f first (JD pos (D_ (e::es) X.env)) (Lc pos (KG [] X.env))):=by rfl) :
  PE X (.Call (.Attribute o m apos) (e::es) [] pos) (wR C m sp dvs ET ta t):=by
 intro pins s σ H Q I h;refine KP (pl:=pl) (thn (he pins s σ H _ I h) fun u s1 ⟨x,H1,I1,rx,a,dx,fs,ex,ea,l,q⟩=>?_) ht;subst ex;obtain rfl:u=Bl a:=rx
 refine gR I1 ea c hm l ?_;refine Js (first:=[.ref a]) (h₀:=X.base) I.ok.mod.kin hm.kp (thn (ha pos pins s1 σ H1 _ I1 q) fun us s2 ⟨vs,H2,I2,r,q2⟩=>⟨I2.kIn,?_⟩) hst hpl;exact rW (us:=.ref a::us) (vs:=.ref a::vs) F hr hb hd hx I2 (.cons rfl r) q2
theorem qv {pl:LL Bool} (he:PE X o ta) (c:Cls X.K C) (hm:eA X.K C m f) (F:aR X.prog X.w X.K X.mg X.base CX k f fd ps sp) (hr:cM k X.A) (hb:aJ X.K fd ps ds) (hd:bq dvs ds) (hx:fU CX X ET)
  (ht:Ip (.Call (.Attribute o m apos) [] [] pos) X.env=(do
   let ov <- Ip o X.env
   Mm apos.atName
   let (f,first) <- Lo [ov] (LP ov m pl)
   Mc pos f first (JD pos (D_ [] X.env)) (Lc pos (KG [] X.env))):=by rfl) :
  PE X (.Call (.Attribute o m apos) [] [] pos) (wR C m sp dvs ET ta BW):=by
 intro pins s σ H Q I h;refine KP (pl:=pl) (thn (he pins s σ H _ I h) fun u s1 ⟨x,H1,I1,rx,a,dx,fs,ex,ea,l,q⟩=>?_) ht;subst ex;obtain rfl:u=Bl a:=rx
 refine gR I1 ea c hm l ?_;exact OL (first:=[.ref a]) I1.kIn hm.kp (rW (us:=[.ref a]) (vs:=[.ref a]) F hr hb hd hx I1 (.cons rfl .nil) q)
theorem y7 {pins:List (ς×Iz)} {σ:St} {H:Hp} {s:χ} {Q:VK} {us:List η} {vs:List V} (M:Mk X.K C f) (F:aR X.prog X.w X.K X.mg X.base CX k f fd ps sp) (hr:cM (k+1) X.A) (hb:aJ X.K fd ps ds) (hd:bq dvs ds)
  (hx:fU CX X ET) (I:Inv X pins σ H s) (r:bq vs us)
  (h:∀ x dx,H x=none->H dx=none->dx≠x->sp (.ref x::(vs++dvs)) (upd (upd H dx (.own x)) x (.ins C dx [])) (fun v H2=>v=.non/\Q (.ref x) H2) (ET σ)) :
  BG (B_ X.prog X.w) X.A (call (.ref C) us) (EP X pins σ Q) X.xe s:=by
 have hq:=h (s.heap.objs.size+1) s.heap.objs.size (I.hok.fresh (MK _)) (I.hok.fresh (Ω _)) (Hi (Kl _));have I2:=Inv.made (C:=C) I;have r2:bq (V.ref (s.heap.objs.size+1)::(vs++dvs)) (Bl (s.heap.objs.size+1)::(us++ds)):=.cons rfl (r.append hd)
 have hl:(Bl (s.heap.objs.size+1)::us++ds).length=ps.length:=by
  have e:=r2.length;rw [F.len _ _ _ _ hq] at e;exact e.symm
 refine Jw (uI (f:=f) I.kIn M.makes M.init (beq_iff_eq.mp M.fn) (JM (F.run _ X.stack _ _ ⟨Bl (s.heap.objs.size+1)::us,[]⟩ (Bl (s.heap.objs.size+1)::(us++ds)) _ _ (ET σ) (hr.make C us [])
  (I2.env0.make C us []) (hb _ (Bl (s.heap.objs.size+1)::us) I2.kIn hl) r2 hq) fun r s' hq'=>?_))
 cases r with
 | error e=>exact hx pins σ _ _ e s' I2 hq'
 | ok fl =>
  cases fl with
  | ret u =>
   obtain ⟨v,H',I3,rv,ev,q3⟩:=I2.after hq';subst ev;exact ⟨rv,⟨V.ref (s.heap.objs.size+1),H',I3,rfl,q3⟩⟩
  | next => exact Hz hq'
  | brk => exact Hz hq'
  | cont => exact Hz hq'
theorem uW (M:Mk X.K C f) (F:aR X.prog X.w X.K X.mg X.base CX k f fd ps sp) (hr:cM (k+1) X.A) (hg:Gl X x) (hm:X.mg x=some (.ref C)) (hb:aJ X.K fd ps ds) (hd:bq dvs ds) (hx:fU CX X ET)
  (ha:PA X (e::es) t) (hdb:(x==("__debug__":Str))=false:=by decide) (he:D_ (e::es) X.env=(false,Ip e X.env)::D_ es X.env:=by rfl) (hpl:(JD pos (D_ es X.env)).any (·.1)=false:=by rfl) :
  PE X (.Call (.Name x p) (e::es) [] pos) (BU C sp dvs ET t):=by
 intro pins s σ H Q I h;refine JF (dN I hg hm ?_ hdb);refine Js (h₀:=X.base) I.ok.mod.kin M.kp (thn (ha pos pins s σ H _ I h) fun us s1 ⟨vs,H1,I1,r,q⟩=>⟨I1.kIn,?_⟩) he hpl;exact y7 M F hr hb hd hx I1 r q
end
section
variable {σ:St} {H:Hp} {Q:VK}
theorem AV {sp:Sp} {dvs:List V} {ET:St->XK} {t:TA} (h:t σ H fun vs H1=>sp (vs++dvs) H1 Q (ET σ)):BK sp dvs ET t σ H Q:=h
theorem A8 {C:ς} {m:Str} {sp:Sp} {dvs:List V} {ET:St->XK} {ta:TE} {t:TA} (h:ta σ H fun x H1=>xH C m x H1 (t σ H1 fun vs H2=>sp (x::(vs++dvs)) H2 Q (ET σ))):wR C m sp dvs ET ta t σ H Q:=h
theorem A7 {C:ς} {sp:Sp} {dvs:List V} {ET:St->XK} {t:TA} (h:t σ H fun vs H1=>∀ x dx,H1 x=none->H1 dx=none->dx≠x ->
 sp (.ref x::(vs++dvs)) (upd (upd H1 dx (.own x)) x (.ins C dx [])) (fun v H2=>v=.non/\Q (.ref x) H2) (ET σ)):BU C sp dvs ET t σ H Q:=h
end
noncomputable abbrev Cx.suite (X:Cx) (e:ς):Cx:={ X with A:=X.A.mark (some (.ref e)),calm:=false,xe:=fun _ _=>False }
section
variable {X:Cx} {pins:List (ς×Iz)} {σ:St} {H:Hp} {s:χ} {e:ς}
theorem Cx.Ok.suite (ok:X.Ok):(X.suite e).Ok :=
 ⟨ok.mod,ok.kind,ok.glob,ok.blt,ok.above,ok.inj,ok.has,ok.cab,fun z=>Bool.noConfusion z,ok.frames,ok.stk,ok.exf,ok.bs,ok.bsz,ok.noex,ok.exfs,ok.funs,ok.frf⟩
theorem Inv.suite (I:Inv X pins σ H s):Inv (X.suite e) pins σ H s:=⟨I.ok.suite,I.os,I.bare,I.base,I.loc,I.cell,I.free,I.freeC,I.pin,I.hok,I.len⟩
theorem Inv.unsuite (ok:X.Ok) (I:Inv (X.suite e) pins σ H s):Inv X pins σ H s:=⟨ok,I.os,I.bare,I.base,I.loc,I.cell,I.free,I.freeC,I.pin,I.hok,I.len⟩
end
noncomputable def Dh (i:Nat) (D:dn):dn:={ nx:=fun σ H=>D.nx (σ.set i none) H,rt:=D.rt,bk:=fun σ H=>D.bk (σ.set i none) H,ct:=fun σ H=>D.ct (σ.set i none) H }
def B8 (K:A_) (S:ς) (i:Nat) (ts:TS) (D:dn):St->XK:=fun σ cls xo H1=>∃ C,cls=.ref C/\Ik K (.ref C) (.ref S)=some true/\∀ e,H1 e=none->ts (Dh i D) (σ.set i (some (.ref e))) (upd H1 e (tU e C xo))
def Fz (K:A_) (S:ς) (i:Nat) (tb:(St->XK)->TS) (ts:TS):TS:=fun D σ H=>tb (B8 K S i ts D) D σ H
theorem kC {X:Cx} {pins:List (ς×Iz)} {σ:St} {H:Hp} {s:χ} {M:MN} {A:IA} {E:η->χ->Prop} {i:Nat} {n:Str} {pos:J8} {Q:Unit->χ->Prop} (I:Inv X pins σ H s) (hN:X.N.Nodup) (hi:X.N[i]?=some n)
  (hk:X.env.kindOf n=some .local) (h:∀ s',Inv X pins (σ.set i none) H s'->Q () s'):BG M A (do NR X.env n .none; unbindBehindTheSuite X.env n pos) Q E s:=by
 obtain ⟨m,hn,hl⟩:=id I.loc;have hcls:(X.env.scope.kind==.class||(X.env.scope.kind==.module&&X.env.locals != X.env.globals))=false:=by rw [I.ok.kind]; rfl
 have cne:=I.cne;refine wpAny_nameGoes_keeps hk hn hcls fun h' v hn' hs=>h _ ?_;obtain ⟨oL,_,_,hoL,_⟩:=id hn;have hk':HOk X.prog X.w H h':=fun b ob e=>by
  refine (I.hok b ob e).stay (fun c w' hc q=>(hs.2 c ?_).trans q) (fun _ q=>q) fun _ _ q=>q;rintro rfl;rcases hc with rfl | hc
  ·rw [I.free] at e; cases e
  ·rw [I.free] at hc; cases hc
 have nL:∀ b o,X.s₀.heap.get? b=some o->b≠X.env.locals:=fun b o e=>Hi (Ht (BE e) I.ok.above);refine ⟨I.ok,I.os,I.bare,⟨fun b o e n hb hx=>(hs.2 b (nL b o e)).trans (I.base.keep b o e n hb hx),fun b o e n hb hx=>?_,I.base.free,fun b o e hx=>?_,I.base.tups,I.base.frzs,I.base.tbls⟩,⟨_,hn',fun j y v' e1 e2 e3=>?_⟩,fun y c e=>?_,I.free,I.freeC,fun p hp=>?_,hk',by simpa using I.len⟩
 ·obtain ⟨sl,e1⟩:=I.base.slot b o e n hb hx;exact ⟨sl,(hs.2 b (nL b o e)).trans e1⟩
 ·obtain ⟨o',e1⟩:=I.base.there b o e hx;exact ⟨o',(hs.2 b (nL b o e)).trans e1⟩
 ·by_cases hj:j=i
  ·subst hj;have hiσ:j<σ.length:=by rw [I.len]; exact (F_.mp hi).1
   rw [KW hiσ] at e2
   cases e2
  ·rw [MG (IL hj)] at e2;obtain ⟨u',r',q⟩:=hl j y v' e1 e2 e3;refine ⟨u',r',?_⟩;rcases q with ⟨k,e⟩ | ⟨k,c,e,z⟩
   ·refine .inl ⟨k,?_⟩;have:y≠n:=fun e=>hj (nD hN e1 (e ▸ hi))
    simp [this,e]
   ·exact .inr ⟨k,c,e,z.sameBut hs (cne y c e)⟩
 ·obtain ⟨w',z⟩:=I.cell y c e;exact ⟨w',z.sameBut hs (cne y c e)⟩
 ·obtain ⟨e,n,ne,nf,d⟩:=I.pin p hp;exact ⟨(hs.2 p.1 ne).trans e,n,ne,nf,d⟩
theorem AM {X:Cx} {i:Nat} {n x:Str} {S:ς} {body suite:List Kf} {b₀:Kf} {np hpos pos:J8} {tb:(St->XK)->TS} {ts:TS} (hN:X.N.Nodup) (hi:X.N[i]?=some n) (hk:X.env.kindOf n=some .local)
  (hg:Gl X x) (hm:X.mg x=some (.ref S)) (hb:∀ pins ET,PSs (X.tryIn pins (XT X pins ET)) body (tb ET)) (hh:∀ e,PSs (X.suite e) (b₀::suite) ts)
  (hs:X.stack=X.env::X.outer:=by rfl) (hf:X.env.frame=some X.env.locals:=by rfl) (hd:(x==("__debug__":Str))=false:=by decide) :
  PS X (.Try body [.ExceptHandler (some (.Name x np)) (some n) (b₀::suite) hpos] [] [] pos) (Fz X.K S i tb ts):=by
 intro pins s σ H D I h;refine wpAny_Try_except (Hq (hb pins (B8 X.K S i ts D) [] s σ H D (I.tryIn _) h) (fun f s1 q=>?_) (fun y s1 q=>?_))
 ·have q:=q.tryOut
  cases f with
  | next =>
   obtain ⟨σ',H',I',q'⟩:=q;exact aB pins s1 σ' H' D I' q'
  | brk => exact q
  | cont => exact q
  | ret u => exact q
 ·obtain ⟨σ1,e,C,xo,H1,rfl,I1,ex,hp,C',hC,hx',k⟩:=q
  cases hC;obtain ⟨⟨oe,ws,T,oT,tl,g1,g2,g3,g4,g5,g6,g7,g8,g9⟩,ne,hHe,hHT,dc⟩:=ex;have hHT:=hHT oe ws T g1 g3 g4;obtain ⟨a0,h0⟩:∃ a0,ws[0]?=some a0:=by
   have hsz:1<ws.size:=(JH.mp g4).1;exact ⟨ws[0],by simp [show 0<ws.size by omega]⟩
  have ff:=I1.stack;have hl:=Jb (as:=e::T::frs X.stack) ff (eT fun b hb=>Au _ (Au _ hb))
  have fl:K2 (Im s1.heap (e::T::frs X.stack)) (X.env::X.outer) e (.ref C) a0 s1.heap :=
   ⟨fun b o z=>Jr _ z,IY _ Θ,hs ▸ hl,⟨oe,ws,T,oT,tl,g1,⟨g2,h0⟩,g3,g4,IY _ (Au _ Θ),g6,g7,g8,g9⟩⟩
  have stay:∀ h',Heap.StaysIn (Im s1.heap (e::T::frs X.stack)) h'->s1.heap.UpToSlots h'->Inv X pins σ1 H1 { s1 with heap:=h' }:=fun h' st sm=>by
   refine I1.held (es:=[e,T]) hs hf (fun b hb=>?_) (fun b o z nf nm=>st b o (Ii _ z ?_)) fun b o z hb=>?_
   ·simp only [Ξ,HJ,or_false] at hb;rcases hb with rfl | rfl
    ·exact ⟨hHe,ne,fun p hq=>(hp p hq).1,oe,ws,g1,g3⟩
    ·exact ⟨hHT,g5,fun p hq=>(hp p hq).2 oe ws _ g1 g3 g4,oT,tl,g7,g8⟩
   ·intro m;rcases Ξ.mp m with r | m
    ·exact nm (by simp [r])
    ·rcases Ξ.mp m with r | r
     ·exact nm (by simp [r])
     ·exact nf r
   ·obtain ⟨_,o',z',hd'⟩:=ff.mem hb;rw [z] at z'; cases z';exact sm b o z hd'
  refine Hq (DS.any (ky _ _) (wpAny_looks_onW (Q:=fun _ s2=>∃ h4,s2={ s1 with heap:=h4 }/\Ov (Im s1.heap (e::T::frs X.stack)) (X.env::X.outer) e (.ref C) a0 X.env.locals h4/\s1.heap.UpToSlots h4) (I1.ok.frames.trans (congrArg some hs)) hf fl fun h4 held sm4=>⟨h4,rfl,held,sm4⟩) ⟨oe,g1,rfl⟩) (fun _ s2 ⟨⟨h4,e4,held,sm4⟩,d4⟩=>?_) fun _ _ z=>z;subst e4;refine Hq (DS.any (gP _ _) (wpAny_landsW (s:={ s1 with heap:=h4 }) (Q:=fun _ s2=>∃ h5,s2={ s1 with heap:=h5 }/\K2 (Im s1.heap (e::T::frs X.stack)) (X.env::X.outer) e (.ref C) a0 h5/\h4.UpToSlots h5) held fun h5 fl5 sm5=>⟨h5,rfl,fl5,sm5⟩) d4) (fun _ s2 ⟨⟨h5,e5,fl5,sm5⟩,d5⟩=>?_) fun _ _ z=>z;subst e5;have I5:=stay h5 fl5.1 (sm4.trans sm5);refine wpAny_handleBy_cons (codeAny_handlers_test (dN (X:=X.suite e) I5.suite hg hm ?_ hd)) (by intro q; cases q);have LT:NV (B_ X.prog X.w) h5 (M7 (.ref e)) (.ref C):=ij.looks fl5.there;refine (W.exm_one (h:=h5) I5.kIn LT hx').here ?_;refine OU ?_;refine Hq (DS.any (gP _ _) (lands_againW (s:={ s1 with heap:=h5 }) (Q:=fun _ s2=>∃ h6,s2={ s1 with heap:=h6 }/\K2 (Im s1.heap (e::T::frs X.stack)) (X.env::X.outer) e (.ref C) a0 h6/\h5.UpToSlots h6) fl5 fun h6 fl6 sm6=>⟨h6,rfl,fl6,sm6⟩) d5) (fun _ s2 ⟨⟨h6,e6,fl6,sm6⟩,d6⟩=>?_) fun _ _ z=>z;subst e6;have I6:=stay h6 fl6.1 ((sm4.trans sm5).trans sm6);obtain ⟨oe6,ws6,z1,z2,z3,_⟩:=fl6.first;have dc6:∀ dx,xo=some dx->oe6.dict=some dx:=fun dx z=>by
   obtain ⟨o,y1,y2⟩:=dc dx z;rw [g1] at y1; cases y1;obtain ⟨o,y3,y4⟩:=d6;rw [show ({ s1 with heap:=h6 }:χ).heap=h6 from rfl,z1] at y3; cases y3;rw [y4,y2]
  have I7:Inv X pins σ1 (upd H1 e (tU e C xo)) { s1 with heap:=h6 }:=I6.track hHe ne (fun p hq=>(hp p hq).1) ⟨oe6,ws6,z1,z3⟩ ⟨oe6,ws6,z1,z2,z3,dc6⟩ fun ha hb ⟨o,vs,p1,p2⟩ kk=>⟨o,vs,kk o p1,p2⟩
  refine fQ (X:=X.suite e) (v:=.ref e) I7.suite hN hi (.inl hk) rfl (fun s8 I8=>?_) (.inr hk);refine Hq (hh e pins s8 _ _ (Dh i D) I8 (k e hHe)) (fun f s9 q=>?_) fun _ _ z=>Hz z
  show BG _ _ _ _ _ _
  cases f with
  | next =>
   obtain ⟨σ',H',I',q'⟩:=q;exact kC (I'.unsuite I.ok) hN hi hk fun s' J=>⟨_,H',J,q'⟩
  | brk =>
   obtain ⟨σ',H',I',q'⟩:=q;exact kC (I'.unsuite I.ok) hN hi hk fun s' J=>⟨_,H',J,q'⟩
  | cont =>
   obtain ⟨σ',H',I',q'⟩:=q;exact kC (I'.unsuite I.ok) hN hi hk fun s' J=>⟨_,H',J,q'⟩
  | ret u =>
   obtain ⟨v,σ',H',I',r,q'⟩:=q;exact kC (I'.unsuite I.ok) hN hi hk fun s' J=>⟨v,_,H',J,r,q'⟩
structure eP (k:Nat) (A:IA):Prop where
 dp:A.depth+3*k+5<recursionLimit
 un:A.units+16*k+200<L_
theorem cM.q {k:Nat} {A:IA} (r:cM k A):eP k A:=⟨r.dp,r.un⟩
theorem eP.mono {j k:Nat} {A:IA} (r:eP k A) (h:j<=k):eP j A:=⟨by have:=r.dp; omega,by have:=r.un; omega⟩
theorem eP.deeper {k:Nat} {A:IA} (r:eP (k+1) A) (env:LU):eP k (A.deeper env) :=
 ⟨by have:=r.dp; show A.depth+1+3*k+5<_; omega,by have:=r.un; show A.units+3+16*k+200<_; omega⟩
theorem eP.mark {k:Nat} {A:IA} {v:Option η} (r:eP k A):eP k (A.mark v):=⟨r.dp,r.un⟩
structure zA (P:HS) (w:ID) (K:A_) (mg:Str->Option η) (base:IC) (k:Nat) (f:ς) (fd:IJ) (ps:List Str) (sp:Sp):Prop where
 len:∀ vs H Q E,sp vs H Q E->vs.length=ps.length
 run:∀ (A:IA) (outer:List LU) (s:χ) (H:Hp) (args:Args) (us:List η) (vs:List V) (Q:VK) (E:XK),eP k A->tT P w K mg base A outer s H->NZ s fd args (ps.zip us)->bq vs us->sp vs H Q E ->
  KR (B_ P w) A (.call (.ref f) args) (CR CX0 outer P w H s Q E) s
noncomputable abbrev Cx.quiet (X:Cx):Cx:={ X with calm:=false }
section
variable {P:HS} {w:ID} {K:A_} {mg:Str->Option η} {base:IC}
theorem Fun.okQ {x qual:Str} {st:Kf} {f:ς} {fd:IJ} {N ps:List Str} {k:Nat} {sp:Sp} (F:Fun K x qual st f fd) (S:aA N ps (ak st)) (len:∀ vs H Q E,sp vs H Q E->vs.length=ps.length)
  (hbody:∀ (cdv:η) (A:IA) (outer:List LU) (s:χ) (H:Hp) (vs:List V) (Q:VK) (E:XK),eP k (A.deeper (KL qual (ak st) s.heap.objs.size f cdv))->sp vs H Q E ->
   ∃ t,PSs (cE CX0 P w K mg base N qual (ak st) f cdv A outer s H E).quiet.nox (df st) t/\t { nx:=fun _ H'=>Q .non H',rt:=Q } (gf N vs) H):zA P w K mg base (k+1) f fd ps sp:=by
 obtain ⟨oc,od,kV,doc,pm,an,cdv,ct,osl,rfl,lk,hcd⟩:=F.ex;refine ⟨len,fun A outer s H args us vs Q E hr e0 hb r hsp=>?_⟩;have hl:=len _ _ _ _ hsp;have KX:K.In s.heap:=e0.mod.kin.keeps fun b o e=>(e0.bs b o e).1;have lim:s.heap.NoLimit:=e0.mod.nolimit.keeps fun b o e=>(e0.bs b o e).1;have hkind:∀ y∈ps.zip us,(ak st).names.lookup y.1=some .local\/((ak st).names.lookup y.1=some .cell/\((Oi (s.heap.objs.size+1) (ak st).names []).lookup y.1).isSome=true):=fun ⟨n,v⟩ hy=>by
  rcases S.par n (Lw hy).1 with q | q
  ·exact .inl q
  ·exact .inr ⟨q,NT _ _ _ (.inl q)⟩
 refine codeAny_call_function (by have:=hr.dp; omega) (KX _ _ lk) rfl S.co S.gen rfl (W.codeRec_of KX hcd) (hb _ _ _ _ ?_);refine OD S.kind hkind fun env he s1 x=>?_;subst he;refine ⟨lim.keeps x.toInCall.keep,codeAny_func ?_⟩;obtain ⟨t,ht,hq⟩:=hbody cdv A outer s H vs Q E (hr.deeper _) hsp;have I0:Inv (cE CX0 P w K mg base N qual (ak st) f cdv { A with handled:=none } outer s H E) [] (gf N vs) H s1:=qh S rfl ⟨e0.frames,e0.mod,e0.bs,e0.bsz,e0.funs,e0.frf,e0.hok,e0.bare⟩ hl r x
 have I:Inv (cE CX0 P w K mg base N qual (ak st) f cdv A outer s H E).quiet.nox [] (gf N vs) H s1 :=
  ⟨⟨I0.ok.mod,I0.ok.kind,I0.ok.glob,I0.ok.blt,I0.ok.above,I0.ok.inj,I0.ok.has,I0.ok.cab,fun z=>Bool.noConfusion z,I0.ok.frames,I0.ok.stk,I0.ok.exf,I0.ok.bs,I0.ok.bsz,I0.ok.noex,I0.ok.exfs,I0.ok.funs,I0.ok.frf⟩,I0.os,I0.bare,I0.base,I0.loc,I0.cell,I0.free,I0.freeC,I0.pin,I0.hok,I0.len⟩
 refine Hq (ht [] s1 (gf N vs) H _ I hq) (fun fl s' hs=>?_) fun e s' hs=>Hz hs
 have fin:∀ {σ':St} {H':Hp} {v:V} {u:η},Inv (cE CX0 P w K mg base N qual (ak st) f cdv A outer s H E).quiet.nox [] σ' H' s'->bF v u->Q v H'->CE outer P w H s Q u s' :=
  fun {σ' H' v u} J rv q=>⟨v,H',J.os,J.bare,J.base,J.hok,rv,q⟩
 cases fl with
 | ret u =>
  obtain ⟨v,σ',H',J,rv,q⟩:=hs;exact fin J rv q
 | next =>
  obtain ⟨σ',H',J,q⟩:=hs;exact fin (v:=V.non) (u:=Il) J rfl q
 | brk =>
  obtain ⟨_,_,_,q⟩:=hs;exact Hz q
 | cont =>
  obtain ⟨_,_,_,q⟩:=hs;exact Hz q
end
section
variable {X:Cx} {k:Nat} {f C:ς} {fd:IJ} {ps:List Str} {sp:Sp} {dvs:List V} {ds:List η} {x m:Str} {p pos apos:J8} {e o:II} {es:List II} {ta:TE} {t:TA}
theorem uS (F:zA X.prog X.w X.K X.mg X.base k f fd ps sp) (hr:eP k X.A) (hg:Gl X x) (hm:X.mg x=some (.ref f)) (hk:Ke X.K (.ref f)=true) (hb:aJ X.K fd ps ds) (hd:bq dvs ds)
  (ha:PA X (e::es) t) (hdb:(x==("__debug__":Str))=false:=by decide) (he:D_ (e::es) X.env=(false,Ip e X.env)::D_ es X.env:=by rfl) (hpl:(JD pos (D_ es X.env)).any (·.1)=false:=by rfl) :
  PE X (.Call (.Name x p) (e::es) [] pos) (xT sp dvs E0 t):=by
 intro pins s σ H Q I h;refine JF (dN I hg hm ?_ hdb);refine Js (h₀:=X.base) I.ok.mod.kin hk (thn (ha pos pins s σ H _ I h) fun us s1 ⟨vs,H1,I1,r,q⟩=>⟨I1.kIn,?_⟩) he hpl;have r2:bq (vs++dvs) (us++ds):=r.append hd;have hl:(us++ds).length=ps.length:=by rw [<- r2.length]; exact F.len _ _ _ _ q
 refine Jw (JM (F.run X.A X.stack s1 H1 ⟨us,[]⟩ (us++ds) (vs++dvs) Q E0 hr I1.env0 (hb s1 us I1.kIn hl) r2 q) fun r s' hq=>?_)
 cases r with
 | error e=>exact Hz hq
 | ok fl =>
  cases fl with
  | ret u => exact I1.after hq
  | next => exact Hz hq
  | brk => exact Hz hq
  | cont => exact Hz hq
end
theorem fB {K:A_} {A S:ς} (bs:JR K (.ref S) (.type "BaseException")=some true) (mo:Lf K S (.type "object")=some true) (ty:NB K (.ref S)=some (.type "type"))
  (sb:JR K (.ref A) (.ref S)=some true):Ik K (.ref A) (.ref S)=some true:=by
 obtain ⟨cd,hc,_⟩:=LQ.mp mo;simp only [Ik,ND];simp [bs,hc,ty,sb]
theorem v9 {K:A_} {h:IC} {mg:Str->Option η} {x:Str} {C:ς} {bmB:List η} {newId:String} (X:K.In h) (hm:mg x=some (.ref C)) (q:MV K C bmB newId=true):OwnCls x C bmB newId mg h:=by
 refine ⟨hm,?_⟩;simp only [MV] at q
 split at q
 case h_2=>cases q
 case h_1 dd cd sl ho =>
  split at q
  case h_2=>cases q
  case h_1 C' bm k0 k1 k2 k3 n k5 hmr hsl =>
   simp only [Hy,beq_iff_eq,Mr] at q;obtain ⟨⟨⟨⟨⟨e1,e2⟩,hdel⟩,ht⟩,hok⟩,hni⟩:=q;subst e1 e2;have hh:=X _ _ ho;obtain ⟨nm,bs,mro,ns,qn,hd,sn,Nk,ab,col,del⟩:=cd;simp only at hmr hdel hok hni
   subst hmr hdel;obtain ⟨l⟩:=sl;simp only at hsl
   subst hsl;exact ⟨bm,ns,nm,qn,bs,hd,sn,Nk,ab,col,dd,k0,k1,k2,k3,k5,_,hh,.of_isNs (W.isNs_of_in X hok),W.nsMap_none_of_in X hok hni,W.tail_of_in X ht⟩
theorem b7 {X:Cx} {E:XK} {x:Str} {C:ς} {B newId initId:String} {bm:List η} {np cpos pos:J8} {e:II} {es:List II} {t:TA} (hm:X.mg x=some (.ref C)) (q:MV X.K C bm newId=true) (FB:LM B newId initId bm) (hc:X.calm=true) (hg:Gl X x)
  (hx:∀ (pins:List (ς×Iz)) (σ:St) (H:Hp) (s:χ) (h':IC) (t':Nat) (e:ς) (vs:List η),Inv X pins σ H s->K9 s.heap h' e (.ref C) vs->E (.ref C) none H->X.xe (.ref e) { s with heap:=h',toks:=t' })
  (ha:PA X (e::es) t) (hd:(x==("__debug__":Str))=false:=by decide) (he:D_ (e::es) X.env=(false,Ip e X.env)::D_ es X.env:=by rfl) (hpl:(JD cpos (D_ es X.env)).any (·.1)=false:=by rfl) :
  PS X (.Raise (some (.Call (.Name x np) (e::es) [] cpos)) none pos) (wU C E t):=fun pins s σ H D I h =>
 AL (v9 I.ok.mod.kin hm q) FB hc hg hx ha hd he hpl pins s σ H D I h
theorem Bb {C:ς} {E:XK} {t:TA} {D:dn} {σ:St} {H:Hp} (h:t σ H fun vs H1=>vs.length<=BC/\E (.ref C) none H1):wU C E t D σ H:=h
section
variable {P:HS} {w:ID} {K:A_} {mg:Str->Option η} {base:IC}
theorem aR.down {k:Nat} {f:ς} {fd:IJ} {ps:List Str} {sp sp':Sp} (F:aR P w K mg base (CX1 P w) k f fd ps sp) (h:∀ vs H Q E,sp' vs H Q E->sp vs H Q (fun _ _ _=>False)):aR P w K mg base CX0 k f fd ps sp' :=
 ⟨fun vs H Q E q=>F.len vs H Q _ (h _ _ _ _ q),fun A outer s H args us vs Q E hr e0 hb hv hs=>JM (F.run A outer s H args us vs Q _ hr e0 hb hv (h _ _ _ _ hs)) fun r s' hq=>by
  cases r with
  | error e => obtain ⟨_, _, _, _, _, _, _, _, _, _, z⟩ := hq; exact z.elim
  | ok fl => cases fl <;> exact hq⟩
end
theorem Fq {K:A_} {S:ς} {i:Nat} {tb:(St->XK)->TS} {ts:TS} {D:dn} {σ:St} {H:Hp} (h:tb (B8 K S i ts D) D σ H):Fz K S i tb ts D σ H:=h
theorem wu {H:Hp} {Q:VK} {a b:ς} {xs zs:List V} (ha:H a=some (.lst xs)) (hb:H b=some (.lst zs)) (z:xs.length+zs.length<=BC) (q:∀ p,H p=none->Q (.ref p) (upd H p (.lst (xs++zs)))):EV (.ref a) (.ref b) H Q :=
 ⟨a,b,xs,zs,rfl,rfl,ha,hb,z,q⟩
def SameBut (l:ς) (H H':Hp):Prop:=∀ b o,H b=some o->b≠l->H' b=some o
theorem ai.but {H H':Hp} (s:ai H H') (l:ς):SameBut l H H':=fun b o e _=>s b o e
section
variable {K:A_} {σ:St} {H:Hp} {Q:VK} {te:TE} {cap:List (Option Nat)} {l:ς}
theorem qR {n:Nat} (R:Nat->V->Hp->Prop) (hz:n<=1000) (hl:H l=none) (mono:∀ i v H1 H2,SameBut l H1 H2->R i v H1->R i v H2)
  (step:∀ i o H' (Q':VK),i<n->ai H H'->(∃ ys,H' l=some (.lst ys))->(∀ v H5,ai H' H5->R i v H5->Q' v H5)->te (((gh (none::cap) σ).set 0 o).set 0 (some (.int ((0:Int)+(i:Nat))))) H' Q')
  (fin:∀ ys H',ai H H'->H' l=some (.lst ys)->ys.length=n->(∀ (i:Nat) v,ys[i]?=some v->R i v H')->Q (.ref l) H'):jD (Itr 0 n) (eB 0) jI te (none::cap) l σ H Q:=by
 refine ⟨n,fun i ys σ' H'=>ys.length=i/\(∀ (j:Nat) v,ys[j]?=some v->R j v H')/\(∃ o,σ'=(gh (none::cap) σ).set 0 o)/\ai H H'/\H' l=some (.lst ys),⟨rfl,fun j v e=>by simp at e,⟨none,rfl⟩,ai.new hl,af⟩,?_,?_⟩
 ·rintro i ys σ' H' hi ⟨ly,hR,⟨o,rfl⟩,s,e⟩;refine ⟨hi,fun x H2 y=>?_⟩;obtain ⟨e2,rfl⟩:=y;subst e2;refine dO (fk (pe ?_));refine step i o H2 _ hi s ⟨ys,e⟩ fun v H5 s5 r=>⟨s5 _ _ e,aQ (by omega),?_⟩
  have sb:SameBut l H5 (upd H5 l (.lst (ys++[v]))):=fun b u eb hb=>by rw [aE hb]; exact eb
  refine ⟨by rw [Av,ly]; rfl,fun j u ej=>?_,⟨_,J6 ..⟩,(s.trans s5).later hl,af⟩;by_cases hj:j<ys.length
  ·rw [Je hj] at ej;exact mono j u _ _ sb (mono j u _ _ (s5.but l) (hR j u ej))
  ·rw [Ja (by omega)] at ej;have:j=i:=by
    have hh:=(F_.mp ej).1;rw [HU] at hh;omega
   subst this;rw [ly,Mw] at ej
   cases ej;exact mono j _ _ _ sb r
 ·rintro ys σ' H' ⟨ly,hR,_,s,e⟩;exact ⟨Ω _,fin ys H' s e ly hR⟩
theorem ug {a:ς} {xs:List V} (R:Nat->V->Hp->Prop) (hs:SqL K H a xs) (hz:xs.length<=1000) (hl:H l=none) (mono:∀ i v H1 H2,SameBut l H1 H2->R i v H1->R i v H2)
  (step:∀ (i:Nat) x o H' (Q':VK),xs[i]?=some x->ai H H'->(∃ ys,H' l=some (.lst ys))->(∀ v H5,ai H' H5->R i v H5->Q' v H5)->te (((gh (none::cap) σ).set 0 o).set 0 (some x)) H' Q')
  (fin:∀ ys H',ai H H'->H' l=some (.lst ys)->ys.length=xs.length->(∀ (i:Nat) v,ys[i]?=some v->R i v H')->Q (.ref l) H'):jD (Itl K a) (eB 0) jI te (none::cap) l σ H Q:=by
 refine ⟨xs.length,fun i ys σ' H'=>ys.length=i/\(∀ (j:Nat) v,ys[j]?=some v->R j v H')/\(∃ o,σ'=(gh (none::cap) σ).set 0 o)/\ai H H'/\H' l=some (.lst ys),⟨rfl,fun j v e=>by simp at e,⟨none,rfl⟩,ai.new hl,af⟩,?_,?_⟩
 ·rintro i ys σ' H' hi ⟨ly,hR,⟨o,rfl⟩,s,e⟩;refine ⟨⟨xs,xs[i],s.seq hs,by simp [hi]⟩,fun x H2 y=>?_⟩;obtain ⟨e2,y⟩:=y;subst e2;have hx:=y xs (s.seq hs);refine dO (fk (pe ?_));refine step i x o H2 _ hx s ⟨ys,e⟩ fun v H5 s5 r=>⟨s5 _ _ e,aQ (by omega),?_⟩
  have sb:SameBut l H5 (upd H5 l (.lst (ys++[v]))):=fun b u eb hb=>by rw [aE hb]; exact eb
  refine ⟨by rw [Av,ly]; rfl,fun j u ej=>?_,⟨_,J6 ..⟩,(s.trans s5).later hl,af⟩;by_cases hj:j<ys.length
  ·rw [Je hj] at ej;exact mono j u _ _ sb (mono j u _ _ (s5.but l) (hR j u ej))
  ·rw [Ja (by omega)] at ej;have:j=i:=by
    have hh:=(F_.mp ej).1;rw [HU] at hh;omega
   subst this;rw [ly,Mw] at ej
   cases ej;exact mono j _ _ _ sb r
 ·rintro ys σ' H' ⟨ly,hR,_,s,e⟩;exact ⟨⟨xs,s.seq hs,OO rfl⟩,fin ys H' s e ly hR⟩
end
def Eb (t:TS):TS:=fun D σ H=>∃ J:St->Hp->Prop,t { D with nx:=J } σ H/\∀ σ' H',J σ' H'->D.nx σ' H'
theorem dw {X:Cx} {st:Kf} {t:TS} (h:PS X st t):PS X st (Eb t):=by
 intro pins s σ H D I ⟨J,h1,h2⟩;refine Hq (h pins s σ H _ I h1) (fun f s' q=>?_) fun _ _ z=>z
 cases f with
 | next=>obtain ⟨σ',H',J',q⟩:=q; exact ⟨σ',H',J',h2 σ' H' q⟩
 | brk=>exact q
 | cont=>exact q
 | ret u=>exact q
theorem dz {t:TS} {D:dn} {σ:St} {H:Hp} (J:St->Hp->Prop) (h1:t { D with nx:=J } σ H) (h2:∀ σ' H',J σ' H'->D.nx σ' H'):Eb t D σ H:=⟨J,h1,h2⟩
section
variable {prog:HS} {w:ID} {A:IA} {E:η->χ->Prop} {s:χ}
theorem xY {I u:ς} {k:Nat} {its:Array η} {x:η} {Q:η->χ->Prop} (hI:s.heap.IsTupleIter I u k) (hu:s.heap.IsTuple u its) (hx:its[k]?=some x)
  (hQ:∀ g,g.IsTupleIter I u (k+1)->Jj I s.heap g->Q x { s with heap:=g }):BG (B_ prog w) A (Ih (.ref I)) Q E s:=by
 obtain ⟨oI,eI,cI,dI⟩:=id hI;obtain ⟨ou,eu,_,nu,du⟩:=hu;unfold Ih;refine θ (JY (name:=JK "__next__") hI.typeIs J9 (KI J9 hI.typeIs N1 ?_ (Nq _)))
 show BG _ _ (M5 (.ref I) 0 >>= _) _ _ s
 refine θ (IU eI dI (x:=.ref u) rfl ?_)
 show BG _ _ (if (Bl u==Il)=true then _ else _) _ _ s
 rw [if_neg (show ¬ ((Bl u==Il)=true) from IB)]
 show BG _ _ (M5 (.ref I) 1 >>= _) _ _ s
 refine θ (IU eI dI (x:=.int k 0) rfl ?_)
 show BG _ _ (seqItems? (.ref u) >>= _) _ _ s
 refine θ (KC eu du ?_);rw [G_]; simp only [hx];refine θ (Kg eI dI (by simp) (Aw ⟨x,rfl,Aw (hQ _ ?_ (NW ..))⟩));exact ⟨_,I_ _ eI (OW (LD dI _)),(Obj.cls_mapFields ..).trans cI,by rw [LD dI]; simp [Kh]⟩
theorem DH {I u:ς} {k:Nat} {its:Array η} {Q:η->χ->Prop} (hd0:A.handled=none) (hI:s.heap.IsTupleIter I u k) (hu:s.heap.IsTuple u its) (hx:its[k]?=none)
  (hE:∀ g e,Heap.ExtBut I s.heap g->(∃ o,g.get? e=some o/\o.cls=.type "StopIteration")->E (.ref e) { s with heap:=g }):BG (B_ prog w) A (Ih (.ref I)) Q E s:=by
 obtain ⟨oI,eI,cI,dI⟩:=id hI;obtain ⟨ou,eu,_,nu,du⟩:=hu;unfold Ih;refine θ (JY (name:=JK "__next__") hI.typeIs J9 (KI J9 hI.typeIs N1 ?_ (Nq _)))
 show BG _ _ (M5 (.ref I) 0 >>= _) _ _ s
 refine θ (IU eI dI (x:=.ref u) rfl ?_)
 show BG _ _ (if (Bl u==Il)=true then _ else _) _ _ s
 rw [if_neg (show ¬ ((Bl u==Il)=true) from IB)]
 show BG _ _ (M5 (.ref I) 1 >>= _) _ _ s
 refine θ (IU eI dI (x:=.int k 0) rfl ?_)
 show BG _ _ (seqItems? (.ref u) >>= _) _ _ s
 refine θ (KC eu du ?_);rw [G_]; simp only [hx];refine θ (LW (θ (Kg eI dI (by simp) ?_)))
 show BG _ _ (newExc (.type "StopIteration") [] >>= _) _ _ _; refine θ ?_
 simp only [newExc,newTuple]; refine θ (JX ?_ (by size_fits));refine θ (m:=firstArgMember _ _) (wpAny_of_eq (a:=Il) (by first | rfl | (simp only [firstArgMember]; rfl)) ?_); refine JX ?_ (by size_fits);simp only [raiseNew]; refine θ (wpAny_handled ?_); rw [show A.in1.handled=none from hd0];refine θ (Aw (wpAny_throw ?_)); exact hE _ _ (((NW ..).extBut.push _).push _) ⟨_,HE _ rfl,rfl⟩
theorem zx {Z TI TO i j u v:ς} {k l:Nat} {xs ys:Array η} {x y a b:η} {Q:Option η->χ->Prop} (D:NS Z TI TO i j u v)
  (eZ:Mi s.heap Z TI TO .none) (eI:Km s.heap TI (.ref i) (.ref j)) (eO:Km s.heap TO a b) (ei:s.heap.IsTupleIter i u k) (ej:s.heap.IsTupleIter j v l) (eu:s.heap.IsTuple u xs) (ev:s.heap.IsTuple v ys) (hx:xs[k]?=some x) (hy:ys[l]?=some y)
  (hQ:∀ g,Mi g Z TI TO (Kh s.heap.objs.size)->Km g TO x y->g.IsTupleIter i u (k+1)->g.IsTupleIter j v (l+1)->Km g s.heap.objs.size x y->g.objs.size=s.heap.objs.size+1 ->
   (∀ c o,c≠Z->c≠TO->c≠i->c≠j->s.heap.get? c=some o->g.get? c=some o)->Q (some (.ref s.heap.objs.size)) { s with heap:=g }):BG (B_ prog w) A (OG (.ref Z)) Q E s:=by
 have hT:s.TypeIs (.ref Z) "zip":=⟨_,eZ,rfl⟩
 unfold OG;refine θ (M4 (JY (name:=JK "__next__") hT MJ (KI MJ hT F.entry_zip_next ?_ (F.args_zip_next_1 _))))
 show BG _ _ (M5 (.ref Z) 2 >>= _) _ _ _
 refine θ (IU eZ rfl (x:=.bool false) rfl ?_)
 show BG _ _ (M5 (.ref Z) 3 >>= _) _ _ _
 refine θ (IU eZ rfl (x:=.ref TI) rfl ?_); refine θ (KC eI rfl ?_)
 show BG _ _ (JP (.ref Z) >>= _) _ _ _
 refine θ ?_; unfold JP;refine θ (IU eZ rfl (x:=.none) rfl (Aw ?_)); simp only [if_true];refine θ (LW ?_); refine θ (IU eZ rfl (x:=.ref TO) rfl ?_);refine θ (KZ eZ (by simp) fun g1 z1 t1=>?_)
 replace z1:Mi g1 Z TI TO .ellipsis:=z1
 refine θ ?_; simp only [List.zipIdx_cons,List.zipIdx_nil,NK,List.forIn_nil]; refine θ (θ (OX ?_))
 show BG _ _ (Ih (.ref i) >>= _) _ _ _
 refine θ (xY (ei.extBut t1.extBut D.i1z) (eu.extBut t1.extBut D.l1z) hx fun g2 i2 t2=>Aw ?_);have o2:Km g2 TO a b:=t2.extBut _ _ D.TOi1 (t1.extBut _ _ D.TOz eO);refine θ (KC o2 rfl ?_); refine θ (wpAny_updateSeq_pair o2 fun g3 o3 t3=>?_)
 replace o3:Km g3 TO x b:=o3
 refine θ (wpAny_letGo (Aw ?_)); refine θ (θ (OX ?_))
 show BG _ _ (Ih (.ref j) >>= _) _ _ _
 refine θ (xY (((ej.extBut t1.extBut D.i2z).extBut t2.extBut D.i12.symm).extBut t3.extBut D.TOi2.symm) (((ev.extBut t1.extBut D.l2z).extBut t2.extBut D.l2i1).extBut t3.extBut D.l2TO) hy fun g4 j4 t4=>Aw ?_);have o4:Km g4 TO x b:=t4.extBut _ _ D.TOi2 o3;refine θ (KC o4 rfl ?_); refine θ (wpAny_updateSeq_pair o4 fun g5 o5 t5=>?_)
 replace o5:Km g5 TO x y:=o5
 refine θ (wpAny_letGo (Aw (Aw ?_))); refine θ (KC o5 rfl ?_); refine θ (wpAny_newTuple ?_);have sz:g5.objs.size=s.heap.objs.size:=by rw [t5.1,t4.1,t3.1,t2.1,t1.1]
 have z5:Mi g5 Z TI TO .ellipsis:=t5.extBut _ _ D.TOz.symm (t4.extBut _ _ D.i2z.symm (t3.extBut _ _ D.TOz.symm (t2.extBut _ _ D.i1z.symm z1)));have k5:∀ c o,c≠Z->c≠TO->c≠i->c≠j->s.heap.get? c=some o->g5.get? c=some o:=fun c o c1 c2 c3 c4 q=>t5.extBut _ _ c2 (t4.extBut _ _ c4 (t3.extBut _ _ c2 (t2.extBut _ _ c3 (t1.extBut _ _ c1 q))));have i5:g5.IsTupleIter i u (k+1):=((i2.extBut t3.extBut D.TOi1.symm).extBut t4.extBut D.i12).extBut t5.extBut D.TOi1.symm;have j5:g5.IsTupleIter j v (l+1):=j4.extBut t5.extBut D.TOi2.symm;have lz:Z<g5.objs.size:=BE z5
 show BG _ _ (K_ (.ref Z) (.ref g5.objs.size) >>= _) _ _ _
 refine θ ?_; unfold K_;have z6:Mi (g5.push { cls:=.type "tuple",data:=.seq #[x,y] }) Z TI TO .ellipsis:=Δ _ z5;refine θ (KZ z6 (by simp) fun g7 z7 t7=>?_)
 replace z7:Mi g7 Z TI TO (Kh g5.objs.size):=z7
 refine KZ z7 (by simp) fun g8 z8 t8=>?_
 replace z8:Mi g8 Z TI TO (Kh g5.objs.size):=z8
 have up:∀ c o,c≠Z->g5.get? c=some o->g8.get? c=some o:=fun c o c1 q=>t8.extBut _ _ c1 (t7.extBut _ _ c1 (Δ _ q));have n8:Km g8 g5.objs.size x y:=t8.extBut _ _ (Ka lz) (t7.extBut _ _ (Ka lz) (HE _ rfl));have s8:g8.objs.size=g5.objs.size+1:=by rw [t8.1,t7.1,JJ]
 rw [sz] at z8 n8 s8;refine Aw ⟨_,rfl,Aw ?_⟩;rw [sz];obtain ⟨oi,qi⟩:=i5;obtain ⟨oj,qj⟩:=j5;exact hQ g8 z8 (up _ _ D.TOz o5) ⟨oi,up _ _ D.i1z qi.1,qi.2⟩ ⟨oj,up _ _ D.i2z qj.1,qj.2⟩ n8 s8 fun c o c1 c2 c3 c4 q=>up c o c1 (k5 c o c1 c2 c3 c4 q)
theorem B5 {Z TI TO i j u v:ς} {k:Nat} {xs:Array η} {Q:Option η->χ->Prop} (hd0:A.handled=none) (D:NS Z TI TO i j u v)
    (eZ:Mi s.heap Z TI TO .none) (eI:Km s.heap TI (.ref i) (.ref j)) (ei:s.heap.IsTupleIter i u k) (eu:s.heap.IsTuple u xs) (hx:xs[k]?=none)
    (hQ:∀ g,(∀ c o,c≠Z->c≠TO->c≠i->c≠j->s.heap.get? c=some o->g.get? c=some o)->Q none { s with heap:=g }):BG (B_ prog w) A (OG (.ref Z)) Q E s:=by
  have hT:s.TypeIs (.ref Z) "zip":=⟨_,eZ,rfl⟩
  have body:∀ (E':η->χ->Prop) (Q':Fin->χ->Prop),(∀ g e,(∀ c o,c≠Z->c≠TO->c≠i->c≠j->s.heap.get? c=some o->g.get? c=some o)->(∃ o,g.get? e=some o/\o.cls=.type "StopIteration")->E' (.ref e) { s with heap:=g }) ->
      BG (B_ prog w) A.in1 (Mq.«zip.__next__» ⟨[.ref Z],[]⟩) Q' E' s:=fun E' Q' hE=>by
    show BG _ _ (M5 (.ref Z) 2 >>= _) _ _ _
    refine θ (IU eZ rfl (x:=.bool false) rfl ?_)
    show BG _ _ (M5 (.ref Z) 3 >>= _) _ _ _
    refine θ (IU eZ rfl (x:=.ref TI) rfl ?_); refine θ (KC eI rfl ?_)
    show BG _ _ (JP (.ref Z) >>= _) _ _ _
    refine θ ?_; unfold JP;refine θ (IU eZ rfl (x:=.none) rfl (Aw ?_)); simp only [if_true];refine θ (LW ?_); refine θ (IU eZ rfl (x:=.ref TO) rfl ?_);refine θ (KZ eZ (by simp) fun g1 z1 t1=>?_)
    replace z1:Mi g1 Z TI TO .ellipsis:=z1
    refine θ ?_; simp only [List.zipIdx_cons,List.zipIdx_nil,NK,List.forIn_nil]; refine θ (θ (OX ?_))
    show BG _ _ (Ih (.ref i) >>= _) _ _ _
    refine θ (DH hd0 (ei.extBut t1.extBut D.i1z) (eu.extBut t1.extBut D.l1z) hx fun g2 e t2 he=>?_);obtain ⟨oe,q1,q2⟩:=he;have z2:Mi g2 Z TI TO .ellipsis:=t2 _ _ D.i1z.symm z1;have ne:e≠Z:=fun q=>by subst q; rw [z2] at q1; cases q1; simp at q2
    refine KZ z2 (by simp) fun g3 _ t3=>hE g3 e (fun c o c1 _ c3 _ q=>t3.extBut _ _ c1 (t2 _ _ c3 (t1.extBut _ _ c1 q))) ⟨oe,t3.extBut _ _ ne q1,q2⟩
  unfold OG;refine θ (M4 (JY (name:=JK "__next__") hT MJ (KI MJ hT F.entry_zip_next (body _ _ fun g e hk he=>?_) (F.args_zip_next_1 _))));obtain ⟨o,q1,q2⟩:=he;exact θ (wpAny_isInstance (T:="StopIteration") (b:=true) ⟨o,q1,q2⟩ isSubtype_stop (Aw (hQ _ hk)))
end
theorem ng {h:IC} {a:ς} {its:Array η} (p:IsTup h a its):h.IsTuple a its:=p
noncomputable def B9 (K:A_) (a b:ς):It :=
  ⟨fun i H=>∃ xs ys x y,SqT K H a xs/\SqT K H b ys/\xs[i]?=some x/\ys[i]?=some y,
   fun i H v H'=>∃ T,v=.ref T/\H T=none/\∀ xs ys,SqT K H a xs->SqT K H b ys->∃ x y,xs[i]?=some x/\ys[i]?=some y/\H'=upd H T (.tup [x,y]),
   fun i H=>∃ xs ys,SqT K H a xs/\SqT K H b ys/\xs.length<=i⟩
theorem zq {P:HS} {w:ID} {K:A_} {elts:List II} {kt:Nat} {pt:J8} {a b n:ς} (ha:a<n) (hb:b<n) :
    tX P w K (.Tuple elts kt pt) (B9 K a b) [n+4,n+2,n+3,n,n+1] (n+4) (fun i h=>Mi h (n+4) (n+2) (n+3) .none/\Km h (n+2) (.ref n) (.ref (n+1))/\(∃ x y,Km h (n+3) x y)/\h.IsTupleIter n a i/\h.IsTupleIter (n+1) b i) where
  mem:=by simp
  obj:=fun i h st c hc=>by
    obtain ⟨z1,z2,⟨x,y,z3⟩,⟨o4,e4,c4,d4⟩,⟨o5,e5,c5,d5⟩⟩:=st;simp only [Ξ,HJ,or_false] at hc;rcases hc with rfl | rfl | rfl | rfl | rfl
    · exact ⟨_,z1,fun v z=>by cases z⟩
    · exact ⟨_,z2,fun v z=>by cases z⟩
    · exact ⟨_,z3,fun v z=>by cases z⟩
    · exact ⟨_,e4,fun v z=>by rw [d4] at z; cases z⟩
    · exact ⟨_,e5,fun v z=>by rw [d5] at z; cases z⟩
  keep:=fun i h h' st k=>by
    obtain ⟨z1,z2,⟨x,y,z3⟩,z4,z5⟩:=st;exact ⟨k _ (by simp) _ z1,k _ (by simp) _ z2,⟨x,y,k _ (by simp) _ z3⟩,z4.at fun o e=>k _ (by simp) o e,z5.at fun o e=>k _ (by simp) o e⟩
  item:=by
    intro X hP hw hK hc i pins s σ H E I hf st hg;subst hP hw hK;obtain ⟨xs,ys,x,y,hqa,hqb,hx,hy⟩:=hg;obtain ⟨its,rv,p,hz⟩:=I.tuple hqa;obtain ⟨jts,rw',p',hz'⟩:=I.tuple hqb;obtain ⟨u,hu,ru⟩:=rv.get hx;obtain ⟨u',hu',ru'⟩:=rw'.get hy;obtain ⟨z1,z2,⟨x0,y0,z3⟩,z4,z5⟩:=st;have D:NS (n+4) (n+2) (n+3) n (n+1) a b:=Jt ha hb;have ltz:n+4<s.heap.objs.size:=BE z1;refine zx D z1 z2 z3 z4 z5 (ng p) (ng p') (x:=u) (y:=u') (by simpa using hu) (by simpa using hu') fun h' a1 a2 a3 a4 a5 a6 hk=>?_;refine ⟨_,rfl,OT (s:={ s with heap:=h' }) a1 fun h2 b1 hs=>?_⟩;have neT:∀ {c:ς},c<=n+4->c≠s.heap.objs.size:=fun h=>Hi (HX h ltz);have kk:∀ c o,c∉[n+4,n+3,n,n+1]->s.heap.get? c=some o->h2.get? c=some o:=fun c o hc e=>by
      simp only [Ξ,HJ,or_false,not_or] at hc;exact (hs.2 c hc.1).trans (hk c o hc.1 hc.2.1 hc.2.2.1 hc.2.2.2 e)
    have q2:h2.get? (n+2)=_:=kk _ _ (by simp only [Ξ,HJ,or_false,not_or]; exact ⟨D.TIz,D.TITO,D.TIi1,D.TIi2⟩) z2;have q3:h2.get? (n+3)=_:=(hs.2 _ D.TOz).trans a2;obtain ⟨o4,e4,c4⟩:=a3;obtain ⟨o5,e5,c5⟩:=a4;have q4:h2.get? n=_:=(hs.2 _ D.i1z).trans e4;have q5:h2.get? (n+1)=_:=(hs.2 _ D.i2z).trans e5;have qT:h2.get? s.heap.objs.size=_:=(hs.2 _ (IL (neT (Ω _)))).trans a5;have Nk:∀ c∈[n+4,n+3,n,n+1],c∈[n+4,n+2,n+3,n,n+1]:=fun c hc=>by
      simp only [Ξ,HJ,or_false] at hc ⊢;rcases hc with e | e | e | e
      · exact .inl e
      · exact .inr (.inr (.inl e))
      · exact .inr (.inr (.inr (.inl e)))
      · exact .inr (.inr (.inr (.inr e)))
    have I1:Inv X pins σ (upd H s.heap.objs.size (.tup [x,y])) { s with heap:=h2,toks:=s.toks }:=I.turnedL (ch:=[n+4,n+3,n,n+1]) kk (fun c hc=>hf c (Nk c hc)) (fun c hc=>by
        simp only [Ξ,HJ,or_false] at hc;rcases hc with rfl | rfl | rfl | rfl
        · exact ⟨_,b1⟩
        · exact ⟨_,q3⟩
        · exact ⟨_,q4⟩
        · exact ⟨_,q5⟩) (Ω _) ⟨by show 2<=BC; decide,[u,u'],.cons ru (.cons ru' .nil),_,qT,rfl,_,rfl⟩
    refine ⟨.ref s.heap.objs.size,_,I1,rfl,⟨_,rfl,I.hok.fresh (Ω _),fun vs ws hv hw=>?_⟩,⟨b1,q2,⟨_,_,q3⟩,⟨_,q4,c4⟩,⟨_,q5,c5⟩⟩,fun c hc=>?_⟩
    · rw [I.tuple_inj hv hqa,I.tuple_inj hw hqb]
      exact ⟨x,y,hx,hy,rfl⟩
    · have hle:c<=n+4:=by
        simp only [Ξ,HJ,or_false] at hc;rcases hc with rfl | rfl | rfl | rfl | rfl
        · exact Ω _
        · exact C_ (n+2) 2
        · exact C_ (n+3) 1
        · exact C_ _ 4
        · exact C_ (n+1) 3
      rw [aE (neT hle)];exact (hf c hc).1
  done:=by
    intro X hP hw hK hc i pins s σ H E I hf st hg;subst hP hw hK;obtain ⟨xs,ys,hqa,hqb,hl⟩:=hg;obtain ⟨its,rv,p,hz⟩:=I.tuple hqa;obtain ⟨jts,rw',p',hz'⟩:=I.tuple hqb;obtain ⟨z1,z2,⟨x0,y0,z3⟩,z4,z5⟩:=st;have D:NS (n+4) (n+2) (n+3) n (n+1) a b:=Jt ha hb;have l1:=rv.length;have l2:=rw'.length;refine B5 (I.ok.hd hc) D z1 z2 z4 (ng p) ?_ fun h' hk=>⟨rfl,?_⟩
    · simp; omega
    · have fp:∀ c∈[n+4,n+3,n,n+1],jz X pins H c:=fun c hc=>hf c (by
        simp only [Ξ,HJ,or_false] at hc ⊢;rcases hc with e | e | e | e
        · exact .inl e
        · exact .inr (.inr (.inl e))
        · exact .inr (.inr (.inr (.inl e)))
        · exact .inr (.inr (.inr (.inr e))))
      have kk:∀ c o,c∉[n+4,n+3,n,n+1]->s.heap.get? c=some o->h'.get? c=some o:=fun c o hc e=>by
        simp only [Ξ,HJ,or_false,not_or] at hc;exact hk c o hc.1 hc.2.1 hc.2.2.1 hc.2.2.2 e
      have nit:∀ c u,H c=some u->c∉[n+4,n+3,n,n+1]:=fun c u e z=>by rw [(fp c z).1] at e; cases e
      refine I.step (g':=s.gens) (d':=s.drawn) (t':=s.toks) (ch:=[n+4,n+3,n,n+1]) (fun c hc=>⟨(fp c hc).2.2.2.1,(fp c hc).2.1,(fp c hc).2.2.2.2.1,(fp c hc).2.2.2.2.2⟩) (fun c o _ _ hc e _=>kk c o hc e) (fun c o _ _ hc e _=>⟨o.slots,kk c o hc e⟩) (fun _ _ _ _ n=>n)
        (fun c o hc e=>⟨o,kk c o hc e⟩) (fun _ _ e=>e) (fun _ _ _ e=>e) (fun _ ps e=>⟨#[],by rw [e]; simp⟩) (fun m hm=>?_) (fun c u e=>?_) I.bare
      · obtain ⟨ob,es,ep,ho,r⟩:=hm
        exact ⟨ob,es,ep,kk _ ob (fun z=>(fp _ z).2.1 rfl) ho,r⟩
      · refine (I.hok c u e).stay (fun d v hd q=>kk d v ?_ q) (fun _ e'=>e') fun _ _ e'=>e'
        rcases hd with z | z
        · rw [z]; exact nit c u e
        · exact nit d _ z
  self:=fun _ _ _ _ _ st h=>L6 st.1 h
section
variable {prog:HS} {w:ID} {A:IA} {E:η->χ->Prop} {s:χ}
noncomputable abbrev zT1 (h:IC) (u:ς):Heap:=h.push { cls:=.type "tuple_iterator",data:=.fields #[.ref u,.int 0 0] }
noncomputable abbrev zT2 (h:IC) (u v:ς):Heap:=(zT1 h u).push { cls:=.type "tuple_iterator",data:=.fields #[.ref v,.int 0 0] }
noncomputable abbrev zT3 (h:IC) (u v:ς):Heap:=(zT2 h u v).push { cls:=.type "tuple",data:=.seq #[.ref h.objs.size,.ref (zT1 h u).objs.size] }
noncomputable abbrev zT4 (h:IC) (u v:ς):Heap:=(zT3 h u v).push { cls:=.type "tuple",data:=.seq #[.none,.none] }
noncomputable abbrev zT5 (h:IC) (u v:ς):Heap:=(zT4 h u v).push { cls:=.type "zip",data:=.fields #[.none,.bool false,.bool false,.ref (zT2 h u v).objs.size,.ref (zT3 h u v).objs.size] }
theorem B6 (u v:ς) (xs ys:Array η):Meets (Mq.«zip.__new__» ⟨[.type "zip",.ref u,.ref v],[]⟩) (fun _ R s=>s.heap.IsTuple u xs/\s.heap.IsTuple v ys/\R (.ok (.ret (.ref (zT4 s.heap u v).objs.size))) { s with heap:=zT5 s.heap u v }) :=
 .of_wp fun prog w A R s h=>by
  obtain ⟨hp,g,d,tk,os⟩:=s; obtain ⟨t1,t2,q⟩:=h;have sz:=sub_zip;have L1:Heap.IsTuple (Shared.heap ⟨hp,g,d,tk,os⟩) u xs:=t1;have L2:Heap.IsTuple (Shared.heap ⟨hp.push { cls:=.type "tuple_iterator",data:=.fields #[.ref u,.int 0 0] },g,d,tk,os⟩) v ys:=Heap.IsTuple.push t2 _
  wp_walk using LX L1,LX L2
  exact ⟨_,rfl,q⟩
theorem zw {u v:ς} {xs ys:Array η} {Q:η->χ->Prop} (t1:s.heap.IsTuple u xs) (t2:s.heap.IsTuple v ys)
  (q:∀ g,Mi g (s.heap.objs.size+4) (s.heap.objs.size+2) (s.heap.objs.size+3) .none->Km g (s.heap.objs.size+2) (.ref s.heap.objs.size) (.ref (s.heap.objs.size+1))->Km g (s.heap.objs.size+3) .none .none ->
   g.IsTupleIter s.heap.objs.size u 0->g.IsTupleIter (s.heap.objs.size+1) v 0->(∀ c o,s.heap.get? c=some o->g.get? c=some o)->Q (.ref (s.heap.objs.size+4)) { s with heap:=g }) :
  BG (B_ prog w) A (call (.type "zip") [.ref u,.ref v]) Q E s:=by
 refine callType_new F.called_zip (by decide) (F.typeCall_zip_2 _ _) (F.newCall_zip_2 _ _) (fun obj=>F.args_object_init_3 obj _ _) F.entry_zip_new (B6 u v xs ys) ⟨t1,t2,?_⟩;have y1:(zT1 s.heap u).objs.size=s.heap.objs.size+1:=JJ ..;have y2:(zT2 s.heap u v).objs.size=s.heap.objs.size+2:=by rw [JJ,y1]
 have y3:(zT3 s.heap u v).objs.size=s.heap.objs.size+3:=by rw [JJ,y2]
 have y4:(zT4 s.heap u v).objs.size=s.heap.objs.size+4:=by rw [JJ,y3]
 have k5:(zT5 s.heap u v).get? (zT4 s.heap u v).objs.size=some _:=HE _ rfl;have k4:(zT5 s.heap u v).get? (zT3 s.heap u v).objs.size=some _:=Δ _ (HE _ rfl);have k3:(zT5 s.heap u v).get? (zT2 s.heap u v).objs.size=some _:=Δ _ (Δ _ (HE _ rfl));have k2:(zT5 s.heap u v).get? (zT1 s.heap u).objs.size=some _:=Δ _ (Δ _ (Δ _ (HE _ rfl)));have k1:(zT5 s.heap u v).get? s.heap.objs.size=some _:=Δ _ (Δ _ (Δ _ (Δ _ (HE _ rfl))))
 show _/\_
 rw [y2,y3,y4] at k5;rw [y1,y2] at k3;rw [y3] at k4;rw [y1] at k2;refine ⟨by rw [y4]; exact ⟨_,k5,rfl⟩,?_⟩;rw [y4];exact q _ k5 k3 k4 ⟨_,k1,rfl,rfl⟩ ⟨_,k2,rfl,rfl⟩ fun c o z=>Δ _ (Δ _ (Δ _ (Δ _ (Δ _ z))))
end
section
variable {X:Cx} {elts:List II} {kt:Nat} {pt:J8}
def DT (K:A_) (ta:TA):TI:=fun σ H R=>ta σ H fun vs H1=>∃ a b,vs=[.ref a,.ref b]/\(((∃ xs,SqL K H1 a xs)/\(∃ ys,SqL K H1 b ys)/\R (Itz K a b) H1)\/((∃ xs,SqT K H1 a xs)/\(∃ ys,SqT K H1 b ys)/\R (B9 K a b) H1))
theorem CI {a b:II} {ta:TA} {p pos:J8} (hg:Gl X "zip") (hm:X.mg "zip"=none) (ha:PA X [a,b] ta) (hs:D_ [a,b] X.env=[(false,Ip a X.env),(false,Ip b X.env)]:=by rfl) (hs2:D_ [b] X.env=[(false,Ip b X.env)]:=by rfl) :
  PI X (.Tuple elts kt pt) (.Call (.Name "zip" p) [a,b] [] pos) (DT X.K ta):=by
 intro pins s σ H R I h;refine Call_ (lB I hg hm (by rfl:IM "zip"=some (.type "zip")) (Jm (thn (ha pos pins s σ H _ I h) fun us s1 ⟨vs,H1,I1,r1,q1⟩=>?_) (by rw [hs,hs2]) (by rw [hs2]; rfl)));obtain ⟨a,b,e,q⟩:=q1;subst e;obtain ⟨u,v,rfl,ru,rv⟩:=r1.two
 cases (show u=Bl a from ru)
 cases (show v=Bl b from rv)
 rcases q with ⟨⟨xs,ha⟩,⟨ys,hb⟩,q⟩ | ⟨⟨xs,ha⟩,⟨ys,hb⟩,q⟩
 ·obtain ⟨its,_,p1,_⟩:=I1.list ha;obtain ⟨jts,_,p2,_⟩:=I1.list hb;have l1:a<s1.heap.objs.size:=let ⟨o,ho,_⟩:=p1.isList; BE ho;have l2:b<s1.heap.objs.size:=let ⟨o,ho,_⟩:=p2.isList; BE ho;refine call_zip_2 p1.isList p2.isList fun h' hz hTI hTO h1 h2 hsz hk=>L6 (s:={ s1 with heap:=h' }) hz ?_;refine ⟨s1.heap.objs.size+4,_,_,_,H1,rfl,I1.kept (t':=s1.toks) hk,BZ l1 l2,⟨hz,hTI,⟨_,_,hTO⟩,h1,h2⟩,fun c hc=>?_,q⟩
  have hle:s1.heap.objs.size<=c:=by
   simp only [Ξ,HJ,or_false] at hc;rcases hc with rfl | rfl | rfl | rfl | rfl
   ·exact C_ _ _
   ·exact C_ _ _
   ·exact C_ _ _
   ·exact Ω _
   ·exact C_ _ _
  exact I1.fpOk hle (I1.hok.fresh hle)
 ·obtain ⟨its,_,p1,_⟩:=I1.tuple ha;obtain ⟨jts,_,p2,_⟩:=I1.tuple hb;have l1:a<s1.heap.objs.size:=let ⟨o,ho,_⟩:=ng p1; BE ho;have l2:b<s1.heap.objs.size:=let ⟨o,ho,_⟩:=ng p2; BE ho;refine zw (ng p1) (ng p2) fun h' hz hTI hTO h1 h2 hk=>L6 (s:={ s1 with heap:=h' }) hz ?_;refine ⟨s1.heap.objs.size+4,_,_,_,H1,rfl,I1.kept (t':=s1.toks) hk,zq l1 l2,⟨hz,hTI,⟨_,_,hTO⟩,h1,h2⟩,fun c hc=>?_,q⟩
  have hle:s1.heap.objs.size<=c:=by
   simp only [Ξ,HJ,or_false] at hc;rcases hc with rfl | rfl | rfl | rfl | rfl
   ·exact C_ _ _
   ·exact C_ _ _
   ·exact C_ _ _
   ·exact Ω _
   ·exact C_ _ _
  exact I1.fpOk hle (I1.hok.fresh hle)
end
theorem A6 {K:A_} {σ:St} {H:Hp} {ta:TA} {R:It->Hp->Prop} (h:ta σ H fun vs H1=>∃ a b,vs=[.ref a,.ref b]/\(((∃ xs,SqL K H1 a xs)/\(∃ ys,SqL K H1 b ys)/\R (Itz K a b) H1)\/((∃ xs,SqT K H1 a xs)/\(∃ ys,SqT K H1 b ys)/\R (B9 K a b) H1))):DT K ta σ H R:=h
theorem vL {K:A_} {σ:St} {H:Hp} {Q:VK} {te:TE} {l a b:ς} {xs ys:List V} (F:Nat->V) (hx:H a=some (.tup xs)) (hy:H b=some (.tup ys)) (he:xs.length=ys.length) (hz:xs.length<=1000) (hl:H l=none)
  (step:∀ (i:Nat) x y H' (Q':VK),xs[i]?=some x->ys[i]?=some y->ai H H'->(∀ H5,ai H' H5->Q' (F i) H5)->te [some x,some y] H' Q')
  (fin:∀ H',ai H H'->H' l=some (.lst ((Io xs.length).map F))->Q (.ref l) H'):jD (B9 K a b) (Ac K 2 (qf (eB 0) (qf (eB 1) Cq))) jI te [none,none] l σ H Q:=by
 refine ⟨xs.length,fun i zs σ' H'=>zs=(Io i).map F/\(∃ o o',σ'=[o,o'])/\ai H H'/\H' l=some (.lst zs),⟨rfl,⟨none,none,rfl⟩,ai.new hl,af⟩,?_,?_⟩
 ·rintro i zs σ' H' hi ⟨rfl,⟨o,o',rfl⟩,s,e⟩;refine ⟨⟨xs,ys,xs[i],ys[i]'(by omega),SqT.of (s _ _ hx),SqT.of (s _ _ hy),by simp [hi],by simp⟩,fun v H2 z=>?_⟩;obtain ⟨T,rfl,hT,z⟩:=z;obtain ⟨x,y,ex,ey,rfl⟩:=z xs ys (SqT.of (s _ _ hx)) (SqT.of (s _ _ hy));have sT:=ai.new (o:=HO.tup [x,y]) hT;refine gZ af rfl (iM (dO (iM (dO (rP (fk (pe ?_)))))));refine step i x y _ _ ex ey (s.trans sT) fun H5 s5=>⟨s5 _ _ (sT _ _ e),?_,?_⟩
  ·rw [ξ,KU];exact aQ (by omega)
  ·refine ⟨?_,⟨_,_,rfl⟩,((s.trans sT).trans s5).later hl,af⟩;rw [Lv,HN];rfl
 ·rintro zs σ' H' ⟨rfl,_,s,e⟩;exact ⟨⟨xs,ys,SqT.of (s _ _ hx),SqT.of (s _ _ hy),Ω _⟩,fin H' s e⟩
theorem vN {xs:List V} {k:Nat}:cg xs none (some (k:Int))=xs.take k:=by
 unfold cg;rw [HT.kQ,HT.mL,KY,Mv];rcases Mx k xs.length with h | h
 ·rw [Kx h]
 ·rw [Ll h,Hr (Ω _),Hr h]
theorem vM {xs:List V} {k:Nat}:cg xs (some (k:Int)) none=xs.drop k:=by
 unfold cg;rw [HT.kQ,HT.mL];rcases Mx k xs.length with h | h
 ·rw [Kx h,Hr (by rw [IG]; omega)]
 ·rw [Ll h,OA h,Mw,ME]
def xF:V->List V->Hp->VK->Prop:=fun x vs H Q=>∃ l xs y,∃ k:Nat,x=.ref l/\vs=[.int (k:Int),y]/\H l=some (.lst xs)/\k<=xs.length/\xs.length<=1000/\Q .non (upd H l (.lst (xs.take k++y::xs.drop k)))
theorem Ct (its:List η) (w:η) (k:Nat) (h:k<=its.length):(its.toArray.extract 0 (min k its.toArray.size)).push w++its.toArray.extract (min k its.toArray.size)=(its.take k++w::its.drop k).toArray:=by
 rw [HH,Kx h];apply Array.ext';simp
 exact Hr (by rw [IG]; omega)
theorem yF {X:Cx}:MtM X "list.insert" xF:=by
 intro pins s σ H x vs v us Q I rx rv h;obtain ⟨l,xs,y,k,rfl,rfl,hH,hk,hz,q⟩:=h
 cases rx;obtain ⟨u,w,rfl,ru,rw'⟩:=rv.two;obtain ⟨tk,rfl⟩:=ru;obtain ⟨z,its,n,r,hl,e⟩:=I.lstM hH;obtain ⟨i,hi⟩:∃ i:Int,i=(k:Int):=⟨_,rfl⟩
 rw [<- hi]
 have hf:¬ (!Builtin.List.listFitsIndex i)=true:=by
  have:=fitsIndex_both (k:=i) (by omega) (by omega)
  rw [this]; decide
 have hs:its.toArray.size<=sizeLine:=by rw [HH]; omega
 have M:=PySem.AutoListH.list_insert_list_int_val_1 l its.toArray n i tk w hf hs;have hA:=F.args_list_insert_3 (.ref l) (.int i tk) w;refine La F.slot_list_insert ⟨_,e,rfl⟩ F.entry_list_insert hA M ⟨e,?_⟩;refine ⟨.non,_,I.lset (its':=its.take k++w::its.drop k) hH e ?_ ((r.take k).append (.cons rw' (r.drop k))) ?_,rfl,q⟩
 ·have ik:(if i<0 then (i+((its.toArray.size:Nat):Int)).toNat else min i.toNat its.toArray.size)=min k its.toArray.size:=by rw [if_neg (by omega),hi,G_]
  show ((its.toArray.extract 0 (if i<0 then (i+((its.toArray.size:Nat):Int)).toNat else min i.toNat its.toArray.size)).push w++its.toArray.extract (if i<0 then (i+((its.toArray.size:Nat):Int)).toNat else min i.toNat its.toArray.size))=_
  rw [ik];exact Ct its w k (by omega)
 ·rw [Av,Hw,HM,IG];have:(1001:Nat)<=sizeLine:=by decide
  omega
def DY:List V->Hp->VK->Prop:=fun xs H Q=>∃ i j,xs=[.int i,.int j]/\Q (.int (if j > i then j else i)) H
theorem w6 {X:Cx} (hc:X.calm=true):b9 X (.builtin "max") DY:=yf hc
theorem Df {H:Hp} {Q:VK} {i j:Int} (q:Q (.int (if j > i then j else i)) H):DY [.int i,.int j] H Q:=⟨i,j,rfl,q⟩
theorem yW {H:Hp} {Q:VK} {l:ς} {xs:List V} {y:V} {k:Nat} (h:H l=some (.lst xs)) (hk:k<=xs.length) (hz:xs.length<=1000) (q:Q .non (upd H l (.lst (xs.take k++y::xs.drop k)))):xF (.ref l) [.int (k:Int),y] H Q :=
 ⟨l,xs,y,k,rfl,rfl,h,hk,hz,q⟩
theorem Ba {H:Hp} {Q:VK} {l:ς} {xs:List V} {y:V} {k:Nat} (h:H l=some (.lst xs)) (hy:xs[k]?=some y) (hz:xs.length<=1000) (q:Q y (upd H l (.lst (xs.eraseIdx k)))):AQ (.ref l) [.int (k:Int)] H Q:=by
 have hk:=(F_.mp hy).1;exact ⟨l,xs,(k:Int),k,y,rfl,rfl,h,by omega,by omega,(rf (n:=xs.length) (i:=(k:Int)) (j:=k) (by unfold ixN; rw [if_pos (by omega),if_pos (by omega),G_])).1,hy,q⟩
noncomputable def Ite (K:A_) (a:ς):It :=
  ⟨fun i H=>∃ xs x,SqL K H a xs/\xs[i]?=some x,
   fun i H v H'=>∃ T,v=.ref T/\H T=none/\∀ xs,SqL K H a xs->∃ x,xs[i]?=some x/\H'=upd H T (.tup [.int (i:Nat),x]),
   fun i H=>∃ xs,SqL K H a xs/\xs.length<=i⟩
theorem zl {P:HS} {w:ID} {K:A_} {elts:List II} {kt:Nat} {pt:J8} {a n:ς} (ha:a<n) :
    tX P w K (.Tuple elts kt pt) (Ite K a) [n+1,n] (n+1) (fun i h=>(∃ old,IsEnum h (n+1) n ((i:Nat):Int) old)/\h.IsListIter n a i) where
  mem:=by simp
  obj:=fun i h st c hc=>by
    obtain ⟨⟨old,z1⟩,⟨o4,e4,c4,d4⟩⟩:=st;simp only [Ξ,HJ,or_false] at hc;rcases hc with rfl | rfl
    · exact ⟨_,z1,fun v z=>by cases z⟩
    · exact ⟨_,e4,fun v z=>by rw [d4] at z; cases z⟩
  keep:=fun i h h' st k=>by
    obtain ⟨⟨old,z1⟩,z4⟩:=st;exact ⟨⟨old,k _ (by simp) _ z1⟩,z4.at fun o e=>k _ (by simp) o e⟩
  item:=by
    intro X hP hw hK hc i pins s σ H E I hf st hg;subst hP hw hK;obtain ⟨xs,x,hqa,hx⟩:=hg;obtain ⟨its,rv,p,hz⟩:=I.list hqa;obtain ⟨u,hu,ru⟩:=rv.get hx;obtain ⟨⟨old,z1⟩,z4⟩:=st;have ltz:n+1<s.heap.objs.size:=BE z1;have nn:n+1≠n:=Nat.succ_ne_self n;refine wpAny_pyNext_enum_item z1 z4 p.isList (x:=u) (by simpa using hu) nn fun h' a1 a2 a3 a4 hk=>?_;refine ⟨_,rfl,wpAny_letOwnedTupleGo_enum (s:={ s with heap:=h',toks:=s.toks+1 }) a1 fun h2 b1 hs=>?_⟩;have neT:∀ {c:ς},c<=n+1->c≠s.heap.objs.size:=fun h=>Hi (HX h ltz);have kk:∀ c o,c∉[n+1,n]->s.heap.get? c=some o->h2.get? c=some o:=fun c o hc e=>by
      simp only [Ξ,HJ,or_false,not_or] at hc;exact (hs.2 c hc.1).trans (hk c o hc.1 hc.2 e)
    obtain ⟨o4,e4,c4⟩:=a2;have q4:h2.get? n=_:=(hs.2 _ (IL nn)).trans e4;have qT:h2.get? s.heap.objs.size=_:=(hs.2 _ (IL (neT (Ω _)))).trans a3;have I1:Inv X pins σ (upd H s.heap.objs.size (.tup [.int (i:Nat),x])) { s with heap:=h2,toks:=s.toks+1 }:=I.turnedL (ch:=[n+1,n]) kk hf (fun c hc=>by
        simp only [Ξ,HJ,or_false] at hc;rcases hc with rfl | rfl
        · exact ⟨_,b1⟩
        · exact ⟨_,q4⟩) (Ω _) ⟨by show 2<=BC; decide,[.int (i:Nat) s.toks,u],.cons ⟨_,rfl⟩ (.cons ru .nil),_,qT,rfl,_,rfl⟩
    refine ⟨.ref s.heap.objs.size,_,I1,rfl,⟨_,rfl,I.hok.fresh (Ω _),fun vs hv=>?_⟩,⟨⟨_,b1⟩,⟨_,q4,c4⟩⟩,fun c hc=>?_⟩
    · rw [I.list_inj hv hqa]
      exact ⟨x,hx,rfl⟩
    · have hle:c<=n+1:=by
        simp only [Ξ,HJ,or_false] at hc;rcases hc with rfl | rfl
        · exact Ω _
        · exact C_ _ 1
      rw [aE (neT hle)];exact (hf c hc).1
  done:=by
    intro X hP hw hK hc i pins s σ H E I hf st hg;subst hP hw hK;obtain ⟨xs,hqa,hl⟩:=hg;obtain ⟨its,rv,p,hz⟩:=I.list hqa;obtain ⟨⟨old,z1⟩,z4⟩:=st;have l1:=rv.length;refine wpAny_pyNext_enum_end (I.ok.hd hc) z1 z4 p.isList (by simp; omega) fun h' hk=>⟨rfl,?_⟩
    have kk:∀ c o,c∉[n+1,n]->s.heap.get? c=some o->h'.get? c=some o:=fun c o hc e=>by
      simp only [Ξ,HJ,or_false,not_or] at hc;exact hk c o hc.2 e
    have nit:∀ c u,H c=some u->c∉[n+1,n]:=fun c u e z=>by rw [(hf c z).1] at e; cases e
    refine I.step (g':=s.gens) (d':=s.drawn) (t':=s.toks) (ch:=[n+1,n]) (fun c hc=>⟨(hf c hc).2.2.2.1,(hf c hc).2.1,(hf c hc).2.2.2.2.1,(hf c hc).2.2.2.2.2⟩) (fun c o _ _ hc e _=>kk c o hc e) (fun c o _ _ hc e _=>⟨o.slots,kk c o hc e⟩) (fun _ _ _ _ n=>n)
      (fun c o hc e=>⟨o,kk c o hc e⟩) (fun _ _ e=>e) (fun _ _ _ e=>e) (fun _ ps e=>⟨#[],by rw [e]; simp⟩) (fun m hm=>?_) (fun c u e=>?_) I.bare
    · obtain ⟨ob,es,ep,ho,r⟩:=hm
      exact ⟨ob,es,ep,kk _ ob (fun z=>(hf _ z).2.1 rfl) ho,r⟩
    · refine (I.hok c u e).stay (fun d v hd q=>kk d v ?_ q) (fun _ e'=>e') fun _ _ e'=>e'
      rcases hd with z | z
      · rw [z]; exact nit c u e
      · exact nit d _ z
  self:=fun _ _ _ _ _ st h=>let ⟨⟨_,z⟩,_⟩:=st; wpAny_pyIter_enum z h
section
variable {X:Cx} {elts:List II} {kt:Nat} {pt:J8}
def DO (K:A_) (ta:TA):TI:=fun σ H R=>ta σ H fun vs H1=>∃ a,vs=[.ref a]/\(∃ xs,SqL K H1 a xs)/\R (Ite K a) H1
theorem CG {a:II} {ta:TA} {p pos:J8} (hg:Gl X "enumerate") (hm:X.mg "enumerate"=none) (ha:PA X [a] ta) (hs:D_ [a] X.env=[(false,Ip a X.env)]:=by rfl) :
  PI X (.Tuple elts kt pt) (.Call (.Name "enumerate" p) [a] [] pos) (DO X.K ta):=by
 intro pins s σ H R I h;refine Call_ (lB I hg hm (by rfl:IM "enumerate"=some (.type "enumerate")) (Jm (thn (ha pos pins s σ H _ I h) fun us s1 ⟨vs,H1,I1,r1,q1⟩=>?_) hs rfl));obtain ⟨a,e,⟨xs,ha⟩,q⟩:=q1;subst e;obtain ⟨u,rfl,ru⟩:=r1.one
 cases (show u=Bl a from ru)
 obtain ⟨its,_,p1,_⟩:=I1.list ha;have l1:a<s1.heap.objs.size:=let ⟨o,ho,_⟩:=p1.isList; BE ho;refine call_enumerate_list p1.isList fun h' hz h1 hsz hk=>wpAny_pyIter_enum (s:={ s1 with heap:=h' }) hz ?_;refine ⟨s1.heap.objs.size+1,_,_,_,H1,rfl,I1.kept (t':=s1.toks) hk,zl l1,⟨⟨_,hz⟩,h1⟩,fun c hc=>?_,q⟩
 have hle:s1.heap.objs.size<=c:=by
  simp only [Ξ,HJ,or_false] at hc;rcases hc with rfl | rfl
  ·exact C_ _ _
  ·exact Ω _
 exact I1.fpOk hle (I1.hok.fresh hle)
end
theorem u5 {K:A_} {ta:TA} {σ:St} {H:Hp} {R:It->Hp->Prop} (h:ta σ H fun vs H1=>∃ a,vs=[.ref a]/\(∃ xs,SqL K H1 a xs)/\R (Ite K a) H1):DO K ta σ H R:=h
theorem yo {K:A_} {σ:St} {H:Hp} {a:ς} {xs:List V} {g:TG} {tb:TS} {D:dn} (Pv:Nat->St->Hp->Prop) (h0:Pv 0 σ H) (hl:∀ i σ H,i<=xs.length->Pv i σ H->SqL K H a xs)
  (hs:∀ i x σ H T,xs[i]?=some x->Pv i σ H->H T=none->g (.ref T) σ (upd H T (.tup [.int (i:Nat),x])) fun σ2 H2=>tb { D with nx:=Pv (i+1),ct:=Pv (i+1),bk:=D.nx } σ2 H2) (hd:∀ σ H,Pv xs.length σ H->D.nx σ H):zB (Ite K a) g tb D σ H:=by
 refine ⟨fun i m σ H=>i<=xs.length/\m=xs.length - i/\Pv i σ H,⟨_,Hs _,rfl,h0⟩,fun i m σ H ⟨hi,hm,p⟩=>?_⟩;by_cases h:i<xs.length
 ·refine .inr ⟨⟨xs,xs[i],hl i σ H hi p,by simp [h]⟩,Pv (i+1),fun σ' H' p'=>⟨xs.length - (i+1),by omega,by omega,rfl,p'⟩,fun x H' y=>?_⟩;obtain ⟨T,rfl,hT,y⟩:=y;obtain ⟨x,hx,rfl⟩:=y xs (hl i σ H hi p);exact hs i x σ H T hx p hT
 ·have e:i=xs.length:=by omega
  subst e;exact .inl ⟨⟨xs,hl _ σ H hi p,Ω _⟩,hd σ H p⟩
end L2
open PySem PySem.Spec PyProof.Rows
namespace L2
structure DL (K:A_) (C:ς) (m:Str) (f:ς):Prop where
 ga:Kw K (.ref C) "__getattribute__"=some (some (.builtin "type.__getattribute__"))
 rd:W.readsIn K C (.type "type")=true
 at_:W.findCls K (.ref C) (.type "type") m=some (.val (.ref f))
 kp:Ke K (.ref f)=true
section
variable {X:Cx} {CX:CXT} {k:Nat} {f C:ς} {fd:IJ} {ps:List Str} {sp:Sp} {dvs:List V} {ds:List η} {E:XK} {x m:Str} {p pos apos:J8} {e o:II} {es:List II} {ta:TE} {t:TA}
theorem AD {pl:LL Bool} (hg:Gl X x) (hm:X.mg x=some (.ref C)) (c:DL X.K C m f) (F:aR X.prog X.w X.K X.mg X.base CX k f fd ps sp) (hr:cM k X.A) (hb:aJ X.K fd ps ds) (hd:bq dvs ds) (hx:fx CX X E) (ha:PA X (e::es) t)
  (hdb:(x==("__debug__":Str))=false:=by decide)
  (hst:D_ (e::es) X.env=(false,Ip e X.env)::D_ es X.env:=by rfl) (hpl:(JD pos (D_ es X.env)).any (·.1)=false:=by rfl)
  (ht:Ip (.Call (.Attribute (.Name x p) m apos) (e::es) [] pos) X.env=(do
   let ov <- Ip (.Name x p) X.env
   Mm apos.atName
   let (f,first) <- Lo [ov] (LP ov m pl)
   Mc pos f first (JD pos (D_ (e::es) X.env)) (Lc pos (KG [] X.env))):=by rfl) :
  PE X (.Call (.Attribute (.Name x p) m apos) (e::es) [] pos) (xT sp dvs E t):=by
 intro pins s σ H Q I h;refine KP (pl:=pl) (thn ((dv (v:=.ref C) hg hm rfl hdb) pins s σ H (fun x H1=>x=.ref C/\H1=H) I ⟨rfl,rfl⟩) fun u s1 ⟨x,H1,I1,rx,ex,eh⟩=>?_) ht;subst ex; subst eh;obtain rfl:u=Bl C:=rx
 refine W.method_cls I1.kIn c.ga (W.cls_value I1.kIn c.rd c.at_ rfl ?_);have I2:=I1.tok (s1.toks+1);refine Js (first:=[]) (h₀:=X.base) I.ok.mod.kin c.kp (thn (ha pos pins _ σ H1 _ I2 h) fun us s2 ⟨vs,H2,I3,r,q2⟩=>⟨I3.kIn,?_⟩) hst hpl;exact rV (us:=us) (vs:=vs) F hr hb hd hx I3 r q2
end
theorem aF {X:Cx} {s:Kf} {ss:List Kf} {r:TS} {C:TS->Prop} (d:PS X s r) (k:∀ r',r'=r->∃ ts,PSs X ss ts/\C (DG r' ts)):∃ ts,PSs X (s::ss) ts/\C ts :=
 let ⟨_,h1,h2⟩:=k r rfl
 ⟨_,aH d h1,h2⟩
theorem cH {X:Cx} {s:Kf} {r:TS} {C:TS->Prop} (d:PS X s r) (k:∀ r',r'=r->C r'):∃ ts,PSs X [s] ts/\C ts:=⟨_,aj d,k r rfl⟩
theorem E6 {r r':TS} {D:dn} {σ:St} {H:Hp} (e:r'=r) (h:r D σ H):r' D σ H:=e ▸ h
theorem rQ {t u:TS} {D:dn} {σ:St} {H:Hp} (k:∀ u',u'=u->t { D with nx:=u' D } σ H):DG t u D σ H:=k u rfl
theorem F4 {us:List η} (h:us.length=1):∃ a0,us=[a0]:=match us,h with | [a0],_=>⟨a0,rfl⟩
theorem F5 {us:List η} (h:us.length=2):∃ a0 a1,us=[a0,a1]:=by
 cases us with
 | nil=>cases h
 | cons a0 us =>
  obtain ⟨a1,rfl⟩:=F4 (LR h);exact ⟨a0,a1,rfl⟩
theorem F6 {us:List η} (h:us.length=3):∃ a0 a1 a2,us=[a0,a1,a2]:=by
 cases us with
 | nil=>cases h
 | cons a0 us =>
  obtain ⟨a1,a2,rfl⟩:=F5 (LR h);exact ⟨a0,a1,a2,rfl⟩
theorem F7 {us:List η} (h:us.length=4):∃ a0 a1 a2 a3,us=[a0,a1,a2,a3]:=by
 cases us with
 | nil=>cases h
 | cons a0 us =>
  obtain ⟨a1,a2,a3,rfl⟩:=F6 (LR h);exact ⟨a0,a1,a2,a3,rfl⟩
theorem G7 {us:List η} (h:us.length=5):∃ a0 a1 a2 a3 a4,us=[a0,a1,a2,a3,a4]:=by
 cases us with
 | nil=>cases h
 | cons a0 us =>
  obtain ⟨a1,a2,a3,a4,rfl⟩:=F7 (LR h);exact ⟨a0,a1,a2,a3,a4,rfl⟩
section
variable {κ:Type} [DecidableEq κ]
noncomputable def eX (kvs:List (κ×V)) (k:κ):Option V:=(kvs.find? fun kv=>decide (kv.1=k)).map (·.2)
noncomputable def cJ (kvs:List (κ×V)) (k:κ) (v:V):List (κ×V) :=
 if (kvs.any fun kv=>decide (kv.1=k))=true then kvs.map (fun kv=>if kv.1=k then (kv.1,v) else kv) else kvs++[(k,v)]
noncomputable def fe (kvs:List (κ×V)) (k:κ):List (κ×V):=kvs.filter fun kv=>decide (kv.1≠k)
theorem ji {p:κ×V} {r:List (κ×V)} {k:κ} (e:p.1=k):eX (p::r) k=some p.2:=by simp [eX,Jf,e]
theorem jh {p:κ×V} {r:List (κ×V)} {k:κ} (e:¬ p.1=k):eX (p::r) k=eX r k:=by simp [eX,Jf,e]
theorem vC (k:κ):∀ kvs:List (κ×V),(kvs.any fun kv=>decide (kv.1=k))=(eX kvs k).isSome
 | []=>rfl
 | p::r=>by
  rw [Jk];by_cases e:p.1=k
  ·simp only [ji e,decide_eq_true e,Bool.true_or,JC]
  ·rw [jh e,decide_eq_false e,N4]; exact vC k r
theorem lW (kvs:List (κ×V)) (k:κ) (v:V):(cJ kvs k v).length<=kvs.length+1:=by
 unfold cJ
 split
 ·rw [ξ]; omega
 ·rw [Av,HM,NJ]; omega
theorem gz.isSome_eq {o:Option V} {u:Option η} (r:gz o u):o.isSome=u.isSome:=by
 cases o with
 | none=>cases u with
  | none => rfl
  | some _ => exact (show False from r).elim
 | some _=>cases u with
  | none => exact (show False from r).elim
  | some _ => rfl
theorem KV.val {kvs:List (κ×V)} {vs:List (κ×η)} (r:KV kvs vs) (k:κ):gz (eX kvs k) (Ml vs k):=by
 unfold KV at r
 induction r with
 | nil=>exact JI
 | @cons p q ps qs h t ih =>
  obtain ⟨h1,h2⟩:=h;by_cases e:p.1=k
  ·have e':q.1=k:=h1.symm.trans e;have b:Ml (q::qs) k=some q.2:=by simp [Ml,Jf,e']
   rw [ji e,b]; exact h2
  ·have e':¬ q.1=k:=fun z=>e (h1.trans z);have b:Ml (q::qs) k=Ml qs k:=by simp [Ml,Jf,e']
   rw [jh e,b]; exact ih
theorem KV.any {kvs:List (κ×V)} {vs:List (κ×η)} (r:KV kvs vs) (k:κ):(kvs.any fun kv=>decide (kv.1=k))=vs.any fun kv=>decide (kv.1=k):=by
 unfold KV at r
 induction r with
 | nil=>rfl
 | cons h t ih=>rw [Jk,Jk,ih,h.1]
theorem KV.repl {kvs:List (κ×V)} {vs:List (κ×η)} (r:KV kvs vs) (k:κ) {y:V} {u:η} (ry:bF y u) :
  KV (kvs.map fun kv=>if kv.1=k then (kv.1,y) else kv) (vs.map fun kv=>if kv.1=k then (kv.1,u) else kv):=by
 unfold KV at r ⊢
 induction r with
 | nil=>exact .nil
 | @cons p q ps qs h t ih =>
  rw [Ho,Ho];refine .cons ?_ ih;obtain ⟨h1,h2⟩:=h;by_cases e:p.1=k
  ·rw [if_pos e,if_pos (h1.symm.trans e)]; exact ⟨h1,ry⟩
  ·rw [if_neg e,if_neg (fun z=>e (h1.trans z))]; exact ⟨h1,h2⟩
theorem KV.put {kvs:List (κ×V)} {vs:List (κ×η)} (r:KV kvs vs) (k:κ) {y:V} {u:η} (ry:bF y u):KV (cJ kvs k y) (stored vs k u):=by
 unfold cJ stored;rw [r.any k];by_cases e:(vs.any fun kv=>decide (kv.1=k))=true
 ·rw [if_pos e,if_pos e]; exact r.repl k ry
 ·rw [if_neg e,if_neg e]; exact Paired.snoc r ⟨rfl,ry⟩
theorem KV.drop {kvs:List (κ×V)} {vs:List (κ×η)} (r:KV kvs vs) (k:κ):KV (fe kvs k) (without vs k):=by
 unfold KV at r ⊢;unfold fe without
 induction r with
 | nil=>exact .nil
 | @cons p q ps qs h t ih =>
  obtain ⟨h1,h2⟩:=h;rw [List.filter_cons,List.filter_cons];by_cases e:p.1=k
  ·have a:¬ decide (p.1≠k)=true:=by simp [e]
   have b:¬ decide (q.1≠k)=true:=by simp [h1.symm.trans e]
   rw [if_neg a,if_neg b]; exact ih
  ·have e':¬ q.1=k:=fun z=>e (h1.trans z);have a:decide (p.1≠k)=true:=by simp [e]
   have b:decide (q.1≠k)=true:=by simp [e']
   rw [if_pos a,if_pos b]; exact .cons ⟨h1,h2⟩ ih
theorem KV.length {kvs:List (κ×V)} {vs:List (κ×η)} (r:KV kvs vs):kvs.length=vs.length:=Paired.length r
theorem zX (kvs:List (κ×V)) (k:κ):(fe kvs k).length<=kvs.length:=L5 _ _
end
theorem qo {P:HS} {w:ID} {k:Key} {u:η} (r:bF (kV k) u):(cL P w).is k u=true:=by
 cases k with
 | inl i=>obtain ⟨t,e⟩:=(show ∃ t,u=MD i t from r); subst e; exact uJ P w i t
 | inr x=>obtain ⟨t,e⟩:=(show ∃ t,u=K0 x t from r); subst e; exact uK P w x t
theorem ql {P:HS} {w:ID}:∀ {ks:List Key} {us:List η},bq (ks.map kV) us->ItemsAre (cL P w) ks us
 | [],_,r=>by rw [Mp] at r; cases r; exact .nil
 | k::ks,_,r=>by
  rw [Ho] at r
  cases r with
  | cons h t => exact .cons (qo h) (ql t)
abbrev KT (H:Hp):List (List Key×V)->List (List Key×ς×η)->Prop:=Paired fun p q=>p.1=q.1/\H q.2.1=some (.tup (p.1.map kV))/\bF p.2 q.2.2
theorem KT.val {H:Hp} {kvs:List (List Key×V)} {xs:List (List Key×ς×η)} (r:KT H kvs xs) (k:List Key):gz (eX kvs k) ((OH xs k).map (·.2)):=by
 induction r with
 | nil=>exact JI
 | @cons p q ps qs h t ih =>
  obtain ⟨h1,_,h2⟩:=h;by_cases e:p.1=k
  ·have e':q.1=k:=h1.symm.trans e;have b:OH (q::qs) k=some q.2:=by simp [OH,Jf,e']
   rw [ji e,b]; exact h2
  ·have e':¬ q.1=k:=fun z=>e (h1.trans z);have b:OH (q::qs) k=OH qs k:=by simp [OH,Jf,e']
   rw [jh e,b]; exact ih
theorem KT.repl {H:Hp} {kvs:List (List Key×V)} {xs:List (List Key×ς×η)} (r:KT H kvs xs) (k:List Key) {y:V} {u:η} (ry:bF y u) :
  KT H (kvs.map fun kv=>if kv.1=k then (kv.1,y) else kv) (xs.map (putAt k u)):=by
 induction r with
 | nil=>exact .nil
 | @cons p q ps qs h t ih =>
  rw [Ho,Ho];refine .cons ?_ ih;obtain ⟨h1,h2,h3⟩:=h;unfold putAt;by_cases e:p.1=k
  ·rw [if_pos e,if_pos (h1.symm.trans e)]; exact ⟨h1,h2,ry⟩
  ·rw [if_neg e,if_neg (fun z=>e (h1.trans z))]; exact ⟨h1,h2,h3⟩
theorem KT.put {H:Hp} {kvs:List (List Key×V)} {xs:List (List Key×ς×η)} (r:KT H kvs xs) (k:List Key) {b:ς} {y:V} {u:η} (hb:H b=some (.tup (k.map kV))) (ry:bF y u) :
  KT H (cJ kvs k y) (storedH xs k b u):=by
 have e:(kvs.any fun kv=>decide (kv.1=k))=(OH xs k).isSome:=by
  rw [vC,(r.val k).isSome_eq,MW]
 unfold cJ storedH;rw [e];by_cases q:(OH xs k).isSome=true
 ·rw [if_pos q,if_pos q]; exact r.repl k ry
 ·rw [if_neg q,if_neg q]; exact Paired.snoc r ⟨rfl,hb,ry⟩
theorem KT.keeps {H H':Hp} {kvs:List (List Key×V)} {xs:List (List Key×ς×η)} (r:KT H kvs xs) (ht:∀ b ys,H b=some (.tup ys)->H' b=some (.tup ys)):KT H' kvs xs :=
 Paired.mapP r fun _ _ z=>⟨z.1,ht _ _ z.2.1,z.2.2⟩
section
variable {P:HS} {w:ID} {H:Hp} {h:IC} {a:ς}
theorem D1 {u:HO} (ok:HOk P w H h) (e:Rd H a u):bP P w H h a u:=e.ok ok
theorem mX {kvs:List (Key×V)} (ok:HOk P w H h) (e:Rd H a (.dK kvs)):kvs.length<=BC/\(a==KD)=false/\∃ vs,KV kvs vs/\h.DictOf (cL P w) a vs :=
 show bP P w H h a (.dK kvs) from D1 ok e
theorem xh {kvs:List (Key×V)} (ok:HOk P w H h) (e:H a=some (.dK kvs)):kvs.length<=BC/\(a==KD)=false/\∃ vs,KV kvs vs/\h.DictOf (cL P w) a vs:=mX ok (.inl e)
theorem nj {ks:List Key} (ok:HOk P w H h) (e:H a=some (.tup (ks.map kV))):(Nj (cL P w)).is h ks a:=by
 obtain ⟨_,its,r,o,h1,h2,n,h3⟩:=(show bP P w H h a (.tup (ks.map kV)) from ok a _ e)
 exact ⟨o,its.toArray,n,h1,h2,h3,by simpa using ql r⟩
theorem qc {kvs:List (List Key×V)} (ok:HOk P w H h) (e:Rd H a (.dT kvs)):kvs.length<=BC/\(a==KD)=false /\
  ∃ xs,KT H kvs xs/\h.DictOfH (Nj (cL P w)) a xs:=by
 obtain ⟨z,y,xs,r,o,es,ep,h1,h2,h3,h4,h5⟩:=(show bP P w H h a (.dT kvs) from D1 ok e)
 refine ⟨z,y,xs,r,o,es,ep,h1,h2,h3,h4,fun x hx=>?_,h5⟩
 have all:∀ {l:List (List Key×V)} {m:List (List Key×ς×η)},KT H l m->∀ x∈m,(Nj (cL P w)).is h x.1 x.2.1:=by
  intro l m q
  induction q with
  | nil => intro x hx; exact nomatch hx
  | @cons p q ps qs hq t ih =>
   intro x hx;rcases Ξ.mp hx with e | hx
   ·subst e;exact nj ok (by rw [<- hq.1]; exact hq.2.1)
   ·exact ih x hx
 exact all r x hx
theorem FZ {kvs:List (List Key×V)} (ok:HOk P w H h) (e:H a=some (.dT kvs)):kvs.length<=BC/\(a==KD)=false /\
  ∃ xs,KT H kvs xs/\h.DictOfH (Nj (cL P w)) a xs:=qc ok (.inl e)
end
def dP (H:Hp) (a:ς) (y:V) (r:Option V):Prop :=
 (∃ kvs k,Rd H a (.dK kvs)/\y=kV k/\r=eX kvs k)\/∃ kvs k b,Rd H a (.dT kvs)/\y=.ref b/\H b=some (.tup (k.map kV))/\r=eX kvs k
def jJ (H:Hp) (a:ς) (y v:V) (H':Hp):Prop :=
 (∃ kvs k,H a=some (.dK kvs)/\y=kV k/\kvs.length<BC/\H'=upd H a (.dK (cJ kvs k v))) \/
 ∃ kvs k b,H a=some (.dT kvs)/\y=.ref b/\H b=some (.tup (k.map kV))/\kvs.length<BC/\H'=upd H a (.dT (cJ kvs k v))
theorem dP.k {H:Hp} {a:ς} {kvs:List (Key×V)} {k:Key} (e:H a=some (.dK kvs)):dP H a (kV k) (eX kvs k):=.inl ⟨kvs,k,.inl e,rfl,rfl⟩
theorem jJ.k {H:Hp} {a:ς} {kvs:List (Key×V)} {k:Key} {v:V} (e:H a=some (.dK kvs)) (hl:kvs.length<BC):jJ H a (kV k) v (upd H a (.dK (cJ kvs k v))):=.inl ⟨kvs,k,e,rfl,hl,rfl⟩
section
variable {X:Cx} {pins:List (ς×Iz)} {σ:St} {H:Hp} {s:χ} {a:ς} {y v:V} {u r:η} {o:Option V} {A:IA} {E:η->χ->Prop}
theorem Inv.big (I:Inv X pins σ H s):KD<s.heap.objs.size:=by
 have h:JQ<s.heap.objs.size:=(I.mod.glob.keeps I.bk).lt;exact Nat.lt_trans (by decide) h
theorem yj {Q:η->χ->Prop} (hu:A.units+1<L_) (I:Inv X pins σ H s) (g:dP H a y (some v)) (ry:bF y u) (h:∀ w' s',Inv X pins σ H s'->bF v w'->Q w' s') :
  BG (B_ X.prog X.w) A (Lp (.ref a) u) Q E s:=by
 rcases g with ⟨kvs,k,e,ey,l⟩ | ⟨kvs,k,b,e,ey,eb,l⟩
 ·subst ey;obtain ⟨z,hd,vs,rel,dd⟩:=mX I.hok e;obtain ⟨w',hw,rw'⟩:=gz.some_of (v:=v) (o:=Ml vs k) (by rw [l]; exact rel.val k);exact wpAny_getItem_of (qo ry) dd.mapOf hw (h w' _ (I.tok _) rw')
 ·subst ey
  cases (show u=Bl b from ry)
  obtain ⟨z,hd,xs,rel,dd⟩:=qc I.hok e;obtain ⟨w',hw,rw'⟩:=gz.some_of (v:=v) (o:=(OH xs k).map (·.2)) (by rw [l]; exact rel.val k);obtain ⟨p,hp,hp2⟩:=JW.mp hw;refine wpAny_getItem_heap (LZ hu) (nj I.hok eb) dd hp ?_;rw [hp2];exact h w' _ (I.tok _) rw'
theorem G2 {Q:η->χ->Prop} (hu:A.units+1<L_) (I:Inv X pins σ H s) (g:dP H a y o) (ry:bF y u) (h:∀ s',Inv X pins σ H s'->Q (.bool o.isSome) s') :
  BG (B_ X.prog X.w) A (Ie .In u (.ref a)) Q E s:=by
 rcases g with ⟨kvs,k,e,ey,l⟩ | ⟨kvs,k,b,e,ey,eb,l⟩
 ·subst ey;obtain ⟨z,hd,vs,rel,dd⟩:=mX I.hok e;refine wpAny_in_of (qo ry) hd dd.mapOf ?_;rw [<- (rel.val k).isSome_eq,<- l];exact h _ (I.tok _)
 ·subst ey
  cases (show u=Bl b from ry)
  obtain ⟨z,hd,xs,rel,dd⟩:=qc I.hok e;refine wpAny_in_heap (LZ hu) (nj I.hok eb) hd dd ?_;have q:=(rel.val k).isSome_eq;rw [MW] at q;rw [<- q,<- l];exact h _ (I.tok _)
theorem Ci {Q:η->χ->Prop} (hu:A.units+1<L_) (I:Inv X pins σ H s) (g:dP H a y o) (ry:bF y u) (h:∀ s',Inv X pins σ H s'->Q (.bool (!o.isSome)) s') :
  BG (B_ X.prog X.w) A (Ie .NotIn u (.ref a)) Q E s:=by
 rcases g with ⟨kvs,k,e,ey,l⟩ | ⟨kvs,k,b,e,ey,eb,l⟩
 ·subst ey;obtain ⟨z,hd,vs,rel,dd⟩:=mX I.hok e;refine wpAny_notIn_of (qo ry) hd dd.mapOf ?_;rw [<- (rel.val k).isSome_eq,<- l];exact h _ (I.tok _)
 ·subst ey
  cases (show u=Bl b from ry)
  obtain ⟨z,hd,xs,rel,dd⟩:=qc I.hok e;refine wpAny_notIn_heap (LZ hu) (nj I.hok eb) hd dd ?_;have q:=(rel.val k).isSome_eq;rw [MW] at q;rw [<- q,<- l];exact h _ (I.tok _)
theorem qS {h':IC} {t':Nat} {ob:HO} (I:Inv X pins σ H s) (mu:Mut (H a)) (hs:Jj a s.heap h') (he:∃ q,h'.get? a=some q) (new:bP X.prog X.w (upd H a ob) h' a ob) :
  Inv X pins σ (upd H a ob) { s with heap:=h',toks:=t' } :=
 I.write (x:=a) (e:=a) mu (.inl rfl) (fun b q hb z=>(hs.2 b hb).trans z) he new
theorem zW {P:HS} {w:ID} {H':Hp} {h':IC} {kvs:List (Key×V)} {vs:List (Key×η)} (z:kvs.length<=BC) (hd:(a==KD)=false) (rel:KV kvs vs) (dd:h'.DictOf (cL P w) a vs) :
  bP P w H' h' a (.dK kvs):=⟨z,hd,vs,rel,dd⟩
theorem yk {H':Hp} {Q:Unit->χ->Prop} (hu:A.units+1<L_) (I:Inv X pins σ H s) (g:jJ H a y v H') (ry:bF y u) (rv:bF v r) (h:∀ s',Inv X pins σ H' s'->Q () s') :
  BG (B_ X.prog X.w) A (setItem (.ref a) u r) Q E s:=by
 rcases g with ⟨kvs,k,e,ey,l,eH⟩ | ⟨kvs,k,b,e,ey,eb,l,eH⟩
 ·subst ey eH;obtain ⟨z,hd,vs,rel,dd⟩:=xh I.hok e;have hz:vs.length<=sizeLine:=by rw [<- rel.length]; exact z
  have hl:(cJ kvs k v).length<=sizeLine:=by have:=lW kvs k v; omega
  refine wpAny_setItem_pairs (hsz:=hz) (qo ry) dd fun h' dd' hs=>h _ ?_;have he:∃ q,h'.get? a=some q:=let ⟨q,_,_,hq,_⟩:=dd'; ⟨q,hq⟩;exact qS I (by rw [e]; exact JI) hs he (zW hl hd (rel.put k rv) dd')
 ·subst ey eH
  cases (show u=Bl b from ry)
  obtain ⟨z,hd,xs,rel,dd⟩:=FZ I.hok e;have hz:xs.length<=sizeLine:=by rw [<- Paired.length rel]; exact z
  have hl:(cJ kvs k v).length<=sizeLine:=by have:=lW kvs k v; omega
  refine wpAny_setItem_heap (hsz:=hz) (LZ hu) (nj I.hok eb) dd fun h' dd' hs=>h _ ?_;obtain ⟨q,es,ep,hq,h2,h3,h4,_,h5⟩:=dd';refine qS I (by rw [e]; exact JI) hs ⟨q,hq⟩ ⟨hl,hd,_,(rel.put k eb rv).keeps fun c ys ec=>?_,q,es,ep,hq,h2,h3,h4,h5⟩;rw [aE (iD ec e (fun z=>nomatch z))];exact ec
end
section
variable {X:Cx} {pins:List (ς×Iz)} {σ:St} {H:Hp} {s:χ} {a:ς} {kvs:List (Key×V)} {k:Key} {u:η} {A:IA} {E:η->χ->Prop}
theorem FY {v:V} {more:List η} {Q:η->χ->Prop} (I:Inv X pins σ H s) (e:H a=some (.dK kvs)) (ry:bF (kV k) u) (l:eX kvs k=some v) (hm:more=[]\/∃ x,more=[x])
  (h:∀ w' s',Inv X pins σ (upd H a (.dK (fe kvs k))) s'->bF v w'->Q w' s'):BG (B_ X.prog X.w) A (call (.builtin "dict.pop") (.ref a::u::more)) Q E s:=by
 obtain ⟨z,hd,vs,rel,dd⟩:=xh I.hok e;obtain ⟨w',hw,rw'⟩:=gz.some_of (v:=v) (o:=Ml vs k) (by rw [<- l]; exact rel.val k)
 have hp:(keyPart u).isSome=true:=by
  cases k with
  | inl i => obtain ⟨t, q⟩ := (show ∃ t, u = MD i t from ry); subst q; rfl
  | inr x => obtain ⟨t, q⟩ := (show ∃ t, u = K0 x t from ry); subst q; rfl
 have ha:argsOk "dict.pop" ⟨.ref a::u::more,[]⟩:=by
  rcases hm with q | ⟨x,q⟩
  ·subst q; exact PySem.F.args_dict_pop_2 _ _
  ·subst q; exact PySem.F.args_dict_pop_3 _ _ _
 refine call_meetsIn Nx dd.typeIs PySem.F.entry_dict_pop ha (meets_dict_pop_there (cL X.prog X.w) a (qo ry) more hm hp)
  ⟨vs,w',dd,by rw [<- rel.length]; exact z,hw,fun h' dd' hs=>h w' _ ?_ rw'⟩
 have he:∃ q,h'.get? a=some q:=let ⟨q,_,_,hq,_⟩:=dd'; ⟨q,hq⟩;exact qS I (by rw [e]; exact JI) hs he (zW (BA (zX kvs k) z) hd (rel.drop k) dd')
theorem FX {Q:η->χ->Prop} (I:Inv X pins σ H s) (e:Rd H a (.dK kvs)) (h:∀ t s',Inv X pins σ H s'->Q (.int kvs.length t) s'):BG (B_ X.prog X.w) A (call (.builtin "len") [.ref a]) Q E s:=by
 obtain ⟨z,hd,vs,rel,dd⟩:=mX I.hok e;refine call_len_dict hd dd (by rw [<- rel.length]; rw [K4] at z; omega) ?_;rw [<- rel.length];exact h _ _ (I.tok _)
end
def FH (i:II):Prop:=∀ ov iv,Nr i false ov iv=operate [ov,iv] (Lp ov iv)
theorem DE {prog:HS} {w:ID} {A:IA} {E:η->χ->Prop} {s:χ} {env:LU} {value slice:II} {pos:J8} {T id:String} {Q:η->χ->Prop}
  (hl:typeLookup (.type T) "__getitem__"=pure (some (.builtin id))) (hs:FH slice)
  (h:BG (B_ prog w) A (Ip value env) (fun o s₁=>BG (B_ prog w) A (Ip slice env) (fun i s₂=>s₂.TypeIs o T/\BG (B_ prog w) A (Lp o i) Q E s₂) E s₁) E s) :
  BG (B_ prog w) A (Ip (.Subscript value slice pos) env) Q E s:=by
 refine Subscript_ (Hq h (fun o s₁ h₁=>Hq h₁ (fun i s₂ h₂=>?_) fun _ _ x=>x) fun _ _ x=>x);obtain ⟨hT,h₂⟩:=h₂;unfold OZ;refine θ ?_;rw [getitemInPython_of_ne hT.not_modules];refine θ (wpAny_specialOf hT hl ?_)
 have fin:BG (B_ prog w) A (Nr slice false o i) (fun r s₃=>BG (B_ prog w) A (letTemporaryGo value o r >>= fun _=>pure r) Q E s₃) E s₂:=by
  rw [hs o i];exact wpAny_operating (Hq h₂ (fun r s₃ h₃=>θ (wpAny_letTemporaryGo (Aw h₃))) fun _ _ x=>x)
 first
  | exact Aw (θ fin)
  | exact θ (Aw (θ fin))
  | exact θ fin
theorem uo {X:Cx} {pins:List (ς×Iz)} {σ:St} {H:Hp} {s:χ} {a:ς} {y:V} {o:Option V} (I:Inv X pins σ H s) (g:dP H a y o):s.TypeIs (.ref a) "dict":=by
 rcases g with ⟨kvs,k,e,_,_⟩ | ⟨kvs,k,b,e,_,_,_⟩
 ·obtain ⟨_,_,vs,_,dd⟩:=mX I.hok e;exact dd.typeIs
 ·obtain ⟨_,_,xs,_,dd⟩:=qc I.hok e;exact dd.typeIs
def D7 (td ty:TE):TE:=fun σ H Q=>td σ H fun x H1=>ty σ H1 fun y H2=>∃ a v,x=.ref a/\dP H2 a y (some v)/\Q v H2
def GJ (ty td:TE):TE:=fun σ H Q=>ty σ H fun y H1=>td σ H1 fun x H2=>∃ a o,x=.ref a/\dP H2 a y o/\Q (.bl o.isSome) H2
def xV (ty td:TE):TE:=fun σ H Q=>ty σ H fun y H1=>td σ H1 fun x H2=>∃ a o,x=.ref a/\dP H2 a y o/\Q (.bl (!o.isSome)) H2
def D2 (td ty tv:TE):TS:=fun D σ H=>tv σ H fun v H1=>td σ H1 fun x H2=>ty σ H2 fun y H3=>∃ a H4,x=.ref a/\jJ H3 a y v H4/\D.nx σ H4
section
variable {X:Cx} {o i e value:II} {pos pos' tpos:J8} {td ty tv:TE}
theorem gY (hu:X.A.units+1<L_) (ho:PE X o td) (hi:PE X i ty) (hs:FH i):PE X (.Subscript o i pos) (D7 td ty):=by
 intro pins s σ H Q I h;refine DE PySem.F.slot_dict_getitem.lookup hs (thn (ho pins s σ H _ I h) fun u s1 ⟨x,H1,I1,rx,q1⟩=>thn (hi pins s1 σ H1 _ I1 q1) fun iv s2 ⟨y,H2,I2,ry,a,v,ex,g,q2⟩=>?_);subst ex;obtain rfl:u=Bl a:=rx
 exact ⟨uo I2 g,yj hu I2 g ry fun w' s3 I3 rw'=>⟨v,H2,I3,rw',q2⟩⟩
theorem we (hu:X.A.units+1<L_) (hi:PE X i ty) (ho:PE X o td):PC X .In i o (GJ ty td):=by
 intro pins s σ H Q I h;refine thn (hi pins s σ H _ I h) fun iv s1 ⟨y,H1,I1,ry,q1⟩=>thn (ho pins s1 σ H1 _ I1 q1) fun u s2 ⟨x,H2,I2,rx,a,ov,ex,g,q2⟩=>?_;subst ex;obtain rfl:u=Bl a:=rx
 exact G2 hu I2 g ry fun s3 I3=>⟨.bl ov.isSome,H2,I3,rfl,q2⟩
theorem gH (hu:X.A.units+1<L_) (hi:PE X i ty) (ho:PE X o td):PC X .NotIn i o (xV ty td):=by
 intro pins s σ H Q I h;refine thn (hi pins s σ H _ I h) fun iv s1 ⟨y,H1,I1,ry,q1⟩=>thn (ho pins s1 σ H1 _ I1 q1) fun u s2 ⟨x,H2,I2,rx,a,ov,ex,g,q2⟩=>?_;subst ex;obtain rfl:u=Bl a:=rx
 exact Ci hu I2 g ry fun s3 I3=>⟨.bl (!ov.isSome),H2,I3,rfl,q2⟩
theorem eN (hu:X.A.units+1<L_) (ho:PE X o td) (hi:PE X i ty) (hv:PE X value tv) (hs:L7 value (some (.Subscript o i pos')) pos.line X.env=pure false) :
  PS X (.Assign [.Subscript o i pos'] value pos) (D2 td ty tv):=by
 intro pins s σ H D I h;refine wpAny_Assign_Subscript (thn (hv pins s σ H _ I h) fun r s1 ⟨v,H1,I1,rv,q1⟩=>thn (ho pins s1 σ H1 _ I1 q1) fun u s2 ⟨x,H2,I2,rx,q2⟩=>thn (hi pins s2 σ H2 _ I2 q2) fun iv s3 ⟨y,H3,I3,ry,a,H4,ex,g,q3⟩=>?_) hs;subst ex;obtain rfl:u=Bl a:=rx
 exact yk hu I3 g ry rv fun s4 I4=>⟨σ,H4,I4,q3⟩
end
theorem zV {P:HS} {w:ID} {H:Hp} (h:IC) (hb:KD<h.objs.size):bP P w H (h.push { cls:=.type "dict",data:=.dict #[] }) h.objs.size (.dK []) :=
 ⟨Hs _,beq_eq_false_iff_ne.mpr (IL (Hi hb)),[],.nil,Heap.DictOf.new h⟩
def BM:TE:=fun _ H Q=>∀ p,H p=none->Q (.ref p) (upd H p (.dK []))
section
variable {X:Cx} {pos:J8}
theorem uT:PE X (.Dict [] [] pos) BM:=fun pins s σ H Q I h =>
 wpAny_Dict_empty ⟨.ref s.heap.objs.size,_,I.laid (a:=s.heap.objs.size) (o:=.dK []) (t':=s.toks) (fun _ _ q=>Δ _ q) (Ω _) (zV s.heap I.big),rfl,h _ (I.hok.fresh (Ω _))⟩
end
structure M1 (X:Cx) (o:II) (m:Str) (apos:J8) (e:II) (cpos:J8):Prop where
 base:Kz o m X.env (Ip o X.env)=Ip o X.env
 few:((JD cpos (D_ [e] X.env)).all (fun x=>!x.1)&&(Lc cpos (KG [] X.env)).all (fun x=>x.1.isSome)
  && decide (([e]:List II).length+([]:List OB).length+(if ([]:List OB).isEmpty then 0 else 1)<30))=true
 line:(apos.endLine==cpos.line)=true
 trees:JD cpos (D_ [e] X.env)=[(false,Ip e X.env)]
def IsD (H:Hp) (a:ς):Prop:=(∃ kvs,Rd H a (.dK kvs))\/∃ kvs,Rd H a (.dT kvs)
theorem Es {X:Cx} {pins:List (ς×Iz)} {σ:St} {H:Hp} {s:χ} {a:ς} (I:Inv X pins σ H s) (d:IsD H a) :
  s.TypeIs (.ref a) "dict"/\(∀ b,Bl a=.ref b->∃ ob,s.heap.get? b=some ob/\ob.dict=none)/\(a==KD)=false:=by
 rcases d with ⟨kvs,e⟩ | ⟨kvs,e⟩
 ·obtain ⟨_,hd,vs,_,dd⟩:=mX I.hok e;refine ⟨dd.typeIs,fun b q=>?_,hd⟩
  cases q;obtain ⟨ob,_,_,h1,h2,_⟩:=dd;exact ⟨ob,h1,h2.2.1⟩
 ·obtain ⟨_,hd,xs,_,dd⟩:=qc I.hok e;refine ⟨dd.typeIs,fun b q=>?_,hd⟩
  cases q;obtain ⟨ob,_,_,h1,h2,_⟩:=dd;exact ⟨ob,h1,h2.2.1⟩
def BO (td ty:TE):TE:=fun σ H Q=>td σ H fun x H1=>∃ a,x=.ref a/\IsD H1 a/\ty σ H1 fun y H2=>∃ kvs k v,H2 a=some (.dK kvs)/\y=kV k/\eX kvs k=some v/\Q v (upd H2 a (.dK (fe kvs k)))
section
variable {X:Cx} {o e f:II} {apos cpos:J8} {td ty tx:TE}
theorem uU (ho:PE X o td) (he:PE X e ty) (m:M1 X o "pop" apos e cpos):PE X (.Call (.Attribute o "pop" apos) [e] [] cpos) (BO td ty):=by
 intro pins s σ H Q I h;refine wpAny_Call_method m.base m.few m.line PySem.F.plainAttrs_dict Nx PySem.F.type_dict_pop (thn (ho pins s σ H _ I h) fun u s1 ⟨x,H1,I1,rx,a,ex,d,q1⟩=>?_);subst ex;obtain rfl:u=Bl a:=rx
 obtain ⟨t1,t2,_⟩:=Es I1 d;refine ⟨t1,t2,?_⟩;rw [m.trees];refine Lm rfl (J2 (Oe (thn (he pins s1 σ H1 _ I1 q1) fun iv s2 ⟨y,H2,I2,ry,kvs,k,v,ea,ey,l,q2⟩=>Oz ?_)));subst ey;exact FY I2 ea ry l (.inl rfl) fun w' s3 I3 rw'=>⟨v,_,I3,rw',q2⟩
end
theorem C3 {td ty tv:TE} {D:dn} {σ:St} {H:Hp} (h:tv σ H fun v H1=>td σ H1 fun x H2=>ty σ H2 fun y H3=>∃ a H4,x=.ref a/\jJ H3 a y v H4/\D.nx σ H4):D2 td ty tv D σ H:=h
theorem E7 {ty td:TE} {σ:St} {H:Hp} {Q:VK} (h:ty σ H fun y H1=>td σ H1 fun x H2=>∃ a o,x=.ref a/\dP H2 a y o/\Q (.bl o.isSome) H2):GJ ty td σ H Q:=h
theorem yU {ty td:TE} {σ:St} {H:Hp} {Q:VK} (h:ty σ H fun y H1=>td σ H1 fun x H2=>∃ a o,x=.ref a/\dP H2 a y o/\Q (.bl (!o.isSome)) H2):xV ty td σ H Q:=h
end L2
namespace Ts
open PySem PyProof.Rows
def Le (lt:Mh->Mh->Bool) (x y:Mh):Prop:=lt y x=false
end Ts
namespace Ts
open PySem PyProof.Rows
end Ts
namespace Ts
open PySem PyProof.Rows
end Ts
namespace Ts
open PySem PyProof.Rows
end Ts
namespace Ts
open PySem PyProof.Rows
noncomputable def seg (xs:Array Mh) (i n:Nat):List Keyed:=(xs.toList.drop i).take n
section
variable {M:MN} {A:IA} {E:η->χ->Prop} {s:χ}
def Chg (xs ys:Array Mh) (i n:Nat) (m:List Mh):Prop:=m.Perm (seg xs i n)/\ys.toList=xs.toList.take i++m++xs.toList.drop (i+n)
end
end Ts
namespace Ts
open PySem PyProof.Rows
noncomputable def at' (xs:Array Mh) (i:Nat):Keyed:=(xs[i]?).getD (.none,.none)
end Ts
namespace Ts
open PySem PyProof.Rows
end Ts
namespace Ts
open PySem PyProof.Rows
def FJ (lt:Mh->Mh->Bool) (xs:Array Mh):Nat->List (Nat×Nat)->Nat->Prop
 | i,[],hi=>i=hi
 | i,(s,n)::ps,hi=>s=i/\1<=n/\(seg xs s n).Pairwise (Le lt)/\FJ lt xs (i+n) ps hi
noncomputable def kys (p:Array (Nat×Nat×Nat)):List (Nat×Nat):=p.toList.map fun q=>(q.1,q.2.1)
section
variable {M:MN} {A:IA} {E:η->χ->Prop} {s:χ}
structure Inv (κ:SortKind) (lt:Mh->Mh->Bool) (a0:Array Mh) (st:SortSt) (lo:Nat):Prop where
 kind:Ku st=κ
 failed:failedOf st=none
 perm:(arrOf st).Perm a0
 runs:FJ lt (arrOf st) 0 (kys (pendingOf st)) lo
end
end Ts
namespace Ts
open PySem PyProof.Rows PySem.W
end Ts
namespace L2
open PySem PySem.Spec PyProof.Rows
end L2
namespace Sm
noncomputable abbrev Pnt:=Int×Int
noncomputable def fin:Pnt->Pnt->List Pnt->Pnt×Pnt
 | a,b,[]=>(a,b)
 | _,b,c::l=>fin b c l
end Sm
namespace Sm
end Sm
namespace Ts
open PySem PyProof.Rows PySem.W
end Ts
namespace L2
open PySem PySem.Spec PyProof.Rows
section
variable {K:A_} {σ:St} {H:Hp} {Q:VK} {te:TE} {tt:TT} {cap:List (Option Nat)} {l:ς}
theorem vK {a:ς} {xs:List V} (F:V->V) (p:V->Bool) (hs:SqL K H a xs) (hz:xs.length<=5000) (hl:H l=none)
    (test:∀ x o H' (Q':Bool->Hp->Prop),x∈xs->ai H H'->(∀ H5,ai H' H5->Q' (p x) H5)->tt (((gh (none::cap) σ).set 0 o).set 0 (some x)) H' Q')
    (step:∀ x o H' (Q':VK),x∈xs->p x=true->ai H H'->(∀ H5,ai H' H5->Q' (F x) H5)->te (((gh (none::cap) σ).set 0 o).set 0 (some x)) H' Q')
    (fin:∀ H',ai H H'->H' l=some (.lst ((xs.filter p).map F))->Q (.ref l) H'):jD (Itl K a) (eB 0) tt te (none::cap) l σ H Q:=by
  refine ⟨xs.length,fun i ys σ' H'=>ys=((xs.take i).filter p).map F/\(∃ o,σ'=(gh (none::cap) σ).set 0 o)/\ai H H'/\H' l=some (.lst ys),⟨rfl,⟨none,rfl⟩,ai.new hl,af⟩,?_,?_⟩
  · rintro i ys σ' H' hi ⟨rfl,⟨o,rfl⟩,s,e⟩
    refine ⟨⟨xs,xs[i],s.seq hs,by simp [hi]⟩,fun x H2 y=>?_⟩;obtain ⟨e2,y⟩:=y;subst e2;have hx:=y xs (s.seq hs)
    have tk:((xs.take (i+1)).filter p).map F=((xs.take i).filter p).map F++(if p x=true then [F x] else []):=by
      rw [Jx,hx,List.filter_append,HN]
      congr 1
      cases hp:p x<;>simp [hp]
    refine dO (test x o H2 _ (H_ hx) s fun H5 s5=>?_);by_cases hp:p x=true
    · rw [if_pos hp]
      rw [if_pos hp] at tk;refine step x o H5 _ (H_ hx) hp (s.trans s5) fun H6 s6=>⟨s6 _ _ (s5 _ _ e),?_,?_⟩
      · have:(((xs.take i).filter p).map F).length<=xs.length:=by
          rw [ξ];exact BA (L5 _ _) (by rw [Hw]; omega)
        exact HX (BA this hz) (by decide)
      · exact ⟨tk.symm,⟨_,J6 ..⟩,((s.trans s5).trans s6).later hl,af⟩
    · rw [if_neg hp]
      rw [if_neg hp,Kr] at tk;exact ⟨tk.symm,⟨_,J6 ..⟩,s.trans s5,s5 _ _ e⟩
  · rintro ys σ' H' ⟨rfl,_,s,e⟩
    rw [Hr (Ω _)] at e;exact ⟨⟨xs,s.seq hs,Ω _⟩,fin H' s e⟩
end
end L2
namespace L2
open PySem PySem.Spec PyProof.Rows PySem.W
theorem Am {κ:Type}:∀ {kvs:List (κ×V)} {vs:List (κ×η)} {i:Nat} {k:κ} {u:η},KV kvs vs->vs[i]?=some (k,u)->∃ x,kvs[i]?=some (k,x)/\bF x u
 | _,_,_,_,_,.nil,e=>by simp at e
 | _,_,0,k,u,.cons (a:=p) r t,e=>by
  (simp only [List.getElem?_cons_zero,Option.some.injEq] at e; subst e)
  exact ⟨p.2,congrArg some (Prod.ext r.1 rfl),r.2⟩
 | _,_,i+1,k,u,.cons r t,e=>by
  obtain ⟨x,h1,h2⟩:=Am (i:=i) t (by simpa using e);exact ⟨x,by simpa using h1,h2⟩
def Gi:R2:=fun x y H Q=>∃ (ds:List JB) (d:JB),Rep H (.list ds) y/\Rep H d x/\Ju ds=true/\d.canLay0=true/\d.depth<=60/\Q (.bl (ds.any fun y=>JS y d)) H
theorem Ax {X:Cx} (hu:X.A.units+64<L_):OpR X (Ie .In) Gi:=by
 intro pins s σ H x y v u Q I rx ry h;obtain ⟨ds,d,h1,h2,s1,s2,s3,q⟩:=h;obtain ⟨as,r1⟩:=h1.reads I ry;obtain ⟨bs,r2⟩:=h2.reads I rx;exact SeqAt.in_list_reads r1 r2 s1 s2 (by have:=NF (Ko ds) d.depth; omega) ⟨.bl _,H,I,rfl,q⟩
end L2
namespace Fm
noncomputable abbrev mT:=List L2.Key
noncomputable abbrev Tie:=mT×mT×Int
inductive Con (F:List Tie):mT->mT->Prop
 | refl (a:mT):Con F a a
 | fwd {a b c:mT} {w:Int}:Con F a b->(b,c,w)∈F->Con F a c
 | bwd {a b c:mT} {w:Int}:Con F a b->(c,b,w)∈F->Con F a c
end Fm
namespace L2
open PySem PySem.Spec PyProof.Rows PySem.W
def Gg (x y:V) (H:Hp) (Q:VK):Prop:=∃ a v,x=.ref a/\dP H a y (some v)/\Q v H
theorem C0 {td ty:TE} {σ:St} {H:Hp} {Q:VK} (h:td σ H fun x H1=>ty σ H1 fun y H2=>Gg x y H2 Q):D7 td ty σ H Q:=h
theorem AX {σ:St} {H:Hp} {Q:VK} (h:∀ p,H p=none->Q (.ref p) (upd H p (.dK []))):BM σ H Q:=h
def Hd (x:V) (H:Hp) (q:ς->Prop):Prop:=∃ a,x=.ref a/\IsD H a/\q a
theorem AY {td ty:TE} {σ:St} {H:Hp} {Q:VK} (h:td σ H fun x H1=>Hd x H1 fun a=>ty σ H1 fun y H2=>∃ kvs k v,H2 a=some (.dK kvs)/\y=kV k/\eX kvs k=some v/\Q v (upd H2 a (.dK (fe kvs k)))):BO td ty σ H Q:=h
theorem Fo {i j:Nat} {ta:TA} {D:dn} {σ:St} {H:Hp} (h:ta σ H fun vs H1=>∃ v w,vs=[v,w]/\D.nx ((σ.set i (some v)).set j (some w)) H1):GP i j ta D σ H:=h
noncomputable def G4:Key->JB
 | .inl i=>.int i
 | .inr x=>.str x
def KOk (a:List Key):Prop:=Ju (a.map G4)=true
def bX (S:List ς) (H H':Hp):Prop:=∀ b o,H b=some o->b∉S->H' b=some o
theorem bX.refl (S:List ς) (H:Hp):bX S H H:=fun _ _ e _=>e
theorem ai.butL {H H':Hp} (s:ai H H') (S:List ς):bX S H H':=fun b o e _=>s b o e
theorem bX.trans {S:List ς} {H H1 H2:Hp} (a:bX S H H1) (b:bX S H1 H2):bX S H H2:=fun c o e n=>b c o (a c o e n) n
theorem bX.upd {S:List ς} {H H1:Hp} {p:ς} {o:HO} (a:bX S H H1) (h:p∈S):bX S H (L2.upd H1 p o):=fun c o' e n=>by
 rw [aE (fun z=>n (by rw [z]; exact h))]; exact a c o' e n
theorem bX.new {S:List ς} {H H1:Hp} {p:ς} {o:HO} (a:bX S H H1) (h:H1 p=none):bX S H (L2.upd H1 p o):=fun c o' e n=>ai.new h c o' (a c o' e n)
end L2
namespace L2
open PySem PySem.Spec PyProof.Rows
theorem jN {K:A_} {A S:ς} (bs:JR K (.ref S) (.type "BaseException")=some true) (mo:Lf K S (.type "object")=some true) (ty:NB K (.ref S)=some (.type "type"))
  (sb:JR K (.ref A) (.ref S)=some false):Ik K (.ref A) (.ref S)=some false:=by
 obtain ⟨cd,hc,_⟩:=LQ.mp mo;simp only [Ik,ND];simp [bs,hc,ty,sb]
end L2
namespace L2
open PySem PySem.Spec PyProof.Rows PySem.W
section
variable {K:A_} {H:Hp} {Q:VK}
theorem ed {a:ς} {xs:List V} {lo hi:Option Int} (h:H a=some (.lst xs)) (q:∀ p H1,ai H H1->H p=none->H1 p=some (.lst (cg xs lo hi))->Q (.ref p) H1):CS K (.ref a) lo hi H Q:=eG h fun p n=>q p _ (ai.new n) n af
theorem cA {a b:ς} {xs zs:List V} (ha:H a=some (.lst xs)) (hb:H b=some (.lst zs)) (z:xs.length+zs.length<=BC) (q:∀ p H1,ai H H1->H p=none->H1 p=some (.lst (xs++zs))->Q (.ref p) H1):EV (.ref a) (.ref b) H Q:=wu ha hb z fun p n=>q p _ (ai.new n) n af
end
section
variable {K:A_} {σ:St} {H:Hp} {Q:VK} {te:TE} {tt:TT} {cap:List (Option Nat)} {l:ς}
theorem iu {a:ς} {xs:List V} (ys:List V) (hy:ys.length=xs.length) (hs:SqL K H a xs) (hz:xs.length<=1000) (hl:H l=none)
  (step:∀ (i:Nat) x y o H' (Q':VK),xs[i]?=some x->ys[i]?=some y->ai H H'->(∀ H5,ai H' H5->Q' y H5)->te (((gh (none::cap) σ).set 0 o).set 0 (some x)) H' Q')
  (fin:∀ H',ai H H'->H' l=some (.lst ys)->Q (.ref l) H'):jD (Itl K a) (eB 0) jI te (none::cap) l σ H Q:=by
 refine ⟨xs.length,fun i zs σ' H'=>zs=ys.take i/\(∃ o,σ'=(gh (none::cap) σ).set 0 o)/\ai H H'/\H' l=some (.lst zs),⟨rfl,⟨none,rfl⟩,ai.new hl,af⟩,?_,?_⟩
 ·rintro i zs σ' H' hi ⟨rfl,⟨o,rfl⟩,s,e⟩;refine ⟨⟨xs,xs[i],s.seq hs,by simp [hi]⟩,fun x H2 y=>?_⟩;obtain ⟨e2,y⟩:=y;subst e2;have hx:=y xs (s.seq hs);have hyi:i<ys.length:=by omega
  refine dO (fk (pe ?_));refine step i x ys[i] o H2 _ hx (E_ hyi) s fun H5 s5=>⟨s5 _ _ e,?_,?_⟩
  ·rw [Hw];exact aQ (by omega)
  ·exact ⟨Ny hyi,⟨_,J6 ..⟩,(s.trans s5).later hl,af⟩
 ·rintro zs σ' H' ⟨rfl,_,s,e⟩;rw [Hr (by omega)] at e;exact ⟨⟨xs,s.seq hs,Ω _⟩,fin H' s e⟩
end
end L2
namespace PySem
end PySem
namespace PyProof.Rows
open PySem PySem.Spec
end PyProof.Rows
namespace PySem
open PySem.Spec PyProof.Rows
end PySem
namespace L2
open PySem PySem.Spec PyProof.Rows PySem.W
end L2
namespace L2
open PySem PySem.Spec PyProof.Rows
section
variable {K:A_} {x qual:Str} {st:Kf} {f:ς} {fd:IJ}
theorem Fun.b1 {p0:Str} (F:Fun K x qual st f fd) (h:∀ (kV doc pm:η) (an:Option ς) (cdv ct a0:η),MA (Lh x qual (eM st) (df st) (ak st) .none kV doc pm an cdv ct) ⟨[a0],[]⟩=pure [(p0,a0)]):aJ K fd [p0] [] :=
 F.binds fun kV doc pm an cdv ct us hl=>by obtain ⟨a0,rfl⟩:=F4 hl; exact h kV doc pm an cdv ct a0
theorem Fun.b2 {p0 p1:Str} (F:Fun K x qual st f fd) (h:∀ (kV doc pm:η) (an:Option ς) (cdv ct a0 a1:η),MA (Lh x qual (eM st) (df st) (ak st) .none kV doc pm an cdv ct) ⟨[a0,a1],[]⟩=pure [(p0,a0),(p1,a1)]):aJ K fd [p0,p1] [] :=
 F.binds fun kV doc pm an cdv ct us hl=>by obtain ⟨a0,a1,rfl⟩:=F5 hl; exact h kV doc pm an cdv ct a0 a1
theorem Fun.b3 {p0 p1 p2:Str} (F:Fun K x qual st f fd) (h:∀ (kV doc pm:η) (an:Option ς) (cdv ct a0 a1 a2:η),MA (Lh x qual (eM st) (df st) (ak st) .none kV doc pm an cdv ct) ⟨[a0,a1,a2],[]⟩=pure [(p0,a0),(p1,a1),(p2,a2)]):aJ K fd [p0,p1,p2] [] :=
 F.binds fun kV doc pm an cdv ct us hl=>by obtain ⟨a0,a1,a2,rfl⟩:=F6 hl; exact h kV doc pm an cdv ct a0 a1 a2
theorem Fun.b4 {p0 p1 p2 p3:Str} (F:Fun K x qual st f fd) (h:∀ (kV doc pm:η) (an:Option ς) (cdv ct a0 a1 a2 a3:η),MA (Lh x qual (eM st) (df st) (ak st) .none kV doc pm an cdv ct) ⟨[a0,a1,a2,a3],[]⟩=pure [(p0,a0),(p1,a1),(p2,a2),(p3,a3)]):aJ K fd [p0,p1,p2,p3] [] :=
 F.binds fun kV doc pm an cdv ct us hl=>by obtain ⟨a0,a1,a2,a3,rfl⟩:=F7 hl; exact h kV doc pm an cdv ct a0 a1 a2 a3
theorem Fun.b5 {p0 p1 p2 p3 p4:Str} (F:Fun K x qual st f fd) (h:∀ (kV doc pm:η) (an:Option ς) (cdv ct a0 a1 a2 a3 a4:η),MA (Lh x qual (eM st) (df st) (ak st) .none kV doc pm an cdv ct) ⟨[a0,a1,a2,a3,a4],[]⟩=pure [(p0,a0),(p1,a1),(p2,a2),(p3,a3),(p4,a4)]):aJ K fd [p0,p1,p2,p3,p4] [] :=
 F.binds fun kV doc pm an cdv ct us hl=>by obtain ⟨a0,a1,a2,a3,a4,rfl⟩:=G7 hl; exact h kV doc pm an cdv ct a0 a1 a2 a3 a4
theorem Fun.bl {p:Str} (F:Fun K x qual st f fd) (h:∀ (kV doc pm:η) (an:Option ς) (cdv ct a:η),MA (Lh x qual (eM st) (df st) (ak st) .none kV doc pm an cdv ct) ⟨[a],[]⟩=pure [(p,a)]) (s:χ) (v:η):NZ s fd ⟨[v],[]⟩ [(p,v)]:=by
 obtain ⟨_,_,kV,doc,pm,an,cdv,ct,_,rfl,_,_⟩:=F.ex;exact .of_eq (h kV doc pm an cdv ct v)
end
theorem aA.by {N P:List Str} {sc:LG} (h1:sc.kind=.function:=by rfl) (h2:sc.isCoroutine=false:=by rfl) (h3:sc.isGenerator=false:=by rfl) (h4:N.Nodup:=by decide +kernel) (h5:N.take P.length=P:=by rfl) (h6:∀ x∈P,sc.names.lookup x=some .local\/sc.names.lookup x=some .cell:=by decide +kernel) (h7:∀ y∈sc.names,y.2≠.free:=by decide +kernel):aA N P sc:=⟨h1,h2,h3,h4,h5,h6,h7⟩
end L2
namespace L2
open PySem PySem.Spec PyProof.Rows PySem.W Builtin Builtin.ObjectAttr Builtin.Getset_descriptor
noncomputable def vQ (K:A_) (C:ς) (line:List η) (nid:String):Bool :=
 match K.lookup C with
 | some ⟨.type "type",_,.cls k,ss⟩ =>
  match k.mro,ss.toList with
  | .ref D :: up, [_, _, _, _, some (.builtin m), _] => (D == C) && (m == nid) && !k.hasDel && k.hasDict && OF K line up
  | _, _ => false
 | _=>false
theorem qX {K:A_} {C:ς} {line:List η} {nid:String} (q:vQ K C line nid=true):∃ (nm qn:Str) (N:ς) (bs up:List η) (sn:List Str) (Nk:List η) (ab:Bool) (col:Option Bool) (dd:Option ς) (k0 k1 k2 k3 k5:Option η),
  K.lookup C=some (excClassObj nm qn C N bs up true sn Nk ab col dd k0 k1 k2 k3 k5 nid)/\OF K line up=true:=by
 unfold vQ at q
 split at q
 case h_2=>cases q
 case h_1 dd k ss ho =>
  split at q
  case h_2=>cases q
  case h_1 D up k0 k1 k2 k3 m k5 hm hs =>
   simp only [Hy,beq_iff_eq,Mr] at q;obtain ⟨⟨⟨⟨e1,e2⟩,e3⟩,e4⟩,e5⟩:=q;subst e1 e2;obtain ⟨nm,bs,mro,ns,qn,hd,sn,Nk,ab,col,del⟩:=k;simp only at hm e3 e4
   subst hm e3 e4;obtain ⟨l⟩:=ss;simp only at hs
   subst hs;exact ⟨nm,qn,ns,bs,up,sn,Nk,ab,col,dd,k0,k1,k2,k3,k5,ho,e5⟩
section
variable {prog:HS} {w:ID} {A:IA} {E:η->χ->Prop} {K:A_} {h:IC} {g:Array GenState} {d:Drawn} {t:Nat} {os:OsState} {C fI:ς} {line:List η} {B nid iid:String} {dJ:List η}
noncomputable abbrev zt (C t:ς):Obj:={ cls:=.ref C,data:=.fields #[.ref t,.none,.none,.none,.bool false,.none] }
noncomputable abbrev zv (dJ:List η):Obj:={ cls:=.type "tuple",data:=.seq dJ.toArray }
theorem GU {Q:η->χ->Prop} (X:K.In h) (q:vQ K C line nid=true) (F:LM B nid iid line) (hi:Lu K (.ref C) "__init__"=some (some (.ref fI))) (hf:typeIn K (.ref fI)=some (.type "function")) (hz:dJ.length<=BC)
  (k:∀ h' e,K9 h h' e (.ref C) dJ->BG (B_ prog w) (A.under (.builtin "type.__call__" ⟨.ref C::dJ,[]⟩)) (call (.ref fI) (.ref e::dJ)) (fun r s'=>r=.none/\Q (.ref e) s') E ⟨h',g,d,t,os⟩) :
  BG (B_ prog w) A (call (.ref C) dJ) Q E ⟨h,g,d,t,os⟩:=by
 obtain ⟨nm,qn,N,bs,up,sn,Nk,ab,col,dd,k0,k1,k2,k3,k5,hl,tl⟩:=qX q;have cl:=X _ _ hl;have T:=OE X tl;have c1:=tc_lookup;have c2:=tc_bind (.ref C);have ty:(⟨h,g,d,t,os⟩:χ).TypeIs (.ref C) "type":=⟨_,cl,rfl⟩
 refine Jw (codeAny_of_tree ?_)
 show BG _ _ (callAny (.ref C) _) _ _ _
 repeat (any_goals (first | assumption | with_reducible refine JL cl ?_ | wp_step))
 refine ⟨rfl,?_⟩;refine codeAny_call_builtin_at (MY _ (by decide +kernel)) entry_typeCall (wpAny_check_type_call_sub cl ?_)
 show BG _ (A.under (.builtin "type.__call__" ⟨.ref C::dJ,[]⟩)) (Mq.«type.__call__» ⟨.ref C::dJ,[]⟩) _ _ _
 repeat (first | with_reducible refine JL cl ?_ | with_reducible refine wpAny_madeBy_exc cl ?_ | wp_step)
 refine codeAny_call_builtin_code (MY _ F.quiet) (wpAny_check_new_subT F T cl ?_);refine codeAny_exc_new_subT F T cl ?_ hz
 show BG _ _ _ _ _ _
 have kp:∀ b o,h.get? b=some o->((h.push (zv dJ)).push (zt C h.objs.size)).get? b=some o:=fun b o e=>Δ _ (Δ _ e);have X1:K.In ((h.push (zv dJ)).push (zt C h.objs.size)):=X.keeps kp
 have ge:((h.push (zv dJ)).push (zt C h.objs.size)).get? (h.objs.size+1)=some (zt C h.objs.size):=by
  have:=HE (h.push (zv dJ)) (o:=zt C h.objs.size) rfl
  rwa [JJ] at this
 have gt:((h.push (zv dJ)).push (zt C h.objs.size)).get? h.objs.size=some (zv dJ):=Δ _ (HE h rfl);have own:(Bl C::up).contains (.ref C)=true:=by simp
 unfold M8;have cl1:=kp _ _ cl
 repeat (first | with_reducible refine JL ge ?_ | (with_reducible refine Mt cl1 ?_; rw [own]) | wp_step)
 show BG _ _ (typeLookup (.ref C) _) _ _ _
 refine (LJ X1 hi).at ?_;refine Ij (θ ((bind_fn X1 (.ref (h.objs.size+1)) hf).at ?_));refine θ (Hq (k _ (h.objs.size+1) ⟨kp,MI (MK _),h.objs.size,ge,MI (Ω _),gt⟩) (fun r s' hr=>?_) fun _ _ z=>z);obtain ⟨rfl,hQ⟩:=hr
 wp_walk
 exact hQ
end
def di (e C:ς) (xo:Option ς) (h:IC):Prop:=∃ o a0,h.get? e=some o/\o.cls=.ref C/\o.data=.fields #[a0,.none,.none,.none,.bool false,.none]/\o.dict=xo
noncomputable def gg (e C:ς) (xo:Option ς):HO:=.ext (di e C xo)
def oX (d:ς) (fs:List (Str×V)) (h:IC):Prop:=∃ mA,h.Ns1 d mA/\(∀ f,gz (fs.lookup f) (mA f))/\Lk mA (fs.map (·.1))
noncomputable def XdO (d:ς) (fs:List (Str×V)):HO:=.ext (oX d fs)
theorem di.stay {e C:ς} {xo:Option ς}:∀ h1 h2:IC,di e C xo h1->(∀ o,h1.get? e=some o->h2.get? e=some o)->di e C xo h2:=fun _ _ ⟨o,a0,h1,h2⟩ k=>⟨o,a0,k o h1,h2⟩
theorem oX.stay {d:ς} {fs:List (Str×V)}:∀ h1 h2:IC,oX d fs h1->(∀ o,h1.get? d=some o->h2.get? d=some o)->oX d fs h2:=fun _ _ ⟨mA,⟨o,es,ep,ho,r⟩,q⟩ k=>⟨mA,⟨o,es,ep,k o ho,r⟩,q⟩
theorem di.at {e C:ς} {xo:Option ς} {h:IC} (p:di e C xo h):ij e C h:=let ⟨o,_,h1,h2,_⟩:=p; ⟨o,h1,h2⟩
theorem y6 {h:IC} {line up:List η} {self:η} (T:OwnTail h line up) (p:refuseLoop self "__setattr__" line=pure ()):refuseLoop self "__setattr__" up=pure ():=by
 induction T with
 | base=>exact p
 | _=>rw [refuseLoop_ref]; assumption
structure ExI (K:A_) (C:ς):Prop where
 ex:vQ K C [.type "ValueError",.type "Exception",.type "BaseException",.type "object"] "ValueError.__new__"=true
 sa:Lu K (.ref C) "__setattr__"=some (some (.builtin "object.__setattr__"))
 mo:mroIn K C (.type "object")=some true
section
variable {prog:HS} {w:ID} {A:IA} {E:η->χ->Prop} {K:A_} {s:χ} {C x:ς} {name:Str} {v:η}
theorem ExI.cls (e:ExI K C):∃ cd up,clsIn K C=some cd/\cd.mro=.ref C::up/\cd.hasDict=true/\OF K [.type "ValueError",.type "Exception",.type "BaseException",.type "object"] up=true:=by
 obtain ⟨nm,qn,N,bs,up,sn,Nk,ab,col,dd,k0,k1,k2,k3,k5,hl,tl⟩:=qX e.ex
 have z:∃ cd,clsIn K C=some cd/\cd.mro=.ref C::up/\cd.hasDict=true:=by
  unfold clsIn;rw [hl];exact ⟨_,rfl,rfl,rfl⟩
 obtain ⟨cd,z1,z2,z3⟩:=z;exact ⟨cd,up,z1,z2,z3,tl⟩
theorem osx {R:Result->χ->Prop} {tk:Om} (X:K.In s.heap) (ei:ExI K C) (LT:OP (B_ prog w) s.heap (M7 (.ref x)) (.ref C)) (hn:Lu K (.ref C) name=some none)
  (h:BG (B_ prog w) A.in1 (storeInOwnDict (.ref x) (.ref C) (.str name tk) name v false) (fun fin s'=>match fin with | .done f=>R (.ok f) s' | .again c'=>c'.quiet=true/\KR (B_ prog w) A c' R s') (fun e s'=>R (.error e) s') s) :
  KR (B_ prog w) A (.call (.builtin "object.__setattr__") ⟨[.ref x,.str name tk,v],[]⟩) R s:=by
 have SF:=N6;obtain ⟨cd,up,hc,hm,hd,tl⟩:=ei.cls;have Nk:OP (B_ prog w) s.heap (M8 (.ref x) (.type "object")) true:=LT.andThen (looks_mroIn X ei.mo);have mr:OP (B_ prog w) s.heap (mroOf (.ref C)) cd.mro:=(looks_clsIn X hc).andThen .now;refine K5 SF.slot.plain SF.entry (@check_slot (B_ prog w) _ _ s "object.__setattr__" "object" "__setattr__" (.ref x) [.str name tk,v] [] _ SF.kind SF.split Nk (SF.args (.ref x) (.str name tk) v) ?_);rw [osa_eq,refuse_eq];refine θ (θ (LT.here (θ (mr.here ?_))));rw [hm,refuseLoop_ref,y6 (OE X tl) (PySem.F.store_ValueError.passes (.ref x))];exact Aw (θ (LT.here (θ ((LJ X hn).here (θ (Aw h))))))
theorem GG {Q:Unit->χ->Prop} (X:K.In s.heap) (ei:ExI K C) (LT:OP (B_ prog w) s.heap (M7 (.ref x)) (.ref C)) (hn:Lu K (.ref C) name=some none)
  (h:BG (B_ prog w) A.in1 (storeInOwnDict (.ref x) (.ref C) (.str name s.toks) name v false) (fun fin s'=>match fin with | .done (.ret _)=>Q () s' | _=>False) E { s with toks:=s.toks+1 }) :
  BG (B_ prog w) A (setAttr (.ref x) name v) Q E s:=by
 have c:=osx (A:=A) (R:=fun r s'=>match r with | .ok (.ret _)=>Q () s' | .ok _=>False | .error e=>E e s') (s:={ s with toks:=s.toks+1 }) (tk:=s.toks) (v:=v) X ei LT hn (Hq h (fun fin s' z=>by
  cases fin with
  | done f => cases f <;> exact z
  | again c => exact z.elim) fun _ _ z => z)
 refine θ (wpAny_mkText (θ (θ (θ (LT _ _ _ _ (fun _ _ e=>e) (LJ X ei.sa _ _ _ _ (fun _ _ e=>e) (Ij ?_)))))));rw [N6.slot.bind];refine θ (Aw (θ (Jw (JM c fun r s' z=>?_))));rcases r with e | (v | _ | _ | _)<;>first | exact z | exact Aw (Aw z)
end
section
variable {prog:HS} {w:ID} {A:IA} {E:η->χ->Prop} {K:A_} {s:χ} {C x:ς} {name:Str} {v:η} {tk:Om} {o:Iz} {vs:Array η}
theorem wN {Q:Fin->χ->Prop} (X:K.In s.heap) (ei:ExI K C) (hx:s.heap.get? x=some o) (hc:o.cls=.ref C) (hd:o.data=.fields vs) (hn:o.dict=none)
  (k:∀ h' t',h'.get? x=some { o with dict:=some s.heap.objs.size }->h'.Ns1 s.heap.objs.size (fun y=>if y=name then some v else none)->(∀ b u,b≠x->s.heap.get? b=some u->h'.get? b=some u)->Q (.done (.ret .none)) { s with heap:=h',toks:=t' }) :
  BG (B_ prog w) A (storeInOwnDict (.ref x) (.ref C) (.str name tk) name v false) Q E s:=by
 obtain ⟨cd,up,hcd,_,hh,_⟩:=ei.cls;obtain ⟨oc,od,odt,osl⟩:=o;dsimp only at hc hd hn;subst hc hd hn;have ne:s.heap.objs.size≠x:=Ka (BE hx);refine θ (Aw (θ (θ (Ma hx (θ ((looks_clsIn X hcd).here ?_))))));rw [hh]
 show BG _ _ (do let d <- alloc { cls:=.type "dict",data:=.dict #[] }; update x fun o=>{ o with dict:=some d }; dictMade (.ref C) x d) _ _ _
 refine θ (wpAny_alloc' (θ (wpAny_update' (Δ _ hx) ?_)));refine Aw (a:=some s.heap.objs.size) (θ (Aw (θ ?_)))
 have gd:((s.heap.push { cls:=.type "dict",data:=.dict #[] }).update x fun o=>{ o with dict:=some s.heap.objs.size }).get? s.heap.objs.size=some { cls:=.type "dict",data:=.dict #[] }:=by
  rw [Ib _ _ (IL ne)];exact HE s.heap rfl
 have nd:((s.heap.push { cls:=.type "dict",data:=.dict #[] }).update x fun o=>{ o with dict:=some s.heap.objs.size }).Ns s.heap.objs.size (fun _=>none):=⟨_,#[],_,gd,rfl,(fun e he=>absurd he (by simp)),fun _=>rfl⟩
 refine wpAny_nsSet1 (OS nd) fun h' hn' hs=>?_;obtain ⟨oD,esD,epD,hoD,hdD,hcD⟩:=hn'.count (Ly name v PySem.Within.nil);refine θ (Nh hoD (by rw [hdD]; exact Nl (BA hcD (by rw [HM,NJ,K4]; omega))) ?_);refine Aw (k h' _ ?_ hn' fun b u hb hu=>?_)
 ·refine (hs.2 x (IL ne)).trans (I_ _ (Δ _ hx) rfl)
 ·exact (hs.2 b (Hi (BE hu))).trans ((Ib _ _ (IL hb)).trans (Δ _ hu))
theorem vy {Q:Fin->χ->Prop} {dx:ς} {mA:Str->Option η} {ns:List Str} (X:K.In s.heap) (ei:ExI K C) (hx:s.heap.get? x=some o) (hc:o.cls=.ref C) (hd:o.data=.fields vs) (hn:o.dict=some dx) (hns:s.heap.Ns1 dx mA) (hw:Lk mA ns) (hz:ns.length<1000)
  (k:∀ h' t',h'.Ns1 dx (fun y=>if y=name then some v else mA y)->(∀ b u,b≠dx->s.heap.get? b=some u->h'.get? b=some u)->Q (.done (.ret .none)) { s with heap:=h',toks:=t' }) :
  BG (B_ prog w) A (storeInOwnDict (.ref x) (.ref C) (.str name tk) name v false) Q E s:=by
 obtain ⟨cd,up,hcd,_,hh,_⟩:=ei.cls;obtain ⟨oc,od,odt,osl⟩:=o;dsimp only at hc hd hn;subst hc hd hn;refine θ (Aw (θ (θ (Ma hx (θ ((looks_clsIn X hcd).here ?_))))));rw [hh];refine Aw (a:=some dx) (θ (Aw (θ ?_)));refine wpAny_nsSet1 hns fun h' hn' hs=>?_;obtain ⟨oD,esD,epD,hoD,hdD,hcD⟩:=hn'.count (Ly name v hw);refine θ (Nh hoD (by rw [hdD]; exact Nl (BA hcD (by rw [HM,K4]; omega))) ?_);exact Aw (k h' _ hn' fun b u hb hu=>(hs.2 b hb).trans hu)
end
section
variable {X:Cx} {pins:List (ς×Iz)} {σ:St} {H:Hp} {s:χ} {e C dx:ς} {fs:List (Str×V)} {f:Str} {y:V} {u:η} {A:IA} {E:η->χ->Prop} {Q:Unit->χ->Prop}
theorem Bs (I:Inv X pins σ H s) (he:H e=some (gg e C none)) (ei:ExI X.K C) (hn:Lu X.K (.ref C) f=some none) (ry:bF y u)
  (k:∀ d s',H d=none->d≠e->Inv X pins σ (upd (upd H d (XdO d [(f,y)])) e (gg e C (some d))) s'->Q () s'):BG (B_ X.prog X.w) A (setAttr (.ref e) f u) Q E s:=by
 have p:di e C none s.heap:=(show bP X.prog X.w H s.heap e (.ext (di e C none)) from I.hok e _ he).1;obtain ⟨o,a0,hx,hc,hd,hdn⟩:=id p;refine GG I.kIn ei (ij.looks p.at) hn (wN (s:={ s with toks:=s.toks+1 }) I.kIn ei hx hc hd hdn fun h' t' g1 g2 g3=>?_);have ne:s.heap.objs.size≠e:=Ka (BE hx);refine k s.heap.objs.size _ (I.hok.fresh (Ω _)) ne ?_
 have xd:oX s.heap.objs.size [(f,y)] h':=by
  refine ⟨_,g2,fun n=>?_,fun n hn=>?_⟩
  ·show gz (J5 n [(f,y)]) (if n=f then some u else none)
   rw [Lg];by_cases z:n=f
   ·subst z; simp only [beq_self_eq_true,if_true]; exact ry
   ·rw [if_neg z,show (n==f)=false from beq_eq_false_iff_ne.mpr z]; exact JI
  ·by_cases z:n=f
   ·subst z; simp
   ·exact absurd (if_neg z) hn
 obtain ⟨od,es,ep,hod,_⟩:=id g2;have fr:od.isFreed=false:=(MX.mp hod).2;have gd:(s.heap.push od).get? s.heap.objs.size=some od:=HE s.heap fr
 have I1:Inv X pins σ (upd H s.heap.objs.size (XdO s.heap.objs.size [(f,y)])) { s with heap:=s.heap.push od,toks:=t' } :=
  I.laid (fun b v z=>Δ _ z) (Ω _) ⟨oX.stay _ _ xd fun o z=>by rw [hod] at z; cases z; exact gd,⟨_,gd⟩,oX.stay⟩
 refine I1.write (x:=e) (e:=e) (o:=gg e C (some s.heap.objs.size)) (h':=h') (t':=t') (by rw [aE (IL ne),he]; exact JI) (.inl rfl) (fun b v hb z=>?_) ⟨_,g1⟩ ⟨⟨_,a0,g1,hc,hd,rfl⟩,⟨_,g1⟩,di.stay⟩;by_cases q:b=s.heap.objs.size
 ·subst q;rw [show ({ s with heap:=s.heap.push od,toks:=t' }:χ).heap=s.heap.push od from rfl,gd] at z
  cases z;exact hod
 ·have z':(s.heap.push od).get? b=some v:=z;rcases Heap.get?_push_cases z' with ⟨r,_⟩ | r
  ·exact absurd r q
  ·exact g3 b v hb r
theorem zc (I:Inv X pins σ H s) (he:H e=some (gg e C (some dx))) (hD:H dx=some (XdO dx fs)) (ei:ExI X.K C) (hn:Lu X.K (.ref C) f=some none) (hl:fs.length<1000) (ry:bF y u)
  (k:∀ s',Inv X pins σ (upd H dx (XdO dx (cU f y fs))) s'->Q () s'):BG (B_ X.prog X.w) A (setAttr (.ref e) f u) Q E s:=by
 have p:di e C (some dx) s.heap:=(show bP X.prog X.w H s.heap e (.ext (di e C (some dx))) from I.hok e _ he).1;obtain ⟨o,a0,hx,hc,hd,hdn⟩:=id p;obtain ⟨mA,ns,rel,wi⟩:oX dx fs s.heap:=(show bP X.prog X.w H s.heap dx (.ext (oX dx fs)) from I.hok dx _ hD).1;refine GG I.kIn ei (ij.looks p.at) hn (vy (s:={ s with toks:=s.toks+1 }) I.kIn ei hx hc hd hdn ns wi (by rw [ξ]; exact hl) fun h' t' g2 g3=>?_);have hd':∃ o,h'.get? dx=some o:=let ⟨o,_,_,z,_⟩:=g2; ⟨o,z⟩;refine k _ (I.write (x:=dx) (e:=dx) (by rw [hD]; exact JI) (.inl rfl) g3 hd' ⟨⟨_,g2,fun n=>?_,fun n hn=>?_⟩,hd',oX.stay⟩)
 ·show gz ((cU f y fs).lookup n) (if n=f then some u else mA n)
  rw [aC];by_cases q:n=f
  ·rw [if_pos q,if_pos q]; exact ry
  ·rw [if_neg q,if_neg q]; exact rel n
 ·by_cases q:n=f
  ·rw [q]; exact (gE f y fs).1
  ·refine (gE f y fs).2 n (wi n fun z=>hn ?_)
   show (if n=f then some u else mA n)=none
   rw [if_neg q]; exact z
end
theorem FE {H:Hp} {a:ς} {o:HO} (h:H a=some o):upd H a o=H:=by
 funext b
 unfold upd;by_cases z:b=a
 ·rw [if_pos z,z,h]
 ·rw [if_neg z]
section
variable {X:Cx} {pins:List (ς×Iz)} {σ:St} {H:Hp} {s:χ} {e C:ς} {xo:Option ς} {u:η} {A:IA} {E:η->χ->Prop} {Q:η->χ->Prop}
theorem GV (I:Inv X pins σ H s) (he:H e=some (gg e C xo)) (ei:ExI X.K C)
  (k:∀ s',Inv X pins σ H s'->Q .none s'):BG (B_ X.prog X.w) A (call (.builtin "ValueError.__init__") [.ref e,u]) Q E s:=by
 have p:di e C xo s.heap:=(show bP X.prog X.w H s.heap e (.ext (di e C xo)) from I.hok e _ he).1;obtain ⟨o,a0,hx,hc,hd,hdn⟩:=id p;obtain ⟨nm,qn,N,bs,up,sn,Nk,ab,col,dd,k0,k1,k2,k3,k5,hl,tl⟩:=qX ei.ex;have cl:=I.kIn _ _ hl;have T:=OE I.kIn tl;have F:=BF;obtain ⟨hh,g,d,t,os⟩:=s;refine Jw (K5 F.init.plain F.initEntry (wpAny_check_init_subT F T cl hx hc ?_));obtain ⟨oc,od,odt,osl⟩:=o;dsimp only at hc hd hdn;subst hc hd hdn
 wp_walk
 have fin:Q Il ⟨(hh.push { cls:=.type "tuple",data:=.seq #[u] }).update e (IZ fun x=>x.setIfInBounds 0 (.ref hh.objs.size)),g,d,t,os⟩:=by
  have g1:=I_ (IZ fun x=>x.setIfInBounds 0 (.ref hh.objs.size)) (Δ { cls:=.type "tuple",data:=.seq #[u] } hx) rfl;refine k _ ?_;have J:=I.write (x:=e) (e:=e) (o:=gg e C od) (h':=(hh.push { cls:=.type "tuple",data:=.seq #[u] }).update e (IZ fun x=>x.setIfInBounds 0 (.ref hh.objs.size))) (t':=t) (by rw [he]; exact JI) (.inl rfl) (fun b v hb z=>?_) ⟨_,g1⟩ ⟨⟨_,.ref hh.objs.size,g1,rfl,rfl,rfl⟩,⟨_,g1⟩,di.stay⟩
  ·rw [FE he] at J;exact J
  ·rw [Ib _ _ (IL hb)];exact Δ _ z
 show BG _ _ (match a0 with | .ref a=>letGo [a0] | _=>pure ()) _ _ _
 cases a0<;>first | (refine Aw (Aw ?_); exact fin) | (wp_walk; exact fin)
end
structure DK (K:A_) (S:ς):Prop where
 ga:specialIn K (.ref S) "__getattribute__"=some (some (.builtin "type.__getattribute__"))
 rd:readsIn K S (.type "type")=true
 at_:findCls K (.ref S) (.type "type") "__init__"=some (.val (.builtin "ValueError.__init__"))
def BQ (K:A_) (t:TA):TE:=fun σ H Q=>t σ H fun vs H1=>∃ (e C:ς) (xo:Option ς) (y:V),vs=[.ref e,y]/\H1 e=some (gg e C xo)/\ExI K C/\Q .non H1
theorem A4 {K:A_} {t:TA} {σ:St} {H:Hp} {Q:VK} (h:t σ H fun vs H1=>∃ (e C:ς) (xo:Option ς) (y:V),vs=[.ref e,y]/\H1 e=some (gg e C xo)/\ExI K C/\Q .non H1):BQ K t σ H Q:=h
section
variable {X:Cx} {S:ς} {x:Str} {p pos apos:J8} {e o:II} {es:List II} {t:TA}
theorem AH {pl:LL Bool} (hg:Gl X x) (hm:X.mg x=some (.ref S)) (c:DK X.K S) (ha:PA X (e::es) t)
  (hdb:(x==("__debug__":Str))=false:=by decide)
  (hst:D_ (e::es) X.env=(false,Ip e X.env)::D_ es X.env:=by rfl) (hpl:(JD pos (D_ es X.env)).any (·.1)=false:=by rfl)
  (ht:Ip (.Call (.Attribute (.Name x p) "__init__" apos) (e::es) [] pos) X.env=(do
   let ov <- Ip (.Name x p) X.env
   Mm apos.atName
   let (f,first) <- Lo [ov] (LP ov "__init__" pl)
   Mc pos f first (JD pos (D_ (e::es) X.env)) (Lc pos (KG [] X.env))):=by rfl) :
  PE X (.Call (.Attribute (.Name x p) "__init__" apos) (e::es) [] pos) (BQ X.K t):=by
 intro pins s σ H Q I h;refine KP (pl:=pl) (thn ((dv (v:=.ref S) hg hm rfl hdb) pins s σ H (fun x H1=>x=.ref S/\H1=H) I ⟨rfl,rfl⟩) fun u s1 ⟨x,H1,I1,rx,ex,eh⟩=>?_) ht;subst ex; subst eh;obtain rfl:u=Bl S:=rx
 refine W.method_cls I1.kIn c.ga (W.cls_value I1.kIn c.rd c.at_ rfl ?_);have I2:=I1.tok (s1.toks+1);have hA:=ha pos pins _ σ H1 _ I2 h;rw [hst] at hA ⊢;refine Lm (by show (false||(JD pos (D_ es X.env)).any (·.1))=false; rw [hpl]<;>rfl) (J2 ?_);refine thn hA fun us s2 ⟨vs,H2,I3,r,q2⟩=>?_;obtain ⟨ee,C,xo,y,rfl,he,ei,q⟩:=q2;obtain ⟨u1,u2,rfl,r1,r2⟩:=r.two
 cases (show u1=Bl ee from r1)
 exact GV I3 he ei fun s' I'=>⟨.non,H2,I',rfl,q⟩
end
def D3 (K:A_) (ta tv:TE) (f:Str):TS:=fun D σ H=>tv σ H fun y H1=>ta σ H1 fun x H2=>∃ (e C:ς),x=.ref e/\ExI K C/\Lu K (.ref C) f=some none /\
  ((H2 e=some (gg e C none)/\∀ d,H2 d=none->d≠e->D.nx σ (upd (upd H2 d (XdO d [(f,y)])) e (gg e C (some d)))) \/
   ∃ dx fs,H2 e=some (gg e C (some dx))/\H2 dx=some (XdO dx fs)/\fs.length<1000/\D.nx σ (upd H2 dx (XdO dx (cU f y fs))))
theorem A1 {K:A_} {ta tv:TE} {f:Str} {D:dn} {σ:St} {H:Hp} (h:tv σ H fun y H1=>ta σ H1 fun x H2=>∃ (e C:ς),x=.ref e/\ExI K C/\Lu K (.ref C) f=some none /\
  ((H2 e=some (gg e C none)/\∀ d,H2 d=none->d≠e->D.nx σ (upd (upd H2 d (XdO d [(f,y)])) e (gg e C (some d)))) \/
   ∃ dx fs,H2 e=some (gg e C (some dx))/\H2 dx=some (XdO dx fs)/\fs.length<1000/\D.nx σ (upd H2 dx (XdO dx (cU f y fs))))):D3 K ta tv f D σ H:=h
theorem CJ {X:Cx} {ta tv:TE} {f:Str} {o value:II} {pos pos':J8} (ha:PE X o ta) (hv:PE X value tv) (hs:L7 value (some (.Attribute o f pos')) pos.line X.env=pure false):PS X (.Assign [.Attribute o f pos'] value pos) (D3 X.K ta tv f):=by
 intro pins s σ H D I h;refine Na (thn (hv pins s σ H _ I h) fun u s1 ⟨y,H1,I1,ry,q⟩=>thn (ha pins s1 σ H1 _ I1 q) fun ov s2 ⟨x,H2,I2,rx,e,C,ex,ei,n,q2⟩=>?_) hs;subst ex;obtain rfl:ov=Bl e:=rx
 rcases q2 with ⟨he,k⟩ | ⟨dx,fs,he,hD,hl,k⟩
 ·exact Bs I2 he ei n ry fun d s3 hd hne I3=>⟨σ,_,I3,k d hd hne⟩
 ·exact zc I2 he hD ei n hl ry fun s3 I3=>⟨σ,_,I3,k⟩
noncomputable def del (H:Hp) (e:ς):Hp:=fun b=>if b=e then none else H b
theorem lA {H:Hp} {e b:ς} (h:b≠e):del H e b=H b:=by unfold del; rw [if_neg h]
theorem gC {H:Hp} {e:ς}:del H e e=none:=by unfold del; rw [if_pos rfl]
theorem Inv.untrack {X:Cx} {pins:List (ς×Iz)} {σ:St} {H:Hp} {s:χ} {e:ς} {φ:IC->Prop} (I:Inv X pins σ H s) (he:H e=some (.ext φ)):Inv X pins σ (del H e) s:=by
 have nt:∀ b u,H b=some u->(∀ ψ,u≠.ext ψ)->del H e b=some u:=fun b u z n=>by
  rw [lA (fun q=>by subst q; rw [he] at z; cases z; exact n φ rfl)]; exact z
 refine ⟨I.ok,I.os,I.bare,⟨I.base.keep,I.base.slot,fun b o z n hx=>?_,I.base.there,fun b xs z=>?_,fun b o u z=>?_,fun b ps z=>?_⟩,I.loc,I.cell,?_,fun x c z=>?_,fun p hp=>?_,fun b u z=>?_,I.len⟩
 ·by_cases q:b=e
  ·rw [q,gC]
  ·rw [lA q]; exact I.base.free b o z n hx
 ·exact nt b _ (I.base.tups b xs z) (by intro ψ q; cases q)
 ·exact nt b _ (I.base.frzs b o u z) (by intro ψ q; cases q)
 ·obtain ⟨m,q⟩:=I.base.tbls b ps z;exact ⟨m,nt b _ q (by intro ψ q; cases q)⟩
 ·by_cases q:X.env.locals=e
  ·rw [q,gC]
  ·rw [lA q]; exact I.free
 ·by_cases q:c=e
  ·rw [q,gC]
  ·rw [lA q]; exact I.freeC x c z
 ·obtain ⟨a,n,r⟩:=I.pin p hp;refine ⟨a,?_,r⟩;by_cases q:p.1=e
  ·rw [q,gC]
  ·rw [lA q]; exact n
 ·have hb:b≠e:=fun q=>by rw [q,gC] at z; cases z
  rw [lA hb] at z;exact (I.hok b u z).stay (fun _ _ _ w=>w) (fun c w=>nt c _ w (by intro ψ q; cases q)) fun c xs w=>nt c _ w (by intro ψ q; cases q)
section
variable {M:MN} {A:IA} {E:η->χ->Prop} {env:LU} {K:A_} {C:ς}
theorem CU {s:χ} {x:LL η} {Q:Flow->χ->Prop} (ei:ExI K C) (hh:A.handled=none)
  (h:BG M A x (fun v s₁=>∃ e oe a0,v=.ref e/\K.In s₁.heap/\s₁.heap.get? e=some oe/\oe.cls=.ref C/\oe.data=.fields #[a0,.none,.none,.none,.bool false,.none]/\E (.ref e) s₁) E s):BG M A (Og env (some x) none) Q E s:=by
 obtain ⟨nm,qn,N,bs,up,sn,Nk,ab,col,dd,k0,k1,k2,k3,k5,hl,tl⟩:=qX ei.ex;unfold Og;refine θ (Hq h (fun v s₁ h₁=>?_) fun _ _ x=>x);obtain ⟨e,oe,a0,rfl,X,he,hc,hd,hE⟩:=h₁;have cl:=X _ _ hl;have hb:(Bl C::up).contains (.type "BaseException")=true:=by rw [Ou,(OE X tl).hasType BF.hasBase,Ls]
 obtain ⟨oc,od,odt,osl⟩:=oe;dsimp only at hc hd;subst hc hd;obtain ⟨hp,g,d,tk,os⟩:=s₁
 repeat (first | with_reducible refine JL he ?_ | with_reducible refine JL cl ?_ | (with_reducible refine Mt cl ?_; rw [hb]) | wp_step)
 exact wpAny_raiseNew_none hh hE
end
structure MkX (K:A_) (C f:ς):Prop where
 ei:ExI K C
 init:Lu K (.ref C) "__init__"=some (some (.ref f))
 fn:typeIn K (.ref f)=some (.type "function")
 kp:keepIn K (.ref C)=true
def xX (C:ς) (sp:Sp) (E:XK) (t:TA):TS:=fun _ σ H=>t σ H fun vs H1=>vs.length<=BC/\∀ e,H1 e=none ->
 sp (.ref e::vs) (upd H1 e (gg e C none)) (fun v H2=>v=.non/\∃ xo,H2 e=some (gg e C xo)/\E (.ref C) xo (del H2 e)) E0
theorem yZ {C:ς} {sp:Sp} {E:XK} {t:TA} {D:dn} {σ:St} {H:Hp} (h:t σ H fun vs H1=>vs.length<=BC/\∀ e,H1 e=none ->
 sp (.ref e::vs) (upd H1 e (gg e C none)) (fun v H2=>v=.non/\∃ xo,H2 e=some (gg e C xo)/\E (.ref C) xo (del H2 e)) E0):xX C sp E t D σ H:=h
theorem yR {X:Cx} {E:XK} {x:Str} {C f:ς} {fd:IJ} {ps:List Str} {sp:Sp} {k:Nat} {np cpos pos:J8} {e:II} {es:List II} {t:TA} (M:MkX X.K C f) (F:aR X.prog X.w X.K X.mg X.base CX0 k f fd ps sp) (hr:cM (k+1) X.A)
  (hg:Gl X x) (hm:X.mg x=some (.ref C)) (hb:aJ X.K fd ps []) (hc:X.calm=true) (hex:X.ex=[])
  (hx:∀ (pins:List (ς×Iz)) (σ:St) (H:Hp) (s:χ) (e:ς) (xo:Option ς) (oe:Iz) (vs:Array η),Inv X pins σ H s->s.heap.get? e=some oe->oe.cls=.ref C->oe.data=.fields vs->vs[1]?=some .none->X.s₀.heap.get? e=none->H e=none->(∀ dx,xo=some dx->oe.dict=some dx)->E (.ref C) xo H->X.xe (.ref e) s)
  (ha:PA X (e::es) t) (hd:(x==("__debug__":Str))=false:=by decide) (he:D_ (e::es) X.env=(false,Ip e X.env)::D_ es X.env:=by rfl) (hpl:(JD cpos (D_ es X.env)).any (·.1)=false:=by rfl) :
  PS X (.Raise (some (.Call (.Name x np) (e::es) [] cpos)) none pos) (xX C sp E t):=by
 intro pins s σ H D I h;rw [arm_exec_Raise];refine θ (Jd (CU (K:=X.K) (C:=C) M.ei (I.ok.hd hc) (θ (Hq (JF (dN I hg hm ?_ hd)) (fun v s3 h3=>θ (Jd (Aw h3))) fun _ _ z=>z))));refine Js (h₀:=X.base) I.ok.mod.kin M.kp (thn (ha cpos pins s σ H _ I h) fun us s1 ⟨vs,H1,I1,r,hz,q⟩=>⟨I1.kIn,?_⟩) he hpl;obtain ⟨h1,g1,d1,t1,os1⟩:=s1;rw [List.nil_append];refine GU I1.kIn M.ei.ex BF M.init M.fn (by rw [<- r.length]; exact hz) fun h' a mk=>?_;have nH:H1 a=none:=I1.hok.none_of mk.new
 have n0:X.s₀.heap.get? a=none:=by
  cases z:X.s₀.heap.get? a with
  | none => rfl
  | some o => obtain ⟨o', z'⟩ := I1.base.there a o z (by rw [hex]; intro q; cases q); rw [show h1.get? a = none from mk.new] at z'; cases z'
 obtain ⟨tp,ga,_,_⟩:=mk.there
 have I2:Inv X pins σ (upd H1 a (gg a C none)) ⟨h',g1,d1,t1,os1⟩:=by
  refine (I1.kept (t':=t1) mk.keeps).track nH n0 (fun p hp z=>?_) ⟨_,_,ga,rfl⟩ ⟨_,_,ga,rfl,rfl,rfl⟩ di.stay;have hp':=(I1.pin p hp).1;rw [z,show h1.get? a=none from mk.new] at hp'
  cases hp'
 have hq:=q a nH;have r2:bq (V.ref a::vs) (Bl a::us):=.cons rfl r
 have hl:(Bl a::us++[]).length=ps.length:=by
  rw [Kr];have e:=r2.length;rw [F.len _ _ _ _ hq] at e;exact e.symm
 refine Jw (JM (F.run _ X.stack _ _ ⟨Bl a::us,[]⟩ (Bl a::us) _ _ E0 (hr.make C us []) (I2.env0.make C us []) (by have:=hb _ (Bl a::us) I2.kIn hl; rw [Kr] at this; exact this) r2 hq) fun r s' hq'=>?_)
 cases r with
 | error e=>exact Hz hq'
 | ok fl =>
  cases fl with
  | ret u =>
   obtain ⟨v,H',I3,rv,ev,xo,hM,hE⟩:=I2.after hq';subst ev;refine ⟨rv,?_⟩;obtain ⟨o,a0,y1,y2,y3,y4⟩:di a C xo s'.heap:=(show bP X.prog X.w H' s'.heap a (.ext (di a C xo)) from I3.hok a _ hM).1;exact ⟨a,o,a0,rfl,I3.kIn,y1,y2,y3,hx pins σ _ s' a xo o _ (I3.untrack hM) y1 y2 y3 rfl n0 gC (fun dx z=>y4.trans z) hE⟩
  | next => exact Hz hq'
  | brk => exact Hz hq'
  | cont => exact Hz hq'
def GK (ta:TE):TE:=fun σ H Q=>ta σ H fun v H1=>∃ n:Nat,v=.int (n:Int)/\n<100/\∀ x:Str,x.length<=100->Q (.str x) H1
theorem Fe {ta:TE} {σ:St} {H:Hp} {Q:VK} (h:ta σ H fun v H1=>∃ n:Nat,v=.int (n:Int)/\n<100/\∀ x:Str,x.length<=100->Q (.str x) H1):GK ta σ H Q:=h
theorem wV:∀ n:Fin 100,((toString ((n.val:Nat):Int):String):Str).length<=100:=by decide +kernel
theorem qr:∀ n:Fin 100,(((n.val:Nat):Int)).natAbs.log2<1920:=by decide +kernel
theorem EJ {X:Cx} {e:II} {ta:TE} {pos:J8} (h:PE X e ta):PE X (.FormattedValue e (-1) none pos) (GK ta):=by
 intro pins s σ H Q I q;refine FormattedValue_plain (thn (h pins s σ H _ I q) fun u s1 ⟨v,H1,I1,r,n,ev,hn,k⟩=>?_);subst ev;obtain ⟨t,rfl⟩:=r;exact formatField_int_small (qr ⟨n,hn⟩) ⟨.str (toString ((n:Nat):Int):String),H1,I1.tok _,⟨_,rfl⟩,k _ (wV ⟨n,hn⟩)⟩
def tFs:List TE->Nat->St->Hp->(Hp->Prop)->Prop
 | [],_,_,H,R=>R H
 | t::ts,k,σ,H,R=>t σ H fun v H1=>∃ x:Str,v=.str x/\x.length<=100/\tFs ts k σ H1 R
def Ea (ts:List TE):TE:=fun σ H Q=>tFs ts 0 σ H fun H1=>∀ x:Str,Q (.str x) H1
inductive PEs (X:Cx):List II->List TE->Prop
 | nil:PEs X [] []
 | cons {e:II} {es:List II} {t:TE} {ts:List TE}:PE X e t->PEs X es ts->PEs X (e::es) (t::ts)
theorem xn {X:Cx} {pins:List (ς×Iz)} {σ:St} {Q:VK} {k:Nat} {es:List II} {ts:List TE} {s:χ} {H:Hp} {out:Str} (hp:PEs X es ts):out.length+100*es.length<=BC->Inv X pins σ H s ->
  tFs ts k σ H (fun H1=>∀ x:Str,Q (.str x) H1)->BG (B_ X.prog X.w) X.A (Oh out (evalEach es X.env)) (EP X pins σ Q) X.xe s:=by
 induction hp generalizing s H out with
 | nil=>exact fun hz I h=>joinParts_nil ⟨.str out,H,I.tok _,⟨_,rfl⟩,h _⟩ (by simpa using hz)
 | cons he hs ih=>
  intro hz I h;rw [HM] at hz
  show BG _ _ (Oh out (Ip _ X.env::evalEach _ X.env)) _ _ _
  refine joinParts_cons (thn (he pins s σ H _ I h) fun u s1 ⟨v,H1,I1,r,x,ev,hx,q⟩=>?_);subst ev;obtain ⟨t,rfl⟩:=r;have hl:(out++x).length=out.length+x.length:=J4 _ _;exact ⟨by rw [hl]; omega,ih (by rw [hl]; omega) I1 q⟩
theorem CF {X:Cx} {e1 e2:II} {es:List II} {ts:List TE} {pos:J8} (h:PEs X (e1::e2::es) ts) (hz:es.length<=20):PE X (.JoinedStr (e1::e2::es) pos) (Ea ts):=fun pins s σ H Q I q =>
 JoinedStr_many (xn (k:=0) (out:=JT) h (by have:(JT).length=0:=rfl; rw [this,HM,HM,K4]; omega) I q)
theorem C6 {ts:List TE} {σ:St} {H:Hp} {Q:VK} (h:tFs ts 0 σ H fun H1=>∀ x:Str,Q (.str x) H1):Ea ts σ H Q:=h
end L2
namespace L2
open PySem PySem.Spec PyProof.Rows PySem.W
theorem exi_mk {K:A_} {C S:ς} {line:List η} {nid:String} {dd:Option ς} {k:ClassData} {ss:Array (Option η)} {k0 k1 k2 k3 k5:Option η}
  (hl:K.lookup C=some ⟨.type "type",dd,.cls k,ss⟩) (hm:k.mro=.ref C::.ref S::line) (hs:ss.toList=[k0,k1,k2,k3,some (.builtin nid),k5]) (hdel:k.hasDel=false) (hd:k.hasDict=true) (xs:excIn K S line nid=true):vQ K C line nid=true:=by
 have tl:OF K line (.ref S::line)=true:=by
  have tt:OF K line line=true:=by
   cases line with
   | nil=>rfl
   | cons v r=>unfold OF; rw [show ((v::r)==(v::r))=true from beq_self_eq_true _]; rfl
  unfold OF;unfold excIn at xs
  split at xs
  case h_2=>cases xs
  case h_1 dd' cd sl ho =>
   split at xs
   case h_2=>cases xs
   case h_1 =>
    simp only [Hy] at xs;dsimp only;rw [ho];simp only [Bool.or_eq_true,Hy];exact .inr ⟨⟨xs.1.2,xs.2⟩,tt⟩
 unfold vQ;simp only [hl,hm,hs];simp only [hdel,hd,tl,beq_self_eq_true,Bool.not_false,Bool.and_self]
theorem zU {H:Hp} {e d C:ς} {fs:List (Str×V)} {o1 o2:HO} (he:H e=none) (ne:d≠e):del (upd (upd (upd H e o1) d (XdO d fs)) e o2) e=upd H d (XdO d fs):=by
 funext b
 unfold del upd;by_cases q:b=e
 ·subst q;rw [if_pos rfl,if_neg (IL ne),he]
 ·rw [if_neg q,if_neg q];by_cases r:b=d
  ·rw [if_pos r,if_pos r]
  ·rw [if_neg r,if_neg r,if_neg q]
theorem iH {X:Cx} (K:A_) (hK:X.K=K) {T:String} {name:Str} {id:String} {r:V->List V->Hp->VK->Prop} {o e:II} {es:List II} {to:TE} {t:TA} {apos cpos:J8} (pa:PlainAttrs T) (slot:Slot T name id) (hty:M7 (.builtin id)=pure (.type "method_descriptor")) (hm:MtR X id r) (ho:PE X o to) (ha:PA X (e::es) t)
  (hbase:Kz o name X.env (Ip o X.env)=Ip o X.env:=by rfl)
  (hfew:((JD cpos (D_ (e::es) X.env)).all (fun x=>!x.1)&&(Lc cpos (KG [] X.env)).all (fun x=>x.1.isSome)
   && decide ((e::es).length+([]:List OB).length+(if ([]:List OB).isEmpty then 0 else 1)<30))=true:=by rfl)
  (hline:(apos.endLine==cpos.line)=true:=by rfl) (hs:D_ (e::es) X.env=(false,Ip e X.env)::D_ es X.env:=by rfl) (hplain:(JD cpos (D_ es X.env)).any (·.1)=false:=by rfl) :
  PE X (.Call (.Attribute o name apos) (e::es) [] cpos) (tBM K T r to t):=hK ▸ cQ pa slot hty hm ho ha hbase hfew hline hs hplain
end L2
namespace L2
open PySem PySem.Spec PyProof.Rows
theorem jT {H:Hp} {Q:VK} {i j:Str} (h:Q (.bl (!decide (i=j))) H):rNe (.str i) (.str j) H Q:=⟨rfl,by
 have e:decide (V.str i=V.str j)=decide (i=j):=by by_cases z:i=j<;>simp [z]
 rw [e]; exact h⟩
end L2
namespace Fc
noncomputable def it:Nat->Nat->Nat
 | 0,x=>x
 | n+1,x=>it n (5*x+1)
noncomputable def lp (M:Nat):Nat->Nat×Nat->Nat×Nat
 | 0,q=>q
 | r+1,q=>lp M r ((q.1*5+1+q.2 / 32)%M,q.2 / 32)
end Fc
namespace Fc
open PySem PySem.SetTable
noncomputable def st (mask:Nat) (q:Nat×Nat):Probe:={ j:=q.1,more:=runEnd mask q.1 - q.1,i:=q.1,perturb:=q.2,dummy:=none }
end Fc
namespace Fc
open PySem PySem.SetTable PyProof.Rows
section
variable {prog:HS} {w:ID} {A:IA} {E:η->χ->Prop} {s:χ}
abbrev TK (prog:HS) (w:ID) (h:IC) (q:List Int) (b:ς):Prop:=IsTupleKey (intKind prog w) h q b
end
end Fc
namespace Fc
open PySem PySem.SetTable PyProof.Rows
section
variable {prog:HS} {w:ID} {A:IA} {E:η->χ->Prop} {s:χ}
def Els (prog:HS) (w:ID) (h:IC) (es:Array (Int×η)) (ks:List (List Int)):Prop:=∀ e∈es.toList,∃ q∈ks,∃ b,e.2=.ref b/\TK prog w h q b
end
end Fc
namespace Fc
open PySem PySem.SetTable PyProof.Rows
end Fc
namespace Fc
open PySem PySem.SetTable PyProof.Rows
section
variable {prog:HS} {w:ID} {A:IA} {E:η->χ->Prop} {s:χ}
def zD (prog:HS) (w:ID) (h:IC) (a:ς) (ks:List (List Int)):Prop:=∃ o es ep t k,h.get? a=some o/\o.ExactSet/\o.data=.set es ep t/\t.mask+1=2 ^ k/\3<=k/\k<=13/\t.dummies=#[]/\t.place.size=es.size/\es.size=ks.length/\es.size*5<t.mask*3/\Els prog w h es ks
end
end Fc
namespace Fc
open PySem PySem.SetTable PyProof.Rows
end Fc
namespace L2
open PySem PySem.Spec PyProof.Rows PySem.W
noncomputable def sgn (c:Nat):Str:=⟨#[c]⟩
noncomputable def Itx (x:Str):It:=⟨fun i _=>i<x.cps.size,fun i H v H'=>H'=H/\∃ c,x.cps[i]?=some c/\v=.str (sgn c),fun i _=>x.cps.size<=i⟩
theorem zp {P:HS} {w:ID} {K:A_} {tg:II} {ty:String} (it:ς) (x:Str) (t:Om) (hty:ty="str_ascii_iterator"\/ty="str_iterator"):tX P w K tg (Itx x) [it] it (fun i h=>h.IsStrIter it ty x t i) where
  mem:=by simp
  obj:=fun i h st b hb=>by
    have e:b=it:=by simpa using hb
    subst e;obtain ⟨o,e,c,d⟩:=st;exact ⟨o,e,fun v z=>by rw [d] at z; cases z⟩
  keep:=fun i h h' st k=>let ⟨o,ho,r⟩:=st; ⟨o,k it (by simp) o ho,r⟩
  item:=by
    intro X hP hw hK hc i pins s σ H E I hf st hg;subst hP hw hK;have hg:i<x.cps.size:=hg;obtain ⟨f0,f1,f2,f3,f4,f5⟩:=hf it (by simp);have key:∀ h':IC,h'.IsStrIter it ty x t (i+1)->Jj it s.heap h' ->
        ∃ u,some (K0 ⟨#[x.cps[i]]⟩ s.toks)=some u/\BG (B_ X.prog X.w) X.A (LC tg (.ref it) u) (fun _ s2=>∃ x_1 H',Inv X pins σ H' s2/\bF x_1 u/\(Itx x).yld i H x_1 H'/\s2.heap.IsStrIter it ty x t (i+1)/\∀ b∈[it],H' b=none) E { s with heap:=h',toks:=s.toks+1 }:=fun h' st' sb=>by
      have I1:Inv X pins σ H { s with heap:=h',toks:=s.toks+1 }:=I.turned (fun b o hb e=>(sb.2 b hb).trans e) f0 f1 f3 f4 f5;obtain ⟨o,e,c,d⟩:=id st';exact ⟨_,rfl,xm (s:={ s with heap:=h',toks:=s.toks+1 }) e c d (by rcases hty with z | z<;>rw [z]<;>decide) ⟨.str (sgn x.cps[i]),H,I1,⟨_,rfl⟩,⟨rfl,_,by simp [hg],rfl⟩,st',fun b hb=>(hf b hb).1⟩⟩
    rcases hty with z | z
    · subst z
      exact wpAny_pyNext_ascii_item st (c:=x.cps[i]) (by simp [hg]) key
    · subst z
      exact wpAny_pyNext_wide_item st (c:=x.cps[i]) (by simp [hg]) key
  done:=by
    intro X hP hw hK hc i pins s σ H E I hf st hg;subst hP hw hK;have hg:x.cps.size<=i:=hg;obtain ⟨f0,f1,f2,f3,f4,f5⟩:=hf it (by simp);have key:∀ h':IC,Heap.ExtBut it s.heap h'->(none:Option η)=none/\Inv X pins σ H { s with heap:=h' }:=fun h' eb=>⟨rfl,I.turned (t':=s.toks) (fun b o hb e=>eb b o hb e) f0 f1 f3 f4 f5⟩
    rcases hty with z | z
    · subst z
      exact wpAny_pyNext_ascii_end (I.ok.hd hc) st (by simp; omega) key
    · subst z
      exact wpAny_pyNext_wide_end (I.ok.hd hc) st (by simp; omega) key
  self:=fun A i s Q E st h=>by
    rcases hty with z | z
    · subst z; exact wpAny_pyIter_striter_ascii st h
    · subst z; exact wpAny_pyIter_striter_wide st h
def DR (tl:TE):TI:=fun σ H R=>tl σ H fun v H1=>∃ x:Str,v=.str x/\R (Itx x) H1
theorem A5 {tl:TE} {σ:St} {H:Hp} {R:It->Hp->Prop} (h:tl σ H fun v H1=>∃ x:Str,v=.str x/\R (Itx x) H1):DR tl σ H R:=h
theorem jw {X:Cx} {tg l:II} {tl:TE} (hl:PE X l tl):PI X tg l (DR tl):=by
 intro pins s σ H R I h;refine thn (hl pins s σ H _ I h) fun v s1 ⟨x,H1,I1,r1,q1⟩=>?_;obtain ⟨x,rfl,q⟩:=q1;obtain ⟨t,rfl⟩:=r1;have fin:∀ (ty:String),(ty="str_ascii_iterator"\/ty="str_iterator")->PIE X pins σ tg R (.ref s1.heap.objs.size) { s1 with heap:=s1.heap.push { cls:=.type ty,data:=.fields #[.str x t,.int 0 0] } }:=fun ty hty=>by
  refine ⟨s1.heap.objs.size,[s1.heap.objs.size],_,_,H1,rfl,I1.kept (t':=s1.toks) fun b o e=>Δ _ e,zp _ x t hty,⟨_,HE _ rfl,rfl,rfl⟩,fun b hb=>?_,q⟩;have e:b=s1.heap.objs.size:=by simpa using hb
  subst e;exact I1.fpOk (Ω _) (I1.hok.fresh (Ω _))
 cases ha:x.cps.all (·<128)
 ·exact wpAny_pyIter_wide ha (fin _ (.inr rfl))
 ·exact wpAny_pyIter_ascii ha (fin _ (.inl rfl))
theorem dU {σ:St} {H:Hp} {Q:VK} {te:TE} {cap:List (Option Nat)} {l:ς} {x:Str} (ys:List V) (hy:ys.length=x.cps.size) (hz:x.cps.size<=4000) (hl:H l=none)
  (step:∀ (i:Nat) c y o H' (Q':VK),x.cps[i]?=some c->ys[i]?=some y->ai H H'->(∀ H5,ai H' H5->Q' y H5)->te (((gh (none::cap) σ).set 0 o).set 0 (some (.str (sgn c)))) H' Q')
  (fin:∀ H',ai H H'->H' l=some (.lst ys)->Q (.ref l) H'):jD (Itx x) (eB 0) jI te (none::cap) l σ H Q:=by
 refine ⟨x.cps.size,fun i zs σ' H'=>zs=ys.take i/\(∃ o,σ'=(gh (none::cap) σ).set 0 o)/\ai H H'/\H' l=some (.lst zs),⟨rfl,⟨none,rfl⟩,ai.new hl,af⟩,?_,?_⟩
 ·rintro i zs σ' H' hi ⟨rfl,⟨o,rfl⟩,s,e⟩;refine ⟨hi,fun v H2 y=>?_⟩;obtain ⟨e2,c,hc,rfl⟩:=y;subst e2;have hyi:i<ys.length:=by omega
  refine dO (fk (pe ?_));refine step i c ys[i] o H2 _ hc (E_ hyi) s fun H5 s5=>⟨s5 _ _ e,?_,?_⟩
  ·rw [Hw];exact HX (show _<=4000 by omega) (by decide)
  ·exact ⟨Ny hyi,⟨_,J6 ..⟩,(s.trans s5).later hl,af⟩
 ·rintro zs σ' H' ⟨rfl,_,s,e⟩;rw [Hr (by omega)] at e;exact ⟨Ω _,fin H' s e⟩
theorem u7:∀ (l:List (Str×Om)),bq ((l.map (·.1)).map V.str) (Of l)
 | []=>.nil
 | (x,t)::l=>Paired.cons (show bF (.str x) (.str x t) from ⟨t,rfl⟩) (u7 l)
theorem vz:∀ {xs:List Str} {us:List η},bq (xs.map V.str) us->∃ l:List (Str×Om),us=Of l/\l.map (·.1)=xs
 | [],us,h=>by cases h; exact ⟨[],rfl,rfl⟩
 | x::xs,us,h=>by
  cases h with
  | cons h1 h2 =>
   obtain ⟨t,rfl⟩:=(show ∃ t,_=K0 x t from h1)
   obtain ⟨l,rfl,rfl⟩:=vz h2;exact ⟨(x,t)::l,rfl,rfl⟩
theorem zj (x y:Str):(Txt.split x y).length<=x.length+2:=by
 unfold Txt.split
 split
 ·show 1<=_; omega
 ·split
  ·show 1<=_; omega
  ·rw [length_partsBetween];have:=Nv x y 0 x.length (x.length+1)
   omega
def E2:V->List V->Hp->VK->Prop:=fun x ys H Q=>∃ a b:Str,x=.str a/\ys=[.str b]/\(b.length==0)=false/\a.length<=5000/\∀ p,H p=none->Q (.ref p) (upd H p (.lst ((Txt.split a b).map V.str)))
theorem gF {X:Cx}:MtR X "str.split" E2:=by
 intro pins s σ H x ys v us Q I rx rv h;obtain ⟨x,y,rfl,rfl,hy,hz,q⟩:=h;obtain ⟨t,rfl⟩:=rx;obtain ⟨u,rfl,ru⟩:=rv.one;obtain ⟨u,rfl⟩:=ru;have hsz:x.length<=sizeLine:=BA hz (by decide)
 have hsz2:(M3 x (Jh x y 0 x.length (x.length+1)) y.length).length<=sizeLine:=by
  rw [length_partsBetween];have:=Nv x y 0 x.length (x.length+1)
  exact BA (show _<=5010 by omega) (by decide)
 have few:=zj x y;have fin:∀ (l:List (Str×Om)) (k:Nat),l.map (·.1)=Txt.split x y->EP X pins σ Q (.ref s.heap.objs.size) { s with toks:=k,heap:=s.heap.push { cls:=.type "list",data:=.seq (Of l).toArray } }:=fun l k hl=>by
  refine ⟨.ref _,_,I.lnew (t':=k) (ys:=(Txt.split x y).map V.str) (its:=Of l) (by rw [<- hl]; exact u7 l) (by rw [ξ]; exact BA (show _<=5010 by omega) (by decide)),rfl,q _ I.fresh⟩
 cases h1:(decide (x.length<y.length)||decide (Ng x<Ng y))
 ·cases hf:(Jh x y 0 x.length (x.length+1)).isEmpty
  ·refine La NX (LY _ _ _) NH (M0 _ _) (meets_str_split_sep x y t u h1 hy hf hsz hsz2) ?_
   show wants (EP X pins σ Q) X.xe _ { s with toks:=_,heap:=s.heap.push { cls:=.type "list",data:=.seq (strsFrom s.toks (M3 x (Jh x y 0 x.length (x.length+1)) y.length)).toArray } }
   rw [strsFrom_eq];exact fin (numbered s.toks _) _ ((numbered_texts _ _).trans ((if_neg (ne_true_of_eq_false h1)).trans (if_neg (ne_true_of_eq_false hf))).symm)
  ·exact La NX (LY _ _ _) NH (M0 _ _) (meets_str_split_not_found x y t u h1 hy hf) (fin [(x,t)] s.toks ((if_neg (ne_true_of_eq_false h1)).trans (if_pos hf)).symm)
 ·exact La NX (LY _ _ _) NH (M0 _ _) (meets_str_split_cannot_occur x y t u h1) (fin [(x,t)] s.toks (if_pos h1).symm)
def Gk:V->List V->Hp->VK->Prop:=fun x ys H Q=>∃ (a:Str) (p:ς) (ts:List Str),x=.str a/\ys=[.ref p]/\H p=some (.lst (ts.map V.str))/\OR a ts=true/\Q (.str (Txt.join a ts)) H
theorem fY {X:Cx}:MtR X "str.join" Gk:=by
 intro pins s σ H x ys v us Q I rx rv h;obtain ⟨x,p,ts,rfl,rfl,hp,hok,q⟩:=h;obtain ⟨t,rfl⟩:=rx;obtain ⟨u,rfl,ru⟩:=rv.one
 cases ru;obtain ⟨z,its,n,r,hl,e⟩:=I.lstM hp;obtain ⟨l,rfl,ht⟩:=vz r;exact SC.join (l:=l) ⟨_,e,rfl,n,rfl⟩ ht hok fun t' k=>⟨.str _,H,I.tok _,⟨_,rfl⟩,q⟩
def Gj:List V->Hp->VK->Prop:=fun xs H Q=>∃ (x:Str) (n:Int),xs=[.str x]/\NU x=some n/\x.length<=640/\Q (.int n) H
theorem mw {X:Cx}:b9 X (.type "int") Gj:=by
 intro pins s σ H xs us Q I r h;obtain ⟨x,n,rfl,hn,hl,q⟩:=h;obtain ⟨u,rfl,rx⟩:=jj r;obtain ⟨t,rfl⟩:=rx;exact PySem.W.KIN.call_text hn hl ⟨.int n,H,I.tok _,⟨_,rfl⟩,q⟩
theorem xR {v:η} {o:Option Int} (h:ML v o):∃ p:Option (Int×Om),v=partValue p/\p.map (·.1)=o:=by
 cases h with
 | none=>exact ⟨none,rfl,rfl⟩
 | int i t=>exact ⟨some (i,t),rfl,rfl⟩
def Gq:V->Option Int->Option Int->Hp->VK->Prop:=fun x lo hi H Q=>∃ a:Str,x=.str a/\a.length<=BC/\Q (.str (Txt.slice a lo hi)) H
theorem Dz {X:Cx}:SlR X Gq:=by
 intro pins s σ H x v vl vu lo hi sl Q I rx hs pl pu h;obtain ⟨a,rfl,hz,q⟩:=h;obtain ⟨t,rfl⟩:=rx;obtain ⟨l,rfl,rfl⟩:=xR pl;obtain ⟨u,rfl,rfl⟩:=xR pu;refine ⟨"str",_,F.slot_str_getitem.lookup,LY _ _ _,wpAny_getItem_str_slice (l:=l) (u:=u) (st:=none) hs rfl ?_⟩;exact post_val_or_str ⟨BA (Txt.slice_le a _ _) hz,fun t' k=>⟨.str _,H,I.tok _,⟨_,rfl⟩,q⟩⟩
theorem Dr {k:Key} {v:η} (h:ni k v=true):bF (kV k) v:=by
 rcases cw h with ⟨i,t,rfl,rfl⟩ | ⟨x,t,rfl,rfl⟩
 ·exact ⟨t,rfl⟩
 ·exact ⟨t,rfl⟩
def EW:List V->Hp->VK->Prop:=fun xs H Q=>∃ (d:ς) (kvs:List (Key×V)),xs=[.ref d]/\H d=some (.dK kvs)/\∀ p,H p=none->Q (.ref p) (upd H p (.dK kvs))
theorem km {X:Cx}:b9 X (.type "dict") EW:=by
 intro pins s σ H xs us Q I r h;obtain ⟨d,kvs,rfl,hd,q⟩:=h;obtain ⟨u,rfl,rx⟩:=jj r
 cases rx;obtain ⟨z,lo,vs,rel,dof⟩:=xh I.hok hd;have hl:vs.length<=sizeLine:=by rw [<- rel.length]; exact z
 refine kt_call_dict (knd:=cL X.prog X.w) lo dof hl fun h' dof' sb=>?_;have big:=I.big;refine ⟨.ref s.heap.objs.size,_,I.laid (a:=s.heap.objs.size) (o:=.dK kvs) (t':=s.toks) (fun b u hb=>(sb.2 b (Hi (BE hb))).trans (Δ _ hb)) (Ω _) ⟨z,?_,vs,rel,dof'⟩,rfl,q _ (I.hok.fresh (Ω _))⟩;rw [beq_eq_false_iff_ne];exact Ka big
theorem xZ:∀ {xs:List V} {us:List η},xs.length=us.length->(∀ (i:Nat) x u,xs[i]?=some x->us[i]?=some u->bF x u)->bq xs us
 | [],[],_,_=>.nil
 | [],_::_,h,_=>by simp at h
 | _::_,[],h,_=>by simp at h
 | x::xs,u::us,h,k=>.cons (k 0 x u rfl rfl) (xZ (by simpa using h) fun i a b ha hb=>k (i+1) a b (by simpa using ha) (by simpa using hb))
def E1:List V->Hp->VK->Prop:=fun xs H Q=>∃ (d:ς) (kvs:List (Key×V)),xs=[.ref d]/\H d=some (.dK kvs)/\∀ l,H l=none->Q (.ref l) (upd H l (.lst (kvs.map fun p=>kV p.1)))
theorem jn {X:Cx} (hc:X.calm=true):b9 X (.type "list") E1:=by
 intro pins s σ H xs us Q I r h;obtain ⟨d,kvs,rfl,hd,q⟩:=h;obtain ⟨u,rfl,rx⟩:=jj r
 cases rx;obtain ⟨z,lo,vs,rel,dof⟩:=xh I.hok hd;obtain ⟨ep,at'⟩:=dof.dictAt;have hl:kvs.length=vs.length:=rel.length;refine kdl_call (kdl_dict (knd:=cL X.prog X.w) (kvs:=vs) (ep:=ep) lo) (I.ok.hd hc) at' (by rw [<- hl]; exact z) fun h' tk acc c kp e it=>?_;have la:acc.toList.length=kvs.length:=by rw [HK,it.1,hl]
 have rr:bq (kvs.map fun p=>kV p.1) acc.toList:=by
  refine xZ (by rw [ξ,la]) fun i x v hx hv=>?_;obtain ⟨k,u,h1,h2⟩:=it.2 i v (by rw [<- IK]; exact hv);obtain ⟨w',h3,_⟩:=Am rel h1;rw [BD,h3] at hx
  cases hx;exact Dr h2
 refine ⟨.ref s.heap.objs.size,_,I.laid (a:=s.heap.objs.size) (o:=.lst (kvs.map fun p=>kV p.1)) (t':=tk) kp (Ω _) ⟨by rw [ξ]; exact z,_,c,rr,?_⟩,rfl,q _ (I.hok.fresh (Ω _))⟩;rw [e,Array.toArray_toList]
def Gm:R2:=fun x y H Q=>∃ i j:Str,x=.str i/\y=.str j/\Q (.bl (!decide (j.cps.toList<i.cps.toList))) H
theorem Ay {X:Cx}:OpR X (Ie .LtE) Gm:=by
 intro pins s σ H x y v u Q I rx ry h;obtain ⟨i,j,rfl,rfl,q⟩:=h;obtain ⟨t,rfl⟩:=rx;obtain ⟨t',rfl⟩:=ry;exact PySem.P.le_str (bK I q rfl)
theorem Fh {H:Hp} {Q:VK} {i j:Str} (h:Q (.bl (!decide (j.cps.toList<i.cps.toList))) H):Gm (.str i) (.str j) H Q:=⟨i,j,rfl,rfl,h⟩
def DX:List V->Hp->VK->Prop:=fun xs H Q=>∃ z:Str,xs=[.str z]/\z.length<=BC/\Q (.int z.length) H
theorem gM {X:Cx}:b9 X (.builtin "len") DX:=qM
theorem hG {H:Hp} {Q:VK} {z:Str} (h:z.length<=BC) (q:Q (.int z.length) H):DX [.str z] H Q:=⟨z,rfl,h,q⟩
end L2
namespace L2
open PySem PySem.Spec PyProof.Rows
open Builtin Builtin.Str
theorem wO {a b:Str} (h:a.cps.toList=b.cps.toList):a=b:=by
 cases a with | mk x=>cases b with | mk y=>congr 1; exact Array.toList_inj.mp h
theorem qQ (a b:Str):(a++b).cps.toList=a.cps.toList++b.cps.toList:=Array.toList_append
theorem nP {l:List Nat} {a:Nat}:∀ {m:Nat},a+m<=l.length->((Io m).map fun k=>a+k).filterMap (l[·]?)=(l.drop a).take m
 | 0,_=>rfl
 | m+1,h=>by
  rw [Lv,HN,List.filterMap_append,nP (m:=m) (by omega),Jx,List.getElem?_drop,K8]
  congr 1
theorem AU {a b:Nat} (h:a<=b):sliceRange (a:Int) (b:Int) 1=(Io (b - a)).map fun k=>a+k:=by
 unfold sliceRange;dsimp only;rw [if_pos (by decide)];by_cases c:a<b
 ·rw [if_pos (by omega),show (((b:Int) - a+1 - 1) / 1).toNat=b - a by omega];exact J_ fun k _=>by omega
 ·rw [if_neg (by omega),show b - a=0 by omega]; rfl
theorem Bx {x:Str} {lo hi:Option Int} {a b:Nat} (e:strSliceIndices lo hi 1 x.length=sliceRange (a:Int) (b:Int) 1) (h1:a<=b) (h2:b<=x.cps.size):(Txt.slice x lo hi).cps.toList=(x.cps.toList.drop a).take (b - a):=by
 unfold Txt.slice;rw [e,AU h1];have hl:x.cps.toList.length=x.cps.size:=HK
 split
 ·next z =>
  rw [Hy,beq_iff_eq,beq_iff_eq,ξ,KU] at z;have z:=z.2;have:x.length=x.cps.size:=rfl
  rw [show a=0 by omega,KY,Hr (by omega)]
 ·rw [Ky,<- nP (l:=x.cps.toList) (by omega)]
  congr 1
  funext k
  exact IK.symm
theorem By {x:Str} {p:Nat} (h:p<=x.cps.size):(Txt.slice x none (some (p:Int))).cps.toList=x.cps.toList.take p:=by
 rw [Bx (a:=0) (b:=p) ?_ (Hs _) h,KY]; rfl;have:x.length=x.cps.size:=rfl
 unfold strSliceIndices;dsimp only;simp only [show (1:Int) > 0 by decide,if_true];rw [if_neg (show ¬ (p:Int)<0 by omega)]
 congr 1
 omega
theorem Bw {x:Str} {p:Nat} (h:p<=x.cps.size):(Txt.slice x (some (p:Int)) none).cps.toList=x.cps.toList.drop p:=by
 have hl:x.cps.toList.length=x.cps.size:=HK;rw [Bx (a:=p) (b:=x.cps.size) ?_ h (Ω _),Hr (by rw [IG]; omega)];have:x.length=x.cps.size:=rfl
 unfold strSliceIndices;dsimp only;simp only [show (1:Int) > 0 by decide,if_true];rw [if_neg (show ¬ (p:Int)<0 by omega),this]
 congr 1
 omega
theorem uD:∀ cs:List Nat,(Txt.join "" (cs.map sgn)).cps.toList=cs:=by
 intro cs
 show (glued _ _).cps.toList=_
 rw [PySem.StrLaws.glued_eq_join]
 induction cs with
 | nil=>rfl
 | cons c r ih =>
  cases r with
  | nil => rfl
  | cons d r =>
   show ((sgn c++"")++JA "" ((d::r).map sgn)).cps.toList=_
   rw [qQ,qQ,ih]; rfl
theorem nh {cs:List Nat} (h:cs.length<=1000):OR "" (cs.map sgn)=true:=by
 unfold OR;rw [List.foldl_toArray];have:∀ (cs:List Nat) (a:Nat),(cs.map sgn).foldl (fun x1 x2=>x1+x2.length+("":Str).length) a=a+cs.length:=by
  intro cs
  induction cs with
  | nil => intro a; rfl
  | cons c r ih =>
   intro a;rw [Ho,List.foldl_cons,ih]
   show a+1+0+r.length=a+(r.length+1)
   omega
 rw [this,Nat.zero_add];unfold tooLong;have:(1000:Nat)<=sizeLine:=by decide
 simp only [Mr,decide_eq_false_iff_not];omega
def AO:R2:=fun x y H Q=>∃ (ds:List JB) (d:JB),Rep H (.tuple ds) y/\Rep H d x/\Ju ds=true/\d.canLay0=true/\d.depth<=60/\Q (.bl (!ds.any fun y=>JS y d)) H
theorem js {X:Cx} (hu:X.A.units+64<L_):OpR X (Ie .NotIn) AO:=by
 intro pins s σ H x y v u Q I rx ry h;obtain ⟨ds,d,h1,h2,s1,s2,s3,q⟩:=h;obtain ⟨as,r1⟩:=h1.reads I ry;obtain ⟨bs,r2⟩:=h2.reads I rx;exact SeqAt.notIn_tuple_reads r1 r2 s1 s2 (by have:=NF (Ko ds) d.depth; omega) ⟨.bl _,H,I,rfl,q⟩
theorem iO {H:Hp} {Q:VK} {x a b:Str} {p:ς} (hp:H p=some (.tup [.str a,.str b])) (oa:Bp a=true) (ob:Bp b=true) (ox:Bp x=true) (q:Q (.bl (!(decide (a=x)||decide (b=x)))) H):AO (.str x) (.ref p) H Q:=by
  refine ⟨[.str a,.str b],.str x,?_,rfl,by simp [Ju,Lz,oa,ob],ox,by unfold Kq; omega,?_⟩
  · simp only [Rep,RepL]
    exact ⟨p,_,rfl,hp,_,_,rfl,rfl,_,_,rfl,rfl,rfl⟩
  · have e:([KH a,.str b].any fun y=>JS y (.str x))=(decide (a=x)||decide (b=x)):=by
      show ((a==x)||((b==x)||false))=_
      rw [Bool.or_false]; rfl
    rw [e]; exact q
theorem A9 {H:Hp} {Q:VK} {x:Int} {p:ς} (hp:H p=some (.tup [.int 0,.int 1])) (q:Q (.bl (!decide (x=0\/x=1))) H):AO (.int x) (.ref p) H Q:=by
  refine ⟨[.int 0,.int 1],.int x,?_,rfl,rfl,rfl,by unfold Kq; omega,?_⟩
  · simp only [Rep,RepL]
    exact ⟨p,_,rfl,hp,_,_,rfl,rfl,_,_,rfl,rfl,rfl⟩
  · have e:([J0 0,.int 1].any fun y=>JS y (.int x))=decide (x=0\/x=1):=by
      show (((0:Int)==x)||(((1:Int)==x)||false))=_
      by_cases h0:x=0
      · subst h0; rfl
      · by_cases h1:x=1
        · subst h1; rfl
        · rw [decide_eq_false (fun z=>z.elim h0 h1)]
          have a:((0:Int)==x)=false:=beq_eq_false_iff_ne.mpr fun z=>h0 z.symm;have b:((1:Int)==x)=false:=beq_eq_false_iff_ne.mpr fun z=>h1 z.symm;rw [a,b]; rfl
    rw [e]; exact q
def Gn:List V->Hp->VK->Prop:=fun xs H Q=>∃ (d:ς) (kvs:List (Key×V)),xs=[.ref d]/\H d=some (.dK kvs)/\Q (.int (kvs.length:Nat)) H
theorem w5 {X:Cx}:b9 X (.builtin "len") Gn:=by
 intro pins s σ H xs us Q I r h;obtain ⟨d,kvs,rfl,hd,q⟩:=h
 cases r with
 | cons r rs =>
  cases rs
  cases r;exact FX I (.inl hd) fun t s' I'=>⟨.int kvs.length,H,I',⟨t,rfl⟩,q⟩
theorem qZ {x:Str} {c:Nat}:(!(Jh x (sgn c) 0 x.length 1).isEmpty)=decide (c∈x.cps.toList):=StrLaws.found_one x c
def Eg (d:ς) (xs:List V) (h:IC):Prop:=xs.length<=BC/\∃ (its:List η) (n:Nat),bq xs its/\h.get? d=some { cls:=.type "list",data:=.seq its.toArray n }
def BJ (ts:TS):TS:=fun D σ H=>∃ d xs,H d=some (.lst xs)/\∀ φ,ts { D with nx:=fun σ1 H1=>H1 d=some (.ext φ)/\D.nx σ1 (upd H1 d (.lst xs)) } σ (upd H d (.ext φ))
theorem uX {X:Cx} {st:Kf} {ts:TS} (h:PS X st ts):PS X st (BJ ts):=by
 intro pins s σ H D I q;obtain ⟨d,xs,hd,q⟩:=q;have z:=(show bP X.prog X.w H s.heap d (.lst xs) from I.hok d _ hd)
 obtain ⟨lo,its,n,vs,ho⟩:=id z;have I1:Inv X pins σ (upd H d (.ext (Eg d xs))) s:=I.write (e:=d) (t':=s.toks) (h':=s.heap) (by rw [hd]; trivial) (.inl rfl) (fun _ _ _ q=>q) ⟨_,ho⟩ ⟨z,⟨_,ho⟩,fun h1 h2 ⟨a1,a2,a3,a4,a5⟩ k=>⟨a1,a2,a3,a4,k _ a5⟩⟩;refine Hq (h pins s σ _ _ I1 (q (Eg d xs))) (fun f s1 q1=>?_) fun _ _ z=>z
 cases f with
 | next =>
  obtain ⟨σ',H',I',hd',q2⟩:=q1;obtain ⟨z,⟨o,ho⟩,_⟩:=(show bP X.prog X.w H' s1.heap d (.ext (Eg d xs)) from I'.hok d _ hd')
  exact ⟨σ',_,I'.write (o:=.lst xs) (e:=d) (t':=s1.toks) (h':=s1.heap) (by rw [hd']; trivial) (.inl rfl) (fun _ _ _ q=>q) ⟨o,ho⟩ z,q2⟩
 | brk=>exact q1
 | cont=>exact q1
 | ret u=>exact q1
theorem u4 {ts:TS} {D:dn} {σ:St} {H:Hp} (d:ς) (xs:List V) (e:H d=some (.lst xs)) (h:∀ φ,ts { D with nx:=fun σ1 H1=>H1 d=some (.ext φ)/\D.nx σ1 (upd H1 d (.lst xs)) } σ (upd H d (.ext φ))):BJ ts D σ H:=⟨d,xs,e,h⟩
theorem mV {H H1:Hp} {d:ς} {xs:List V} {φ:IC->Prop} (e:H d=some (.lst xs)) (s:ai (upd H d (.ext φ)) H1):ai H (upd H1 d (.lst xs)):=fun a o h=>by
 by_cases z:a=d
 ·subst z; rw [e] at h; rw [af]; exact h
 ·rw [aE z]; exact s a o (by rw [aE z]; exact h)
def G9 (neg:Bool):R2:=fun x y H Q=>∃ (a b:ς) (xs:List V),x=.ref a/\y=.ref b/\H a=some (.lst xs)/\H b=some (.lst [])/\Q (.bl (if neg then !xs.isEmpty else xs.isEmpty)) H
theorem B0 {us:List η} (h:bq [] us):us=[]:=by cases h; rfl
theorem EG {X:Cx} (hu:X.A.units+64<L_):OpR X (Ie .Eq) (G9 false):=by
 intro pins s σ H x y v u Q I rx ry h;obtain ⟨a,b,xs,rfl,rfl,ha,hb,q⟩:=h
 cases (show v=Bl a from rx)
 cases (show u=Bl b from ry)
 obtain ⟨z1,us,n1,r1,o1⟩:=(show bP X.prog X.w H s.heap a (.lst xs) from I.hok a _ ha)
 obtain ⟨z2,ws,n2,r2,o2⟩:=(show bP X.prog X.w H s.heap b (.lst []) from I.hok b _ hb)
 cases B0 r2
 have i1:s.heap.IsList a us.toArray:=⟨_,o1,rfl,n1,rfl⟩
 have i2:s.heap.IsList b ([]:List η).toArray:=⟨_,o2,rfl,n2,rfl⟩
 cases r1 with
 | nil=>exact SeqAt.eq_listAt (e:=fun _=>true) i1 i2 rfl (by omega) (fun j h1 _=>absurd h1 (by simp)) ⟨.bl true,H,I,rfl,q⟩
 | cons r rs=>exact SeqAt.eq_list_lengthsAt i1 i2 (by simp) (by omega) ⟨.bl false,H,I,rfl,q⟩
end L2
namespace L2
open PySem PySem.Spec PyProof.Rows PySem.W
theorem oZ:entryFor table "proto.unchain"=some Mq.«proto.unchain»:=entryFor_of_tree (by kernel_rfl)
def XcO (C:ς) (h:IC):Prop:=∃ nm q N bs bm hdct sn Nk ab col dd k0 k1 k2 k3 k5 nid,h.get? C=some (excClassObj nm q C N bs bm hdct sn Nk ab col dd k0 k1 k2 k3 k5 nid)/\bm.contains (.type "BaseException")=true
section
variable {prog:HS} {w:ID} {A:IA} {E:η->χ->Prop} {s:χ}
theorem uZ {α:Type} {e2 e1:ς} {o2 o1:Iz} {v2 v1:Array η} {Q:α->χ->Prop} (hh:A.handled=some (.ref e1)) (ne:e1≠e2) (h1:s.heap.get? e1=some o1) (d1:o1.data=.fields v1) (c1:v1[2]?=some .none)
  (h2:s.heap.get? e2=some o2) (d2:o2.data=.fields v2) (z2:2<v2.size) (h:E (.ref e2) { s with heap:=s.heap.update e2 (IZ (·.setIfInBounds 2 (.ref e1))) }):BG (B_ prog w) A (raiseNew (.ref e2):LL α) Q E s:=by
 unfold raiseNew;refine θ (wpAny_handled ?_);rw [hh];dsimp only
 have hb:((Bl e1) != Bl e2)=true:=by
  rw [bne_iff_ne]; intro z; injection z with z; exact ne z
 rw [if_pos hb];refine θ (Ij (wpAny_runValue (codeAny_builtin oZ ?_)));unfold Mq.«proto.unchain»;refine θ (IU h1 d1 c1 ?_);rw [if_pos (by rfl)];refine Aw ?_
 show BG _ _ (Mb (.ref e2) 2 (Bl e1) >>= fun _=>throw (Bl e2)) _ _ _
 exact θ (Kg h2 d2 z2 (wpAny_throw h))
theorem qk {e:ς} {o:Iz} {vs:Array η} {Q:Bool->χ->Prop} (he:s.heap.get? e=some o) (hd:o.data=.fields vs) (h:Q false s):BG (B_ prog w) A (isType (.ref e)) Q E s:=by
 obtain ⟨oc,od,odt,osl⟩:=o;dsimp only at hd;subst hd;obtain ⟨hp,g,d,tk,os⟩:=s;unfold isType
 repeat (first | with_reducible refine JL he ?_ | wp_step)
 exact h
theorem xj {e C:ς} {o:Iz} {vs:Array η} {m:String} {Q:η->χ->Prop} (he:s.heap.get? e=some o) (hc:o.cls=.ref C) (hd:o.data=.fields vs) (hC:XcO C s.heap) (h:Q (.ref e) s):BG (B_ prog w) A (excFromValue (.ref e) m) Q E s:=by
 obtain ⟨nm,q,N,bs,bm,hdct,sn,Nk,ab,col,dd,k0,k1,k2,k3,k5,nid,cl,hb⟩:=hC;have hb:(Bl C::bm).contains (.type "BaseException")=true:=by rw [Ou,hb,Ls]
 unfold excFromValue isExcClass;refine θ (θ (qk he hd ?_));rw [if_neg (by decide)];refine Aw ?_;rw [if_neg (by decide)];obtain ⟨oc,od,odt,osl⟩:=o;dsimp only at hc hd;subst hc hd;obtain ⟨hp,g,d,tk,os⟩:=s;unfold M8
 repeat (first | with_reducible refine JL he ?_ | (with_reducible refine Mt cl ?_; rw [hb]) | wp_step)
 exact h
theorem u0 {e C:ς} {o:Iz} {Q:η->χ->Prop} (he:s.heap.get? e=some o) (hc:o.cls=.ref C) (hC:XcO C s.heap) (h:Q (.ref e) s):BG (B_ prog w) A (raisedInstance (.ref e)) Q E s:=by
 obtain ⟨nm,q,N,bs,bm,hdct,sn,Nk,ab,col,dd,k0,k1,k2,k3,k5,nid,cl,hb⟩:=hC;obtain ⟨oc,od,odt,osl⟩:=o;dsimp only at hc;subst hc;obtain ⟨hp,g,d,tk,os⟩:=s;unfold raisedInstance
 repeat (first | with_reducible refine JL he ?_ | with_reducible refine JL cl ?_ | wp_step)
 exact h
theorem XcO.stay {C:ς} {h h':IC} (x:XcO C h) (k:∀ o,h.get? C=some o->h'.get? C=some o):XcO C h':=by
 obtain ⟨nm,q,N,bs,bm,hdct,sn,Nk,ab,col,dd,k0,k1,k2,k3,k5,nid,cl,hb⟩:=x;exact ⟨nm,q,N,bs,bm,hdct,sn,Nk,ab,col,dd,k0,k1,k2,k3,k5,nid,k _ cl,hb⟩
theorem XcO.nofld {C:ς} {h:IC} (x:XcO C h):∃ o cd,h.get? C=some o/\o.data=.cls cd:=by
 obtain ⟨nm,q,N,bs,bm,hdct,sn,Nk,ab,col,dd,k0,k1,k2,k3,k5,nid,cl,hb⟩:=x;exact ⟨_,_,cl,rfl⟩
theorem wm {env:LU} {x c:LL η} {e1 C1 C2:ς} {Q:Flow->χ->Prop} (hh:A.handled=some (.ref e1))
  (h:BG (B_ prog w) A x (fun v s1=>∃ e2,v=.ref e2/\BG (B_ prog w) A c (fun u s2=>u=.ref e1/\e1≠e2/\XcO C2 s2.heap/\XcO C1 s2.heap/\(∃ o1 v1,s2.heap.get? e1=some o1/\o1.cls=.ref C1/\o1.data=.fields v1/\v1[2]?=some .none) /\
   ∃ t2,s2.heap.get? e2=some { cls:=.ref C2,data:=.fields #[.ref t2,.none,.none,.none,.bool false,.none] } /\
   ∀ h',(∀ b,b≠e2->h'.get? b=s2.heap.get? b)->h'.get? e2=some { cls:=.ref C2,data:=.fields #[.ref t2,.none,.ref e1,.ref e1,.bool true,.none] }->E (.ref e2) { s2 with heap:=h' }) E s1) E s) :
  BG (B_ prog w) A (Og env (some x) (some c)) Q E s:=by
 unfold Og;refine θ (Hq h (fun v s1 h1=>?_) fun _ _ y=>y);obtain ⟨e2,rfl,h1⟩:=h1;refine θ (Ij (Hq h1 (fun u s2 h2=>?_) fun _ _ y=>y));obtain ⟨rfl,ne,X2,X1,⟨o1,v1,g1,gc,gd,g2⟩,t2,ge,hE⟩:=h2;refine θ (Aw ?_);refine θ (Ij (xj ge rfl rfl X2 ?_));dsimp only;rw [if_neg (show ¬ ((Bl e1==Il)=true) by simp)];refine θ (Ij (xj g1 gc gd X1 ?_));have ga:∀ (hp:IC) (vs:Array η) (i:Nat) (y:η),hp.get? e2=some { cls:=.ref C2,data:=.fields vs }->(hp.update e2 (IZ (·.setIfInBounds i y))).get? e2=some { cls:=.ref C2,data:=.fields (vs.setIfInBounds i y) }:=fun hp vs i y z=>I_ _ z rfl;have ot:∀ (hp:IC) (i:Nat) (y:η) (b:ς),b≠e2->(hp.update e2 (IZ (·.setIfInBounds i y))).get? b=hp.get? b:=fun hp i y b z=>Ib _ _ (IL z);refine θ (Kg ge rfl (by show 3<6; decide) ?_);have g3:=ga _ _ 3 (.ref e1) ge;refine θ (Kg g3 rfl (by show 4<6; decide) ?_);have g4:=ga _ _ 4 (.bool true) g3;have nC:C2≠e2:=fun z=>by
  obtain ⟨o,cd,q1,q2⟩:=X2.nofld;rw [z,ge] at q1; cases q1; cases q2
 refine θ (qk g4 rfl ?_);rw [if_neg (by decide)];refine θ (u0 g4 rfl (X2.stay fun o z=>by show (Kp (Kp _ _ _) _ _).get? C2=_; rw [ot _ _ _ _ nC,ot _ _ _ _ nC]; exact z) ?_);unfold LO;refine θ (θ (IU g4 rfl (x:=.none) rfl ?_));rw [if_neg (by decide)];refine Aw ?_;have g5:=ga _ _ 2 (.ref e1) g4;refine uZ hh ne (o1:=o1) (v1:=v1) (by show (Kp (Kp _ _ _) _ _).get? e1=_; rw [ot _ _ _ _ ne,ot _ _ _ _ ne]; exact g1) gd g2 g4 rfl (by show 2<6; decide) ?_;refine hE _ (fun b hb=>?_) g5
 show (Kp (Kp (Kp _ _ _) _ _) _ _).get? b=_
 rw [ot _ _ _ _ hb,ot _ _ _ _ hb,ot _ _ _ _ hb]
end
end L2
namespace L2
open PySem PySem.Spec PyProof.Rows
noncomputable def jF (o:Iz):Option Value:=match o.data with | .fields vs=>vs[2]? | _=>none
inductive DC {α:Type}:LL α->Prop
 | pure (a:α):DC (.pure a)
 | raise (e:η):DC (.raise e)
 | unsup (w:String):DC (.unsupported w)
 | fin (e:Ending):DC (.finish e)
 | rule {t:String} {k:Unit->LL α}:DC (k ())->DC (.rule t k)
 | here {p:J8} {k:Unit->LL α}:DC (k ())->DC (.at p k)
 | load {a:ς} {p:Option η} {k:Iz->LL α}:(∀ o,DC (k o))->DC (.load a p k)
 | upd {a:ς} {p:Option η} {f:Iz->Iz} {k:Unit->LL α}:(∀ o,(f o).dict=o.dict/\(f o).isFreed=o.isFreed/\jF (f o)=jF o)->DC (k ())->DC (.update a p f k)
 | alloc {o:Iz} {k:ς->LL α}:(∀ n,DC (k n))->DC (.alloc o k)
 | point {l:List η} {k:Unit->LL α}:DC (k ())->DC (.point l k)
 | fresh {k:Om->LL α}:(∀ n,DC (k n))->DC (.fresh k)
 | ask {k:Setting->LL α}:(∀ n,DC (k n))->DC (.ask k)
 | stack {k:List (Code×J8)->LL α}:(∀ n,DC (k n))->DC (.stack k)
theorem DC.andThen {α β:Type} {m:LL α} {f:α->LL β} (h:DC m) (g:∀ a,DC (f a)):DC (m >>= f):=by
 show DC (Ia m f)
 induction h with
 | pure a=>rw [Ia]; exact g a
 | raise e=>rw [Ia]; exact .raise e
 | unsup w=>rw [Ia]; exact .unsup w
 | fin e=>rw [Ia]; exact .fin e
 | rule _ ih=>rw [Ia]; exact .rule ih
 | here _ ih=>rw [Ia]; exact .here ih
 | load _ ih=>rw [Ia]; exact .load ih
 | upd z _ ih=>rw [Ia]; exact .upd z ih
 | alloc _ ih=>rw [Ia]; exact .alloc ih
 | point _ ih=>rw [Ia]; exact .point ih
 | fresh _ ih=>rw [Ia]; exact .fresh ih
 | ask _ ih=>rw [Ia]; exact .ask ih
 | stack _ ih=>rw [Ia]; exact .stack ih
def tV (e:ς) (dx:Option ς×Option η) (h:IC):Prop:=∃ o,h.get? e=some o/\(o.dict,jF o)=dx
theorem tV.upd {e a:ς} {dx:Option ς×Option η} {h:IC} {f:Iz->Iz} (x:tV e dx h) (z:∀ o,(f o).dict=o.dict/\(f o).isFreed=o.isFreed/\jF (f o)=jF o):tV e dx (h.update a f):=by
 obtain ⟨o,h1,h2⟩:=x;by_cases q:a=e
 ·subst q;have fr:o.isFreed=false:=(MX.mp h1).2;exact ⟨_,I_ f h1 (by rw [(z o).2.1]; exact fr),by rw [(z o).1,(z o).2.2]; exact h2⟩
 ·exact ⟨o,by rw [Ib h f q]; exact h1,h2⟩
theorem DC.run {α:Type} {M:MN} {Γ:PySem.Ctx} {m:LL α} {Q:α->J8->χ->Prop} {E:η->J8->χ->Prop} {p:J8} {s:χ} {e:ς} {dx:Option ς×Option η} (h:DC m) (w:JN M Γ m Q E p s) (x:tV e dx s.heap) :
  JN M Γ m (fun a p s'=>Q a p s'/\tV e dx s'.heap) (fun v p s'=>E v p s'/\tV e dx s'.heap) p s:=by
 induction h generalizing p s with
 | pure a=>rw [JN] at w ⊢; exact ⟨w,x⟩
 | raise v=>rw [JN] at w ⊢; exact ⟨w,x⟩
 | unsup q=>rw [JN] at w; exact w.elim
 | fin q=>rw [JN] at w; exact w.elim
 | rule _ ih=>rw [JN] at w ⊢; exact ih w x
 | here _ ih=>rw [JN] at w ⊢; exact ih w x
 | load _ ih=>rw [JN] at w ⊢; obtain ⟨o,h1,h2⟩:=w; exact ⟨o,h1,ih o h2 x⟩
 | upd z _ ih=>rw [JN] at w ⊢; exact ⟨w.1,ih w.2 (x.upd z)⟩
 | alloc _ ih=>rw [JN] at w ⊢; exact ih _ w (let ⟨o,h1,h2⟩:=x; ⟨o,Δ _ h1,h2⟩)
 | point _ ih=>rw [JN] at w ⊢; exact ih w x
 | fresh _ ih=>rw [JN] at w ⊢; exact ih _ w x
 | ask _ ih=>rw [JN] at w ⊢; exact ih _ w x
 | stack _ ih=>rw [JN] at w ⊢; exact ih _ w x
theorem DC.any {α:Type} {M:MN} {A:IA} {m:LL α} {Q:α->χ->Prop} {E:η->χ->Prop} {s:χ} {e:ς} {dx:Option ς×Option η} (h:DC m) (w:BG M A m Q E s) (x:tV e dx s.heap) :
  BG M A m (fun a s'=>Q a s'/\tV e dx s'.heap) E s:=fun Γ p hΓ =>
 Sem.wp_mono M Γ m (fun _ _ _ z=>z) (fun _ _ _ z=>z.1) p s (h.run (w Γ p hΓ) x)
theorem ix {α:Type} {c:Prop} [Decidable c] {a b:LL α} (h1:DC a) (h2:DC b):DC (if c then a else b):=by split<;>assumption
theorem kq (v:η) (i:Nat):DC (M5 v i):=by
 unfold M5 fieldsOf;refine DC.andThen ?_ fun vs=>?_
 ·cases v with
  | ref a =>
   refine DC.andThen (.load fun o=>.pure o) fun o=>?_
   cases o.data<;>first | exact .pure _ | exact .unsup _
  | _ => exact .unsup _
 ·cases vs[i]?<;>first | exact .pure _ | exact .unsup _
theorem qU {i:Nat} (hi:i≠2) (x:η) (o:Iz):(IZ (·.setIfInBounds i x) o).dict=o.dict/\(IZ (·.setIfInBounds i x) o).isFreed=o.isFreed/\jF (IZ (·.setIfInBounds i x) o)=jF o:=by
 obtain ⟨c,d,dt,sl⟩:=o
 cases dt<;>first | exact ⟨rfl,rfl,rfl⟩ | exact ⟨rfl,rfl,Array.getElem?_setIfInBounds_ne hi⟩
theorem iy (v:η) (i:Nat) (x:η) (hi:i≠2:=by decide):DC (Mb v i x):=by
 unfold Mb
 cases v with
 | ref a =>
  unfold updateField;refine DC.andThen (.load fun o=>.pure o) fun o=>?_
  cases o.data with
  | fields vs => exact ix (.upd (qU hi x) (.pure ())) (.unsup _)
  | _ => exact .unsup _
 | _=>exact .unsup _
theorem gO (e:η) (f:Option ς):DC (LO e f):=by
 unfold LO;exact DC.andThen (kq _ _) fun tb=>ix (iy _ _ _) (.pure _)
theorem Cj (env:LU) (b:Bool) (l:List LU):DC (NP env b l):=by
 cases l with
 | nil =>
  unfold NP underTheClaimsCaller;refine ix (.pure _) (DC.andThen (DC.andThen (.stack fun n=>.pure n) fun _=>.pure _) fun q=>.pure _)
 | cons c r=>unfold NP; exact .pure _
theorem yl (env:LU) (l:List LU):DC (Me env l):=by
 unfold Me;exact ix (.pure _) (ix (.pure _) (DC.andThen (kq _ _) fun _=>.pure _))
theorem uk:∀ l:List LU,DC (Ln l)
 | []=>by unfold Ln; exact .pure _
 | env::r=>by
  unfold Ln
  cases env.frame with
  | none => exact .unsup _
  | some f =>
   refine DC.andThen (.load fun o=>.pure o) fun o=>ix (.pure _) ?_;refine DC.andThen (yl _ _) fun b=>DC.andThen (Cj _ _ _) fun v=>DC.andThen (.upd (fun o=>⟨rfl,by obtain ⟨c,d,dt,sl⟩:=o; cases dt<;>rfl,rfl⟩) (.pure ())) fun _=>uk r
theorem vO (env:LU):DC (Nm env):=by
 unfold Nm PySem.frameEnvs;refine DC.andThen (DC.andThen (.stack fun n=>.pure n) fun _=>.pure _) fun l=>DC.andThen ?_ fun o=>?_
 ·generalize l.dropWhile _=l'
  cases l' with
  | nil => unfold Nt; exact .pure _
  | cons c r => unfold Nt; exact DC.andThen (uk _) fun _ => .pure _
 ·cases o with
  | none => exact .unsup _
  | some f => exact .pure _
theorem zS (f:ς) (b:Bool):DC (LK f b):=by
 unfold LK;refine DC.andThen (.stack fun n=>.pure n) fun l=>?_
 cases l.find? _ with
 | none=>exact .pure _
 | some q=>exact .pure _
theorem uj (a b c d e:η) (l:List η):DC (Jg a b c d e l):=by
 unfold Jg newFields newObj newObjAsIs;generalize ([a,b,c,d,e]++if l.isEmpty then Nd 6 Il else l)=vs;dsimp only
 split
 ·exact DC.andThen (.unsup _) fun _=>DC.andThen (.alloc fun n=>.pure n) fun _=>.pure _
 ·exact DC.andThen (.alloc fun n=>.pure n) fun _=>.pure _
theorem ku (e:η) (env:LU):DC (L8 e env):=by
  unfold L8
  cases env.frame with
  | none => exact .unsup _
  | some f =>
    refine DC.andThen (kq _ _) fun hd=>?_;have tail:DC (do
        let a <- Nm env
        let pl <- LK f (hd != .none)
        let b <- Jg hd a .none (Kh f) .none pl
        Mb e 1 b):=DC.andThen (vO _) fun _=>DC.andThen (zS _ _) fun _=>DC.andThen (uj _ _ _ _ _ _) fun _=>iy _ _ _
    refine ix ?_ tail;refine DC.andThen (kq _ _) fun x=>ix (.pure _) (DC.andThen (iy _ _ _) fun _=>tail)
theorem mW (env:LU) (e:η):DC (NO env e):=by
 unfold NO;exact DC.andThen (ku _ _) fun _=>gO _ _
def FG (e:ς) (c:Option η) (h:IC):Prop:=∃ o,h.get? e=some o/\jF o=c
noncomputable def CX2 (P:HS) (w:ID):CXT:=fun outer H s E x s'=>∃ (e C:ς) (xo:Option ς) (H':Hp),x=.ref e/\s'.os=s.os/\LN s'.gens/\Un (frs outer) [] H H' s.heap s'.heap/\HOk P w H' s'.heap/\Exc s.heap s'.heap H' e C xo/\FG e (some .none) s'.heap/\E (.ref C) xo H'
section
variable {P:HS} {w:ID} {K:A_} {mg:Str->Option η} {base:IC} {N:List Str} {qual:Str} {scope:LG} {f:ς} {cd:η} {A:IA} {outer:List LU} {s₀:χ} {H₀:Hp} {E:XK} {pins:List (ς×Iz)} {σ:St} {H:Hp} {s:χ}
theorem B4 {e C:ς} {xo:Option ς} {oe:Iz} {vs:Array η} (I1:Inv (cE (CX2 P w) P w K mg base N qual scope f cd A outer s₀ H₀ E) pins σ H s) (he:s.heap.get? e=some oe) (hcl:oe.cls=.ref C) (hda:oe.data=.fields vs) (h1:vs[1]?=some .none)
  (hs0:s₀.heap.get? e=none) (hHe:H e=none) (dc:∀ dx,xo=some dx->oe.dict=some dx) (hc2:vs[2]?=some .none) (q:E (.ref C) xo H):(cE (CX2 P w) P w K mg base N qual scope f cd A outer s₀ H₀ E).xe (.ref e) s:=by
 have ff:=I1.stack;have hl:=Jb (as:=e::frs (cE (CX2 P w) P w K mg base N qual scope f cd A outer s₀ H₀ E).stack) ff (eT fun b hb=>Au _ hb);have fin:=wpAny_leaving_first (M:=B_ P w) (E:=fun v s'=>CX2 P w outer H₀ s₀ E v s') (base:=Im s.heap (e::frs (cE (CX2 P w) P w K mg base N qual scope f cd A outer s₀ H₀ E).stack)) (L:=s₀.heap.objs.size) (e:=e) (s:=s) (Q:=fun _ s'=>∃ h2,s'={ s with heap:=h2 }/\N8 (Im s.heap (e::frs (cE (CX2 P w) P w K mg base N qual scope f cd A outer s₀ H₀ E).stack)) (KL qual scope s₀.heap.objs.size f cd::outer) e oe.cls s.heap h2) I1.ok.frames hl rfl he (fun b o z=>Jr _ z) (IY _ Θ) hda h1 fun h2 lf=>⟨h2,rfl,lf⟩
 refine Hq (DC.any (mW _ _) fin ⟨oe,he,rfl⟩) (fun _ s' ⟨⟨h2,e2,lf⟩,hd2⟩=>?_) fun _ _ z=>z;subst e2;obtain ⟨st,ff2,tr,up⟩:=lf;have lf:=I1.left (h':=h2) (es:=[e]) rfl (fun b hb=>by rw [HL.mp hb]; exact ⟨hHe,hs0⟩) (fun b o z nf ne=>st b o (Ii _ z (by intro m; rcases Ξ.mp m with r | r; exact ne (by simp [r]); exact nf r)))
  (fun b o z hb=>by
   obtain ⟨_,o',z',hd⟩:=ff.mem hb;rw [z] at z'; cases z';exact up b o z hd)
 obtain ⟨oe',ws,T,oT,ts,g1,g2,g3,g4,g5,g6,g7,g8,g9⟩:=tr;have nT:T∉frs (cE (CX2 P w) P w K mg base N qual scope f cd A outer s₀ H₀ E).stack:=fun z=>by
  obtain ⟨_,o,zo,hd⟩:=ff2.mem z;rw [g7] at zo; cases zo;exact hd ts g8
 have key:∀ o,s.heap.get? T=some o->False:=fun o z=>by
  rw [Ii _ z (by intro m; rcases Ξ.mp m with r | r; exact g6 r; exact nT r)] at g5
  cases g5
 have hT0:s₀.heap.get? T=none:=by
  cases z:s₀.heap.get? T with
  | none => rfl
  | some o => obtain ⟨o', z'⟩ := I1.base.there T o z (by intro q; cases q); exact (key o' z').elim
 have hHT:H T=none:=by
  cases z:H T with
  | none => rfl
  | some o => obtain ⟨o', z'⟩ := (I1.hok T o z).get; exact (key o' z').elim
 refine ⟨e,C,xo,H,rfl,I1.os,I1.bare,lf.1,lf.2,⟨⟨oe',ws,T,oT,ts,g1,g2.trans hcl,g3,g4,hT0,g6,g7,g8,g9⟩,hs0,hHe,fun oe2 vs' T' z1 z2 z3=>?_,fun dx z=>by obtain ⟨o9,y1,y2⟩:=hd2; exact ⟨o9,y1,(congrArg Prod.fst y2).trans (dc dx z)⟩⟩,by obtain ⟨o9,y1,y2⟩:=hd2; exact ⟨o9,y1,(congrArg Prod.snd y2).trans (by unfold jF; rw [hda]; exact hc2)⟩,q⟩;rw [g1] at z1; cases z1;rw [g3] at z2; cases z2;rw [g4] at z3; cases z3;exact hHT
theorem kZ {h':IC} {t':Nat} {e C:ς} {vs:List η} (I:Inv (cE (CX2 P w) P w K mg base N qual scope f cd A outer s₀ H₀ E) pins σ H s) (hx:K9 s.heap h' e (.ref C) vs) (q:E (.ref C) none H) :
  (cE (CX2 P w) P w K mg base N qual scope f cd A outer s₀ H₀ E).xe (.ref e) { s with heap:=h',toks:=t' }:=by
 have I1:=I.kept (t':=t') hx.keeps;obtain ⟨t,he,ht,_⟩:=hx.there
 have hs0:s₀.heap.get? e=none:=by
  cases z:s₀.heap.get? e with
  | none => rfl
  | some o => obtain ⟨o', z'⟩ := I.base.there e o z (by intro q; cases q); rw [hx.new] at z'; cases z'
 exact B4 I1 he rfl rfl rfl hs0 (I.hok.none_of hx.new) (fun _ z=>by cases z) rfl q
theorem kL:fx (CX2 P w) (cE (CX2 P w) P w K mg base N qual scope f cd A outer s₀ H₀ E) E:=by
  intro pins σ H s x s' I h;obtain ⟨e,C,xo,H',rfl,os,bare,un,hok,ex,hcx,q⟩:=h;have J:=I.call' (s':=s') (ch:=[]) os un hok bare (fun b hb=>by cases hb);obtain ⟨⟨oe,ws,T,oT,ts,g1,g2,g3,g4,g5,g6,g7,g8,g9⟩,ne,hHe,hHT,dc⟩:=ex;have hHT:=hHT oe ws T g1 g3 g4;have s0:∀ {b:ς},s.heap.get? b=none->s₀.heap.get? b=none:=fun {b} hb=>by
    cases z:s₀.heap.get? b with
    | none=>rfl
    | some o=>obtain ⟨o',z'⟩:=I.base.there b o z (by intro q; cases q); rw [hb] at z'; cases z'
  have ff:=J.stack;have hl:=Jb (as:=e::T::frs (cE (CX2 P w) P w K mg base N qual scope f cd A outer s₀ H₀ E).stack) ff (eT fun b hb=>Au _ (Au _ hb));have fin:=wpAny_leaving_next (M:=B_ P w) (E:=fun v s'=>CX2 P w outer H₀ s₀ E v s') (base:=Im s'.heap (e::T::frs (cE (CX2 P w) P w K mg base N qual scope f cd A outer s₀ H₀ E).stack)) (L:=s₀.heap.objs.size) (e:=e) (s:=s') (Q:=fun _ s2=>∃ h2,s2={ s' with heap:=h2 }/\N8 (Im s'.heap (e::T::frs (cE (CX2 P w) P w K mg base N qual scope f cd A outer s₀ H₀ E).stack)) (KL qual scope s₀.heap.objs.size f cd::outer) e (.ref C) s'.heap h2) J.ok.frames hl rfl
    ⟨oe,ws,T,oT,ts,g1,g2,g3,g4,IY _ (Au _ Θ),g6,g7,g8,g9⟩ (fun b o z=>Jr _ z) (IY _ Θ) fun h2 lf=>⟨h2,rfl,lf⟩
  refine Hq (DC.any (mW _ _) fin ⟨oe,g1,rfl⟩) (fun _ s2 ⟨⟨h2,e2,lf⟩,hd2⟩=>?_) fun _ _ z=>z;subst e2;obtain ⟨st,ff2,tr,up⟩:=lf;have lf:=J.left (h':=h2) (es:=[e,T]) rfl (fun b hb=>by
      simp only [Ξ,HJ,or_false] at hb;rcases hb with rfl | rfl
      · exact ⟨hHe,s0 ne⟩
      · exact ⟨hHT,s0 g5⟩) (fun b o z nf ne=>st b o (Ii _ z (by
        intro m;rcases Ξ.mp m with r | m
        · exact ne (by simp [r])
        · rcases Ξ.mp m with r | r
          · exact ne (by simp [r])
          · exact nf r)))
      (fun b o z hb=>by
        obtain ⟨_,o',z',hd⟩:=ff.mem hb;rw [z] at z'; cases z';exact up b o z hd)
  obtain ⟨oe2,ws2,T2,oT2,ts2,k1,k2,k3,k4,k5,k6,k7,k8,k9⟩:=tr;have nT:T2∉frs (cE (CX2 P w) P w K mg base N qual scope f cd A outer s₀ H₀ E).stack:=fun z=>by
    obtain ⟨_,o,zo,hd⟩:=ff2.mem z;rw [k7] at zo; cases zo;exact hd ts2 k8
  have hT0:s₀.heap.get? T2=none/\H' T2=none:=by
    by_cases r:T2=T
    · subst r; exact ⟨s0 g5,hHT⟩
    · have key:∀ o,s'.heap.get? T2=some o->False:=fun o z=>by
        rw [Ii _ z (by
          intro m;rcases Ξ.mp m with q | m
          · exact k6 q
          · rcases Ξ.mp m with q | q
            · exact r q
            · exact nT q)] at k5
        cases k5
      constructor
      · cases z:s₀.heap.get? T2 with
        | none=>rfl
        | some o=>obtain ⟨o',z'⟩:=J.base.there T2 o z (by intro q; cases q); exact (key o' z').elim
      · cases z:H' T2 with
        | none=>rfl
        | some o=>obtain ⟨o',z'⟩:=(J.hok T2 o z).get; exact (key o' z').elim
  refine ⟨e,C,xo,H',rfl,J.os,J.bare,lf.1,lf.2,⟨⟨oe2,ws2,T2,oT2,ts2,k1,k2,k3,k4,hT0.1,k6,k7,k8,k9⟩,s0 ne,hHe,fun oe' vs' T' z1 z2 z3=>?_,fun dx z=>by
      obtain ⟨o,y1,y2⟩:=dc dx z;rw [g1] at y1; cases y1;obtain ⟨o9,y3,y4⟩:=hd2;exact ⟨o9,y3,(congrArg Prod.fst y4).trans y2⟩⟩,by
      obtain ⟨o,y1,y2⟩:=hcx;rw [g1] at y1; cases y1;obtain ⟨o9,y3,y4⟩:=hd2;exact ⟨o9,y3,(congrArg Prod.snd y4).trans y2⟩,q⟩
  rw [k1] at z1; cases z1;rw [k3] at z2; cases z2;rw [k4] at z3; cases z3;exact hT0.2
end
def XT2 (X:Cx) (pins:List (ς×Iz)) (ET:St->XK):η->χ->Prop:=fun x s'=>∃ (σ:St) (e C:ς) (xo:Option ς) (H':Hp),x=.ref e/\Inv X pins σ H' s'/\Exc X.s₀.heap s'.heap H' e C xo /\
 (∀ p∈X.pn++pins,p.1≠e/\∀ oe vs T,s'.heap.get? e=some oe->oe.data=.fields vs->vs[1]?=some (.ref T)->p.1≠T)/\FG e (some .none) s'.heap/\ET σ (.ref C) xo H'
theorem AA {X:Cx} {pins:List (ς×Iz)} {ET:St->XK} (hx:X.ex=[]:=by rfl):fU (CX2 X.prog X.w) (X.tryIn pins (XT2 X pins ET)) ET:=by
 intro pins' σ H s x s' I h;obtain ⟨e,C,xo,H',rfl,os,bare,un,hok,ex,hcx,q⟩:=h;have J:=I.call' (s':=s') (ch:=[]) os un hok bare (fun b hb=>by cases hb);obtain ⟨⟨oe,ws,T,oT,ts,g1,g2,g3,g4,g5,g6,g7,g8,g9⟩,ne,hHe,hHT,dc⟩:=ex;have s0:∀ {b:ς},s.heap.get? b=none->X.s₀.heap.get? b=none:=fun {b} hb=>by
  cases z:X.s₀.heap.get? b with
  | none => rfl
  | some o => obtain ⟨o', z'⟩ := I.base.there b o z (by show b ∉ X.ex; rw [hx]; simp); rw [hb] at z'; cases z'
 refine ⟨σ,e,C,xo,H',rfl,J.tryOut,⟨⟨oe,ws,T,oT,ts,g1,g2,g3,g4,s0 g5,g6,g7,g8,g9⟩,s0 ne,hHe,hHT,dc⟩,fun p hp=>?_,hcx,q⟩;have hp':=(I.pin p (Ji _ hp)).1;refine ⟨fun z=>(by rw [z,ne] at hp'; cases hp'),fun oe' vs' T' z1 z2 z3 z=>?_⟩;rw [g1] at z1; cases z1;rw [g3] at z2; cases z2;rw [g4] at z3; cases z3;rw [z,g5] at hp'
 cases hp'
section
variable {P:HS} {w:ID} {K:A_} {mg:Str->Option η} {base:IC}
theorem Fun.ok2 {x qual:Str} {st:Kf} {f:ς} {fd:IJ} {N ps:List Str} {k:Nat} {sp:Sp} (F:Fun K x qual st f fd) (S:aA N ps (ak st)) (len:∀ vs H Q E,sp vs H Q E->vs.length=ps.length)
  (hbody:∀ (cdv:η) (A:IA) (outer:List LU) (s:χ) (H:Hp) (vs:List V) (Q:VK) (E:XK),cM k (A.deeper (KL qual (ak st) s.heap.objs.size f cdv))->sp vs H Q E ->
   ∃ t,PSs (cE (CX2 P w) P w K mg base N qual (ak st) f cdv A outer s H E) (df st) t/\t { nx:=fun _ H'=>Q .non H',rt:=Q } (gf N vs) H):aR P w K mg base (CX2 P w) (k+1) f fd ps sp:=by
 obtain ⟨oc,od,kV,doc,pm,an,cdv,ct,osl,rfl,lk,hcd⟩:=F.ex;exact z9 lk hcd S len fun A outer s H vs Q E hr hsp=>hbody cdv A outer s H vs Q E hr hsp
theorem aR.up2 {k:Nat} {f:ς} {fd:IJ} {ps:List Str} {sp:Sp} (F:aR P w K mg base CX0 k f fd ps sp):aR P w K mg base (CX2 P w) k f fd ps sp :=
 ⟨F.len,fun A outer s H args us vs Q E hr e0 hb hv hs=>JM (F.run A outer s H args us vs Q E hr e0 hb hv hs) fun r s' h=>by
  cases r with
  | error e => exact Hz h
  | ok fl => cases fl <;> exact h⟩
theorem aR.one {k:Nat} {f:ς} {fd:IJ} {ps:List Str} {sp:Sp} (F:aR P w K mg base (CX2 P w) k f fd ps sp):aR P w K mg base (CX1 P w) k f fd ps sp :=
 ⟨F.len,fun A outer s H args us vs Q E hr e0 hb hv hs=>JM (F.run A outer s H args us vs Q E hr e0 hb hv hs) fun r s' h=>by
  cases r with
  | error e => obtain ⟨e, C, xo, H', h1, h2, h3, h4, h5, h6, _, h7⟩ := h; exact ⟨e, C, xo, H', h1, h2, h3, h4, h5, h6, h7⟩
  | ok fl => cases fl <;> exact h⟩
end
theorem mz {H:Hp} {e:ς} {o:HO} (h:H e=none):del (upd H e o) e=H:=by
 funext b
 unfold del upd;by_cases q:b=e
 ·rw [if_pos q,q,h]
 ·rw [if_neg q,if_neg q]
section
variable {P:HS} {w:ID} {K:A_} {mg:Str->Option η} {base:IC} {N:List Str} {qual:Str} {scope:LG} {f:ς} {cd:η} {A:IA} {outer:List LU} {s₀:χ} {H₀:Hp} {E:XK} {pins:List (ς×Iz)} {σ:St} {H:Hp} {s:χ}
theorem x5 {e T C:ς} {oe oT:Iz} {ws ts:Array η} (I:Inv (cE (CX1 P w) P w K mg base N qual scope f cd A outer s₀ H₀ E) pins σ H s) (he:s.heap.get? e=some oe) (hcl:oe.cls=.ref C) (hda:oe.data=.fields ws) (h1:ws[1]?=some (.ref T)) (hTe:T≠e)
    (hT:s.heap.get? T=some oT) (hdT:oT.data=.fields ts) (h3:ts[3]?=some (Kh s₀.heap.objs.size)) (hs0:s₀.heap.get? e=none) (hT0:s₀.heap.get? T=none) (hHe:H e=none) (hHT:H T=none) (q:E (.ref C) none H) :
    (cE (CX1 P w) P w K mg base N qual scope f cd A outer s₀ H₀ E).xe (.ref e) s:=by
  have ff:=I.stack;have hl:=Jb (as:=e::T::frs (cE (CX1 P w) P w K mg base N qual scope f cd A outer s₀ H₀ E).stack) ff (eT fun b hb=>Au _ (Au _ hb));obtain ⟨a0,h0⟩:∃ a0,ws[0]?=some a0:=by
    have hsz:1<ws.size:=(JH.mp h1).1;exact ⟨ws[0],by simp [show 0<ws.size by omega]⟩
  have held:Ov (Im s.heap (e::T::frs (cE (CX1 P w) P w K mg base N qual scope f cd A outer s₀ H₀ E).stack)) (KL qual scope s₀.heap.objs.size f cd::outer) e (.ref C) a0 s₀.heap.objs.size s.heap :=
    ⟨fun b o z=>Jr _ z,IY _ Θ,hl,⟨oe,ws,T,oT,ts,he,⟨hcl,h0⟩,hda,h1,IY _ (Au _ Θ),hTe,hT,hdT,h3⟩⟩
  show BG (B_ P w) _ (NO (KL qual scope s₀.heap.objs.size f cd) (.ref e)) (fun _ s''=>CX1 P w outer H₀ s₀ E (.ref e) s'') (fun e' s''=>CX1 P w outer H₀ s₀ E e' s'') s
  unfold NO;refine θ (wpAny_noteFrame_againW (L:=s₀.heap.objs.size) rfl held.2.2.2 ?_);refine wpAny_landsW held fun h2 fl up=>?_;obtain ⟨st,_,ff2,tr⟩:=fl;have lf:=I.left (h':=h2) (es:=[e,T]) rfl (fun b hb=>by
      simp only [Ξ,HJ,or_false] at hb;rcases hb with rfl | rfl
      · exact ⟨hHe,hs0⟩
      · exact ⟨hHT,hT0⟩) (fun b o z nf ne=>st b o (Ii _ z (by
        intro m;rcases Ξ.mp m with r | m
        · exact ne (by simp [r])
        · rcases Ξ.mp m with r | r
          · exact ne (by simp [r])
          · exact nf r)))
      (fun b o z hb=>by
        obtain ⟨_,o',z',hd⟩:=ff.mem hb;rw [z] at z'; cases z';exact up b o z hd)
  obtain ⟨oe2,ws2,T2,oT2,ts2,k1,k2,k3,k4,k5,k6,k7,k8,k9⟩:=tr;have nT:T2∉frs (cE (CX1 P w) P w K mg base N qual scope f cd A outer s₀ H₀ E).stack:=fun z=>by
    obtain ⟨_,o,zo,hd⟩:=ff2.mem z;rw [k7] at zo; cases zo;exact hd ts2 k8
  have hT2:s₀.heap.get? T2=none/\H T2=none:=by
    by_cases r:T2=T
    · subst r; exact ⟨hT0,hHT⟩
    · have key:∀ o,s.heap.get? T2=some o->False:=fun o z=>by
        rw [Ii _ z (by
          intro m;rcases Ξ.mp m with q | m
          · exact k6 q
          · rcases Ξ.mp m with q | q
            · exact r q
            · exact nT q)] at k5
        cases k5
      constructor
      · cases z:s₀.heap.get? T2 with
        | none=>rfl
        | some o=>obtain ⟨o',z'⟩:=I.base.there T2 o z (by intro q; cases q); exact (key o' z').elim
      · cases z:H T2 with
        | none=>rfl
        | some o=>obtain ⟨o',z'⟩:=(I.hok T2 o z).get; exact (key o' z').elim
  refine ⟨e,C,none,H,rfl,I.os,I.bare,lf.1,lf.2,⟨⟨oe2,ws2,T2,oT2,ts2,k1,k2.1,k3,k4,hT2.1,k6,k7,k8,k9⟩,hs0,hHe,fun oe' vs' T' z1 z2 z3=>?_,fun dx z=>by cases z⟩,q⟩;rw [k1] at z1; cases z1;rw [k3] at z2; cases z2;rw [k4] at z3; cases z3;exact hT2.2
end
section
variable {M:MN} {A:IA} {E:η->χ->Prop} {s:χ}
theorem D4 {e T L:ς} {oe oT:Iz} {ws ts:Array η} {Q:Unit->χ->Prop} (he:s.heap.get? e=some oe) (hda:oe.data=.fields ws) (h1:ws[1]?=some (.ref T)) (hT:s.heap.get? T=some oT) (hdT:oT.data=.fields ts) (hz:3<ts.size)
  (h:Q () { s with heap:=s.heap.update T (IZ (·.setIfInBounds 3 (Kh L))) }):BG M A (LO (.ref e) (some L)) Q E s:=by
 unfold LO;refine θ (IU he hda h1 ?_);rw [if_pos (show (Bl T != Il)=true from by simp)];exact Kg hT hdT hz h
end
def vF (e C:ς) (h:IC):Prop:=∃ o vs,h.get? e=some o/\o.cls=.ref C/\o.data=.fields vs/\vs[2]?=some .none
def Ef (K:A_) (S C2:ς) (bm:List η) (nid:String) (E:XK) (tb:(St->XK)->TS):TS:=fun D σ H=>tb (fun _ cls xo H1=>∃ C,cls=.ref C/\Ik K (.ref C) (.ref S)=some true/\MV K C bm nid=true/\E (.ref C2) none H1) D σ H
theorem xM {K:A_} {S C2:ς} {bm:List η} {nid:String} {E:XK} {tb:(St->XK)->TS} {D:dn} {σ:St} {H:Hp} (h:tb (fun _ cls xo H1=>∃ C,cls=.ref C/\Ik K (.ref C) (.ref S)=some true/\MV K C bm nid=true/\E (.ref C2) none H1) D σ H):Ef K S C2 bm nid E tb D σ H:=h
theorem B3 {K:A_} {h base:IC} {mg:Str->Option η} {x:Str} {C:ς} {bm:List η} {B nid iid:String} (FB:LM B nid iid bm) (X:K.In base) (q:MV K C bm nid=true) (bk:∀ b o,base.get? b=some o->h.get? b=some o):XcO C h:=by
 obtain ⟨tl,N,nm,q,bs,hdct,sn,Nk,ab,col,dd,k0,k1,k2,k3,k5,mN,hC,hN,hni,T⟩:=(v9 (mg:=fun _=>some (.ref C)) (x:="x") X rfl q).obj;exact ⟨nm,q,N,bs,tl,hdct,sn,Nk,ab,col,dd,k0,k1,k2,k3,k5,nid,bk _ _ hC,T.hasType FB.hasBase⟩
theorem tO {X:Cx} {A':IA} {pins:List (ς×Iz)} {σ:St} {H:Hp} {s:χ} {i:Nat} {n:Str} {hpos:J8} {E:XK} {e C:ς} {oe:Iz} {ws:Array η} (hA:A'.frames=some X.stack) (hN:X.N.Nodup) (hi:X.N[i]?=some n) (hk:X.env.kindOf n=some .local) (hex:X.ex=[]) (hs:X.stack=X.env::X.outer) (hf:X.env.frame=some X.env.locals)
  (hx:∀ (pins:List (ς×Iz)) (σ:St) (H:Hp) (s:χ) (e T:ς) (oe oT:Iz) (ws ts:Array η),Inv X pins σ H s->s.heap.get? e=some oe->oe.cls=.ref C->oe.data=.fields ws->ws[1]?=some (.ref T)->T≠e->s.heap.get? T=some oT->oT.data=.fields ts->ts[3]?=some (Kh X.env.locals)->X.s₀.heap.get? e=none->X.s₀.heap.get? T=none->H e=none->H T=none->E (.ref C) none H->X.xe (.ref e) s)
  (I:Inv X pins σ H s) (he:s.heap.get? e=some oe) (hcl:oe.cls=.ref C) (hda:oe.data=.fields ws) (h1:ws[1]?=some .none) (hs0:X.s₀.heap.get? e=none) (hHe:H e=none) (hpe:∀ p∈X.pn++pins,p.1≠e) (k:E (.ref C) none H) :
  BG (B_ X.prog X.w) A' (L8 (.ref e) X.env) (fun _ s3=>BG (B_ X.prog X.w) A' (do NR X.env n .none; unbindBehindTheSuite X.env n hpos)
   (fun _ s4=>BG (B_ X.prog X.w) A' (passOn "try.except-as" (.ref e) X.env:LL Flow) (fun _ _=>False) (notedBy (B_ X.prog X.w) A' X.env (M9 (B_ X.prog X.w) X.A X.env X.xe)) s4)
   (fun y s4=>BG (B_ X.prog X.w) A' (LO (.ref e) none) (fun _ s5=>(notedBy (B_ X.prog X.w) A' X.env (M9 (B_ X.prog X.w) X.A X.env X.xe)) y s5) (notedBy (B_ X.prog X.w) A' X.env (M9 (B_ X.prog X.w) X.A X.env X.xe)) s4) s3) (notedBy (B_ X.prog X.w) A' X.env (M9 (B_ X.prog X.w) X.A X.env X.xe)) s:=by
 have ff:=I.stack;have hl:=Jb (as:=e::frs X.stack) ff (eT fun b hb=>Au _ hb);obtain ⟨a0,h0⟩:∃ a0,ws[0]?=some a0:=by
  have hsz:1<ws.size:=(JH.mp h1).1;exact ⟨ws[0],by simp [show 0<ws.size by omega]⟩
 unfold L8;simp only [hf];refine θ (IU he hda h1 ?_);rw [if_neg (by decide)];refine wpAny_entryW (base:=Im s.heap (e::frs X.stack)) (outer:=X.outer) (a0:=a0) (hA.trans (congrArg some hs)) (hs ▸ hl) hf he (fun b o z=>Jr _ z) (IY _ Θ) hda (JH.mp h1).1 h0 fun h2 nt=>?_;obtain ⟨st,ff2,tr,up⟩:=nt
 have I2:Inv X pins σ H { s with heap:=h2 }:=by
  refine I.held (es:=[e]) hs hf (fun b hb=>?_) (fun b o z nf nm=>st b o (Ii _ z ?_)) fun b o z hb=>?_
  ·rw [HL.mp hb]; exact ⟨hHe,hs0,hpe,oe,ws,he,hda⟩
  ·intro m;rcases Ξ.mp m with r | r
   ·exact nm (by simp [r])
   ·exact nf r
  ·obtain ⟨_,o',z',hd'⟩:=ff.mem hb;rw [z] at z'; cases z';exact up b o z hd'
 obtain ⟨oe2,ws2,T,oT,ts,k1,k2,k3,k4,k5,k6,k7,k8,k9⟩:=tr;have nT:T∉frs X.stack:=fun z=>by
  rw [hs] at z;obtain ⟨_,o,zo,hd⟩:=ff2.mem z;rw [k7] at zo; cases zo;exact hd ts k8
 have key:∀ o,s.heap.get? T=some o->False:=fun o z=>by
  rw [Ii _ z (by intro m; rcases Ξ.mp m with r | r; exact k6 r; exact nT r)] at k5
  cases k5
 have hT0:X.s₀.heap.get? T=none:=by
  cases z:X.s₀.heap.get? T with
  | none => rfl
  | some o => obtain ⟨o', z'⟩ := I.base.there T o z (by rw [hex]; intro q; cases q); exact (key o' z').elim
 have hHT:H T=none:=by
  cases z:H T with
  | none => rfl
  | some o => obtain ⟨o', z'⟩ := (I.hok T o z).get; exact (key o' z').elim
 have hpT:∀ p∈X.pn++pins,p.1≠T:=fun p hq z=>key p.2 (z ▸ (I.pin p hq).1)
 have I3:Inv X pins σ (upd (upd H e (.ext fun h=>h.get? e=some oe2)) T (.ext fun h=>h.get? T=some oT)) { s with heap:=h2 }:=by
  refine (I2.track hHe hs0 hpe ⟨oe2,ws2,k1,k3⟩ k1 fun _ _ z kk=>kk _ z).track (by rw [aE k6]; exact hHT) hT0 hpT ⟨oT,ts,k7,k8⟩ k7 fun _ _ z kk=>kk _ z
 refine kC I3 hN hi hk fun s4 I4=>?_;have z1:s4.heap.get? e=some oe2:=(show bP X.prog X.w _ s4.heap e (.ext fun h=>h.get? e=some oe2) from I4.hok e _ (by rw [aE (IL k6),af])).1;have z2:s4.heap.get? T=some oT:=(show bP X.prog X.w _ s4.heap T (.ext fun h=>h.get? T=some oT) from I4.hok T _ af).1
 have I5:Inv X pins (σ.set i none) H s4:=by
  have J:=I4.untrack af;rw [mz (by rw [aE k6]; exact hHT)] at J;have J:=J.untrack af;rw [mz hHe] at J;exact J
 have z3:3<ts.size:=(JH.mp k9).1;unfold PySem.passOn;refine θ (IU z1 k3 k4 ?_);rw [if_neg (show ¬ ((Bl T==Il)=true) by simp),hf];refine θ (D4 (L:=X.env.locals) z1 k3 k4 z2 k8 z3 (wpAny_throw ?_));have gT:∀ (hp:IC) (o:Iz) (vs:Array η),hp.get? T=some o->o.data=.fields vs->3<vs.size->∃ o' vs',(hp.update T (IZ (·.setIfInBounds 3 (Kh X.env.locals)))).get? T=some o'/\o'.data=.fields vs'/\vs'[3]?=some (Kh X.env.locals)/\3<vs'.size:=fun hp o vs y1 y2 y3 =>
  ⟨_,_,I_ _ y1 (OW (LD y2 _)),LD y2 _,by simp [y3],by simpa using y3⟩
 have ot:∀ (hp:IC) (b:ς),b≠T->(hp.update T (IZ (·.setIfInBounds 3 (Kh X.env.locals)))).get? b=hp.get? b:=fun hp b z=>Ib _ _ (IL z);obtain ⟨oT3,ts3,y1,y2,y3,y4⟩:=gT _ _ _ z2 k8 z3;have y0:=(ot s4.heap e (IL k6)).trans z1;unfold notedBy;refine wpAny_noteFrame_againW (base:=Im s4.heap [T]) (a0:=a0) (cls:=oe.cls) hf ⟨oe2,ws2,T,oT3,ts3,y0,k2,k3,k4,IY _ Θ,k6,y1,y2,y3⟩ ?_;unfold M9;refine θ (IU y0 k3 k4 ?_);rw [if_neg (show ¬ ((Bl T==Il)=true) by simp),hf];refine D4 (L:=X.env.locals) y0 k3 k4 y1 y2 y4 ?_;obtain ⟨oT4,ts4,x1,x2,x3,x4⟩:=gT _ _ _ y1 y2 y4;have x0:=(ot _ e (IL k6)).trans y0;refine hx pins (σ.set i none) H _ e T oe2 oT4 ws2 ts4 ?_ x0 (k2.1.trans hcl) k3 k4 k6 x1 x2 x3 hs0 hT0 hHe hHT k
 show Inv X pins (σ.set i none) H { s4 with heap:=(s4.heap.update T (IZ (·.setIfInBounds 3 (Kh X.env.locals)))).update T (IZ (·.setIfInBounds 3 (Kh X.env.locals))) }
 refine Inv.held (s:=s4) (es:=[T]) I5 hs hf (fun b hb=>?_) (fun b o z nf nm=>?_) fun b o z hb=>?_
 ·rw [HL.mp hb]; exact ⟨hHT,hT0,hpT,oT,ts,z2,k8⟩
 ·have nb:b≠T:=fun q=>nm (by simp [q]);rw [ot _ _ nb,ot _ _ nb]; exact z
 ·have nb:b≠T:=fun q=>nT (q ▸ hb);exact ⟨o.slots,by rw [ot _ _ nb,ot _ _ nb]; exact z⟩
theorem xC {X:Cx} {i:Nat} {n x x2:Str} {S C2:ς} {body:List Kf} {a:II} {as:List II} {np np2 np3 hpos cpos rpos pos:J8} {tb:(St->XK)->TS} {t:TA} {E:XK} {bm bm2:List η} {B nid iid B2 nid2 iid2:String} (hN:X.N.Nodup) (hi:X.N[i]?=some n) (hk:X.env.kindOf n=some .local)
    (hg:Gl X x) (hm:X.mg x=some (.ref S)) (hb:∀ pins ET,PSs (X.tryIn pins (XT2 X pins ET)) body (tb ET))
    (hg2:Gl X x2) (hm2:X.mg x2=some (.ref C2)) (q2:MV X.K C2 bm2 nid2=true) (FB2:LM B2 nid2 iid2 bm2) (FB:LM B nid iid bm) (ha:∀ e,PA (X.suite e) (a::as) t) (ht:∀ σ H (Q:List V->Hp->Prop),(∀ v,Q [v] H)->t σ H Q)
    (hx:∀ (pins:List (ς×Iz)) (σ:St) (H:Hp) (s:χ) (e T:ς) (oe oT:Iz) (ws ts:Array η),Inv X pins σ H s->s.heap.get? e=some oe->oe.cls=.ref C2->oe.data=.fields ws->ws[1]?=some (.ref T)->T≠e->s.heap.get? T=some oT->oT.data=.fields ts->ts[3]?=some (Kh X.env.locals)->X.s₀.heap.get? e=none->X.s₀.heap.get? T=none->H e=none->H T=none->E (.ref C2) none H->X.xe (.ref e) s)
    (hex:X.ex=[]:=by rfl) (hs:X.stack=X.env::X.outer:=by rfl) (hf:X.env.frame=some X.env.locals:=by rfl) (hd:(x==("__debug__":Str))=false:=by decide) (hd2:(x2==("__debug__":Str))=false:=by decide)
    (hdn:(n==("__debug__":Str))=false:=by decide) (hcn:(n==("__classdict__":Str))=false:=by decide)
    (he:D_ (a::as) X.env=(false,Ip a X.env)::D_ as X.env:=by rfl) (hpl:(JD cpos (D_ as X.env)).any (·.1)=false:=by rfl) :
    PS X (.Try body [.ExceptHandler (some (.Name x np)) (some n) [.Raise (some (.Call (.Name x2 np2) (a::as) [] cpos)) (some (.Name n np3)) rpos] hpos] [] [] pos) (Ef X.K S C2 bm nid E tb):=by
  intro pins s σ H D I h;refine wpAny_Try_except (Hq (hb pins _ [] s σ H D (I.tryIn _) h) (fun f s1 q=>?_) (fun y s1 q=>?_))
  · have q:=q.tryOut
    cases f with
    | next =>
      obtain ⟨σ',H',I',q'⟩:=q;exact aB pins s1 σ' H' D I' q'
    | brk=>exact q
    | cont=>exact q
    | ret u=>exact q
  · obtain ⟨σ1,e,C,xo,H1,rfl,I1,ex,hp,hcx,C',hC,hx',qC,k⟩:=q
    cases hC;obtain ⟨⟨oe,ws,T,oT,tl,g1,g2,g3,g4,g5,g6,g7,g8,g9⟩,ne,hHe,hHT,dc⟩:=ex;have hHT:=hHT oe ws T g1 g3 g4;obtain ⟨a0,h0⟩:∃ a0,ws[0]?=some a0:=by
      have hsz:1<ws.size:=(JH.mp g4).1;exact ⟨ws[0],by simp [show 0<ws.size by omega]⟩
    have ff:=I1.stack;have hl:=Jb (as:=e::T::frs X.stack) ff (eT fun b hb=>Au _ (Au _ hb))
    have fl:K2 (Im s1.heap (e::T::frs X.stack)) (X.env::X.outer) e (.ref C) a0 s1.heap :=
      ⟨fun b o z=>Jr _ z,IY _ Θ,hs ▸ hl,⟨oe,ws,T,oT,tl,g1,⟨g2,h0⟩,g3,g4,IY _ (Au _ Θ),g6,g7,g8,g9⟩⟩
    have stay:∀ h',Heap.StaysIn (Im s1.heap (e::T::frs X.stack)) h'->s1.heap.UpToSlots h'->Inv X pins σ1 H1 { s1 with heap:=h' }:=fun h' st sm=>by
      refine I1.held (es:=[e,T]) hs hf (fun b hb=>?_) (fun b o z nf nm=>st b o (Ii _ z ?_)) fun b o z hb=>?_
      · simp only [Ξ,HJ,or_false] at hb
        rcases hb with rfl | rfl
        · exact ⟨hHe,ne,fun p hq=>(hp p hq).1,oe,ws,g1,g3⟩
        · exact ⟨hHT,g5,fun p hq=>(hp p hq).2 oe ws _ g1 g3 g4,oT,tl,g7,g8⟩
      · intro m
        rcases Ξ.mp m with r | m
        · exact nm (by simp [r])
        · rcases Ξ.mp m with r | r
          · exact nm (by simp [r])
          · exact nf r
      · obtain ⟨_,o',z',hd'⟩:=ff.mem hb
        rw [z] at z'; cases z';exact sm b o z hd'
    refine Hq (DC.any (ku _ _) (wpAny_looks_onW (Q:=fun _ s2=>∃ h4,s2={ s1 with heap:=h4 }/\Ov (Im s1.heap (e::T::frs X.stack)) (X.env::X.outer) e (.ref C) a0 X.env.locals h4/\s1.heap.UpToSlots h4) (I1.ok.frames.trans (congrArg some hs)) hf fl fun h4 held sm4=>⟨h4,rfl,held,sm4⟩) ⟨oe,g1,rfl⟩) (fun _ s2 ⟨⟨h4,e4,held,sm4⟩,d4⟩=>?_) fun _ _ z=>z;subst e4;refine Hq (DC.any (gO _ _) (wpAny_landsW (s:={ s1 with heap:=h4 }) (Q:=fun _ s2=>∃ h5,s2={ s1 with heap:=h5 }/\K2 (Im s1.heap (e::T::frs X.stack)) (X.env::X.outer) e (.ref C) a0 h5/\h4.UpToSlots h5) held fun h5 fl5 sm5=>⟨h5,rfl,fl5,sm5⟩) d4) (fun _ s2 ⟨⟨h5,e5,fl5,sm5⟩,d5⟩=>?_) fun _ _ z=>z;subst e5;have I5:=stay h5 fl5.1 (sm4.trans sm5);refine wpAny_handleBy_cons (codeAny_handlers_test (dN (X:=X.suite e) I5.suite hg hm ?_ hd)) (by intro q; cases q);have LT:NV (B_ X.prog X.w) h5 (M7 (.ref e)) (.ref C):=ij.looks fl5.there;refine (W.exm_one (h:=h5) I5.kIn LT hx').here ?_;refine OU ?_;refine Hq (DC.any (gO _ _) (lands_againW (s:={ s1 with heap:=h5 }) (Q:=fun _ s2=>∃ h6,s2={ s1 with heap:=h6 }/\K2 (Im s1.heap (e::T::frs X.stack)) (X.env::X.outer) e (.ref C) a0 h6/\h5.UpToSlots h6) fl5 fun h6 fl6 sm6=>⟨h6,rfl,fl6,sm6⟩) d5) (fun _ s2 ⟨⟨h6,e6,fl6,sm6⟩,d6⟩=>?_) fun _ _ z=>z;subst e6;have I6:=stay h6 fl6.1 ((sm4.trans sm5).trans sm6);obtain ⟨oe6,ws6,z1,z2,z3,_⟩:=fl6.first
    have c6:ws6[2]?=some .none:=by
      obtain ⟨o,y1,y2⟩:=hcx;rw [g1] at y1; cases y1;obtain ⟨o,y3,y4⟩:=d6;rw [show ({ s1 with heap:=h6 }:χ).heap=h6 from rfl,z1] at y3; cases y3;have:=(congrArg Prod.snd y4).trans y2
      unfold jF at this;rw [z3] at this;exact this
    have I7:Inv X pins σ1 (upd H1 e (.ext (vF e C))) { s1 with heap:=h6 }:=I6.track hHe ne (fun p hq=>(hp p hq).1) ⟨oe6,ws6,z1,z3⟩ ⟨oe6,ws6,z1,z2,z3,c6⟩ fun ha hb ⟨o,vs,p1,p2⟩ kk=>⟨o,vs,kk o p1,p2⟩
    refine fQ (X:=X.suite e) (v:=.ref e) I7.suite hN hi (.inl hk) rfl (fun s8 I8=>?_) (.inr hk);refine Ni ?_;rw [arm_exec_Raise];refine θ (Jd (wm (env:=X.env) (e1:=e) (C1:=C) (C2:=C2) rfl ?_));obtain ⟨tl2,N2,nm2,qn2,bs2,hdct2,sn2,sub2,ab2,col2,dd2,k02,k12,k22,k32,k52,mN2,hC2,hN2,hni2,T2⟩:=(v9 I.ok.mod.kin hm2 q2).obj;refine θ (Hq (wpAny_Call_ofName (dN (X:=X.suite e) I8 hg2 hm2 ?_ hd2)) (fun v s3 h3=>θ (Jd (Aw h3))) fun _ _ z=>z);have h1:=ha e cpos pins s8 _ _ (fun vs H2=>vs.length<=BC/\H2=upd H1 e (.ext (vF e C))) I8 (ht _ _ _ fun v=>⟨by show 1<=BC; decide,rfl⟩);have he':D_ (a::as) (X.suite e).env=(false,Ip a (X.suite e).env)::D_ as (X.suite e).env:=he;rw [he'] at h1;rw [he];unfold Mc;refine θ (Ij (Hq (show BG _ _ _ (fun (ar:Args) (s2:χ)=>ar.kw=[]/\ar.pos.length<=BC/\Inv (X.suite e) pins (σ1.set i (some (.ref e))) (upd H1 e (.ext (vF e C))) s2) _ _ from J2 (Hq h1 (fun us s2 ⟨vs,H2,I2,r2,hl2,hH2⟩=>⟨rfl,by show us.length<=BC; rw [<- r2.length]; exact hl2,hH2 ▸ I2⟩) fun _ _ y=>Hz y)) (fun ar s2 h2=>θ (Jd ?_)) fun _ _ x=>x));obtain ⟨apos,akw⟩:=ar;obtain ⟨hkw,hlen,I2⟩:=h2;obtain rfl:akw=[]:=hkw
    have hCh:=I2.bk _ _ hC2;have hNh:=hN2.keeps I2.bk;have hTh:=T2.keeps I2.bk;have plainB:(JD cpos ((false,Ip a X.env)::D_ as X.env)).any (·.1)=false:=by show (false||(JD cpos (D_ as X.env)).any (·.1))=false; rw [hpl]; rfl
    obtain ⟨hp2,gn2,dr2,tk2,os2⟩:=s2;simp only [plainB];refine θ (wpAny_keeperOf_exc hCh ?_);refine θ (wpAny_call_exc_subT (hrest:=hlen) FB2 hTh hCh hNh hni2 fun h' e2 mk=>θ (Ij (wpAny_point (Aw ?_))));obtain ⟨t2,ge2,_,_⟩:=mk.there;have hHe2:upd H1 e (.ext (vF e C)) e2=none:=I2.hok.none_of mk.new;have n2e:e2≠e:=fun z=>by rw [z,af] at hHe2; cases hHe2
    have hH12:H1 e2=none:=by rw [aE n2e] at hHe2; exact hHe2
    have n0:X.s₀.heap.get? e2=none:=by
      cases z:X.s₀.heap.get? e2 with
      | none=>rfl
      | some o=>obtain ⟨o',z'⟩:=I2.base.there e2 o z (by show e2∉X.ex; rw [hex]; intro q; cases q); rw [mk.new] at z'; cases z'
    have hp2':∀ p∈X.pn++pins,p.1≠e2:=fun p hq z=>by
      have hp':=(I2.pin p hq).1;rw [z,mk.new] at hp'
      cases hp'
    have I3:=(I2.kept (t':=tk2) mk.keeps).track (φ:=fun h=>h.get? e2=some { cls:=.ref C2,data:=.fields #[.ref t2,.none,.none,.none,.bool false,.none] }) hHe2 n0 hp2' ⟨_,_,ge2,rfl⟩ ge2 fun _ _ z kk=>kk _ z;refine ⟨e2,rfl,θ (Hq (AI (X:=X.suite e) (pos:=np3) hi (.inl hk) hdn hcn pins _ _ _ (fun v H'=>v=.ref e/\H'=upd (upd H1 e (.ext (vF e C))) e2 (.ext fun h=>h.get? e2=some { cls:=.ref C2,data:=.fields #[.ref t2,.none,.none,.none,.bool false,.none] })) I3 ⟨.ref e,?_,rfl,rfl⟩) (fun u s4 ⟨v,H',I4,ru,ev,eH⟩=>θ (Jd (Aw ?_))) fun _ _ z=>Hz z)⟩
    · have:i<σ1.length:=by rw [I1.len]; exact (F_.mp hi).1
      rw [KW this]
    subst ev eH;have w1:vF e C s4.heap:=(show bP X.prog X.w _ s4.heap e (.ext (vF e C)) from I4.hok e _ (by rw [aE (IL n2e),af])).1;have w2:s4.heap.get? e2=some { cls:=.ref C2,data:=.fields #[.ref t2,.none,.none,.none,.bool false,.none] }:=(show bP X.prog X.w _ s4.heap e2 (.ext fun h=>h.get? e2=some { cls:=.ref C2,data:=.fields #[.ref t2,.none,.none,.none,.bool false,.none] }) from I4.hok e2 _ af).1;have kin:X.K.In X.base:=I.ok.mod.kin;refine ⟨ru,IL n2e,B3 (mg:=X.mg) (x:=x) FB2 kin q2 I4.bk,B3 (mg:=X.mg) (x:=x) FB kin qC I4.bk,w1,t2,w2,fun h' hsame ge=>?_⟩
    have I5:Inv X pins (σ1.set i (some (.ref e))) H1 s4:=by
      have J:=I4.untrack af;rw [mz hHe2] at J;have J:=J.untrack af;rw [mz hHe] at J;exact J.unsuite I.ok
    have ff5:=I5.stack
    have I6':Inv X pins (σ1.set i (some (.ref e))) H1 { s4 with heap:=h' }:=by
      refine I5.held (es:=[e2]) hs hf (fun b hb=>?_) (fun b o z nf nm=>?_) fun b o z hb=>?_
      · rw [HL.mp hb]; exact ⟨hH12,n0,hp2',_,_,w2,rfl⟩
      · rw [hsame b fun q=>nm (by simp [q])]; exact z
      · have nb:b≠e2:=fun q=>by
          obtain ⟨_,o',z',hd'⟩:=ff5.mem hb;rw [q,w2] at z'; cases z';exact hd' _ rfl
        exact ⟨o.slots,by rw [hsame b nb]; exact z⟩
    exact tO (A':=(X.suite e).A) I8.ok.frames hN hi hk hex hs hf hx I6' ge rfl rfl rfl n0 hH12 hp2' k
end L2
namespace L2
open PySem PySem.Spec PyProof.Rows PySem.W
open Builtin Builtin.Str
def D9 (ta:TE):TE:=fun σ H Q=>ta σ H fun v H1=>(∃ n:Nat,v=.int (n:Int)/\n<100/\Q (.str (toString ((n:Nat):Int):String)) H1)\/∃ x:Str,v=.str x/\x.length<=BC/\Q (.str x) H1
theorem rO {ta:TE} {σ:St} {H:Hp} {Q:VK} (h:ta σ H fun v H1=>(∃ n:Nat,v=.int (n:Int)/\n<100/\Q (.str (toString ((n:Nat):Int):String)) H1)\/∃ x:Str,v=.str x/\x.length<=BC/\Q (.str x) H1):D9 ta σ H Q:=h
theorem rL {X:Cx} {e:II} {ta:TE} {pos:J8} (h:PE X e ta):PE X (.FormattedValue e (-1) none pos) (D9 ta):=by
 intro pins s σ H Q I q;refine FormattedValue_plain (thn (h pins s σ H _ I q) fun u s1 ⟨v,H1,I1,r,k⟩=>?_);rcases k with ⟨n,ev,hn,k⟩ | ⟨x,ev,hx,k⟩
 ·subst ev;obtain ⟨t,rfl⟩:=r;exact formatField_int_small (qr ⟨n,hn⟩) ⟨.str (toString ((n:Nat):Int):String),H1,I1.tok _,⟨_,rfl⟩,k⟩
 ·subst ev;obtain ⟨t,rfl⟩:=r;exact wpAny_formatField_str ⟨.str x,H1,I1,⟨_,rfl⟩,k⟩ ⟨.str x,H1,I1.tok _,⟨_,rfl⟩,k⟩ hx
def pW:List TE->Str->St->Hp->VK->Prop
 | [],out,_,H,Q=>Q (.str out) H
 | t::ts,out,σ,H,Q=>t σ H fun v H1=>∃ x:Str,v=.str x/\x.length<=100/\pW ts (out++x) σ H1 Q
def BP (ts:List TE):TE:=fun σ H Q=>pW ts JT σ H Q
theorem A2 {ts:List TE} {σ:St} {H:Hp} {Q:VK} (h:pW ts JT σ H Q):BP ts σ H Q:=h
theorem Ak {X:Cx} {pins:List (ς×Iz)} {σ:St} {Q:VK} {es:List II} {ts:List TE} {s:χ} {H:Hp} {out:Str} (hp:PEs X es ts):out.length+100*es.length<=BC->Inv X pins σ H s ->
  pW ts out σ H Q->BG (B_ X.prog X.w) X.A (Oh out (evalEach es X.env)) (EP X pins σ Q) X.xe s:=by
 induction hp generalizing s H out with
 | nil=>exact fun hz I h=>joinParts_nil ⟨.str out,H,I.tok _,⟨_,rfl⟩,h⟩ (by simpa using hz)
 | cons he hs ih =>
  intro hz I h;rw [HM] at hz
  show BG _ _ (Oh out (Ip _ X.env::evalEach _ X.env)) _ _ _
  refine joinParts_cons (thn (he pins s σ H _ I h) fun u s1 ⟨v,H1,I1,r,x,ev,hx,q⟩=>?_);subst ev;obtain ⟨t,rfl⟩:=r;have hl:(out++x).length=out.length+x.length:=J4 _ _;exact ⟨by rw [hl]; omega,ih (by rw [hl]; omega) I1 q⟩
theorem AF {X:Cx} {e1 e2:II} {es:List II} {ts:List TE} {pos:J8} (h:PEs X (e1::e2::es) ts) (hz:es.length<=20):PE X (.JoinedStr (e1::e2::es) pos) (BP ts):=fun pins s σ H Q I q =>
 JoinedStr_many (Ak (out:=JT) h (by have:(JT).length=0:=rfl; rw [this,HM,HM,K4]; omega) I q)
theorem qg {c:Nat}:∀ {a b x y:List Nat},c∉a->c∉b->a++c::x=b++c::y->a=b/\x=y
 | [],[],x,y,_,_,h=>⟨rfl,by simpa using h⟩
 | [],d::b,x,y,_,hb,h=>by
  injection h with h1 _;exact absurd (h1 ▸ Θ) hb
 | d::a,[],x,y,ha,_,h=>by
  injection h with h1 _;exact absurd (h1 ▸ Θ) ha
 | d::a,e::b,x,y,ha,hb,h=>by
  injection h with h1 h2;obtain ⟨r1,r2⟩:=qg (fun z=>ha (Au _ z)) (fun z=>hb (Au _ z)) h2;exact ⟨by rw [h1,r1],r2⟩
theorem dQ (s a b:Str) (r:List Str):(JA s (a::b::r)).cps.toList=a.cps.toList++s.cps.toList++(JA s (b::r)).cps.toList:=by
 show (a++s++JA s (b::r)).cps.toList=_
 rw [qQ,qQ]
theorem qm {c:Nat}:∀ {p q:List Str},p≠[]->q≠[]->(∀ a∈p,c∉a.cps.toList)->(∀ a∈q,c∉a.cps.toList)->JA ⟨#[c]⟩ p=JA ⟨#[c]⟩ q->p=q
 | [],_,h,_,_,_,_=>absurd rfl h
 | _::_,[],_,h,_,_,_=>absurd rfl h
 | [a],[b],_,_,_,_,h=>by rw [show a=b from h]
 | [a],b::d::q,_,_,hp,hq,h=>by
  have h:a.cps.toList=_:=(congrArg (fun x:Str=>x.cps.toList) h).trans (dQ _ _ _ _);exact absurd (by rw [h]; simp) (hp a Θ)
 | a::d::p,[b],_,_,hp,hq,h=>by
  have h:b.cps.toList=_:=(congrArg (fun x:Str=>x.cps.toList) h.symm).trans (dQ _ _ _ _);exact absurd (by rw [h]; simp) (hq b Θ)
 | a::d::p,b::e::q,_,_,hp,hq,h=>by
  have h:=congrArg (fun x:Str=>x.cps.toList) h;rw [dQ,dQ,Iw,Iw] at h;obtain ⟨r1,r2⟩:=qg (c:=c) (hp a Θ) (hq b Θ) h;have ih:=qm (p:=d::p) (q:=e::q) (by simp) (by simp) (fun x hx=>hp x (Au _ hx)) (fun x hx=>hq x (Au _ hx)) (wO r2);rw [wO r1,ih]
theorem gK (x y:Str):Txt.split x y≠[]:=by
 unfold Txt.split
 split
 ·simp
 ·split
  ·simp
  ·obtain ⟨p,r,e⟩:=StrLaws.partsFrom_ne x y.length 0 (occurrences x y 0 x.length (x.length+1));rw [StrLaws.partsBetween_eq,e]; simp
theorem oN {c:Nat} {ps:List Str} (hne:ps≠[]) (h:∀ a∈ps,c∉a.cps.toList):Txt.split (JA ⟨#[c]⟩ ps) ⟨#[c]⟩=ps :=
 qm (gK _ _) hne (ON _ c) h (JZ _ _)
theorem uC {s:Str}:∀ {ps:List Str} {p:Str},p∈ps->∀ c∈p.cps.toList,c∈(JA s ps).cps.toList
 | [a],p,h,c,hc=>by rw [HL.mp h] at hc; exact hc
 | a::b::r,p,h,c,hc=>by
  rw [dQ];rcases Ξ.mp h with z | z
  ·rw [z] at hc; simp [hc]
  ·have:=uC (s:=s) z c hc
   simp [this]
theorem jy {x y p:Str} (h:p∈Txt.split x y):∀ c∈p.cps.toList,c∈x.cps.toList:=fun c hc=>by
 have:=uC (s:=y) h c hc
 rwa [JZ] at this
theorem uB {s:Str}:∀ {ps:List Str} {p:Str},p∈ps->p.length<=(JA s ps).length
 | [a],p,h=>by rw [HL.mp h]; exact Ω _
 | a::b::r,p,h=>by
  have e:(JA s (a::b::r)).length=a.length+s.length+(JA s (b::r)).length:=by
   show (a++s++JA s (b::r)).length=_
   rw [J4,J4]
  rcases Ξ.mp h with z | z
  ·rw [z]; omega
  ·have:=uB (s:=s) z; omega
theorem lP {x y p:Str} (h:p∈Txt.split x y):p.length<=x.length:=by
 have:=uB (s:=y) h
 rwa [JZ] at this
theorem qI (s:Str) (ps:List Str):Txt.join s ps=JA s ps:=StrLaws.glued_eq_join s ps
open PySem.NumText
end L2
namespace L2
open PySem PySem.Spec PyProof.Rows
end L2
namespace L2
open PySem PySem.Spec PyProof.Rows PySem.W
noncomputable def nT (n:Nat):Str:=(toString ((n:Nat):Int):String)
end L2
namespace L2
open PySem PySem.Spec PyProof.Rows PySem.W Builtin Builtin.Str
def Gp:V->List V->Hp->VK->Prop:=fun x ys H Q=>∃ a b:Str,x=.str a/\ys=[.str b]/\(b.length==0)=false/\a.length<=BC/\∀ p,H p=none->Q (.ref p) (upd H p (.tup [.str (Txt.partition a b).1,.str (Txt.partition a b).2.1,.str (Txt.partition a b).2.2]))
theorem rg {X:Cx}:MtR X "str.partition" Gp:=by
 intro pins s σ H x ys v us Q I rx rv h;obtain ⟨x,y,rfl,rfl,hy,hsz,q⟩:=h;obtain ⟨t,rfl⟩:=rx;obtain ⟨u,rfl,ru⟩:=rv.one;obtain ⟨u,rfl⟩:=ru;have fin:∀ (a b c:Str) (ta tb tc:Om) (k:Nat),(a,b,c)=Txt.partition x y->EP X pins σ Q (.ref s.heap.objs.size) { s with toks:=k,heap:=s.heap.push { cls:=.type "tuple",data:=.seq [.str a ta,.str b tb,.str c tc].toArray } }:=fun a b c ta tb tc k e=>by
  rw [<- e] at q;refine ⟨.ref _,_,I.laid (t':=k) (o:=.tup [.str a,.str b,.str c]) (fun _ _ q=>Δ _ q) (Ω _) ?_,rfl,q _ I.fresh⟩;exact ⟨by show 3<=BC; decide,_,.cons ⟨ta,rfl⟩ (.cons ⟨tb,rfl⟩ (.cons ⟨tc,rfl⟩ .nil)),⟨_,HE _ rfl,rfl,_,rfl⟩⟩
 refine La F.slot_str_partition (LY _ _ _) F.entry_str_partition (F.args_str_partition_2 _ _) (meets_str_partition x y t u hy hsz) ?_;have fin':=fin;unfold Txt.partition at fin'
 revert fin'
 cases occurrences x y 0 x.length 1 with
 | nil=>intro h'; exact h' _ _ _ _ _ _ _ rfl
 | cons i r=>intro h'; exact h' _ _ _ _ _ _ _ rfl
theorem xA {x:Str} {c:Nat} (h:c∉x.cps.toList):Txt.partition x (sgn c)=(x,JT,JT):=by
 have h0:occurrences x (sgn c) 0 x.length 1=[]:=by
  rcases Ob x ⟨#[c]⟩ 1 (Ω 1) with ⟨h0,_⟩ | ⟨i,r,_,hi,_⟩
  ·exact h0
  ·exact absurd (H_ ((K6 x c i).mp hi)) h
 unfold Txt.partition;rw [h0]
theorem uR {x:Str} {c:Nat} (h:c∈x.cps.toList):c∉(Txt.partition x (sgn c)).1.cps.toList/\x.cps.toList=(Txt.partition x (sgn c)).1.cps.toList++c::(Txt.partition x (sgn c)).2.2.cps.toList:=by
  rcases Ob x ⟨#[c]⟩ 1 (Ω 1) with ⟨_,hn⟩ | ⟨i,r,h0,hi,hn⟩
  · obtain ⟨j,hj⟩:=MH h
    exact absurd ((K6 x c j).mpr hj) (hn j)
  · have e0:Txt.partition x (sgn c)=(strSub x 0 i,sgn c,strSub x (i+1) x.length):=by
      unfold Txt.partition;rw [show occurrences x (sgn c) 0 x.length 1=i::r from h0];rfl
    rw [e0];have hm:=(K6 x c i).mp hi;dsimp only;rw [Nu,Nu,KY,Mv];have e:(x.cps.toList.drop (i+1)).take (x.length - (i+1))=x.cps.toList.drop (i+1):=Hr (by simp [Str.length]);rw [e];refine ⟨fun z=>?_,?_⟩
    · obtain ⟨k,hk⟩:=MH z
      have kl:=(F_.mp hk).1;rw [Hw] at kl;rw [List.getElem?_take,if_pos (by omega)] at hk;exact hn k (by omega) ((K6 x c k).mpr hk)
    · obtain ⟨hl,e2⟩:=F_.mp hm
      rw [<- e2,<- LI hl,OQ]
theorem wb {x:Str} {c:Nat} (h:c∈x.cps.toList):Txt.split x (sgn c)=(Txt.partition x (sgn c)).1::Txt.split (Txt.partition x (sgn c)).2.2 (sgn c):=by
 obtain ⟨h1,h2⟩:=uR h;generalize (Txt.partition x (sgn c)).1=a at h1 h2 ⊢;generalize (Txt.partition x (sgn c)).2.2=b at h2 ⊢;have e:x=JA (sgn c) (a::Txt.split b (sgn c)):=wO (by
  cases q:Txt.split b (sgn c) with
  | nil => exact absurd q (gK b (sgn c))
  | cons p r =>
   rw [dQ,<- q,JZ,h2]
   show _=a.cps.toList++[c]++b.cps.toList
   rw [Iw]; rfl)
 rw [e];refine oN (by simp) fun p hp=>?_;rcases Ξ.mp hp with e | hp
 ·rw [e]; exact h1
 ·exact ON _ c _ hp
theorem BH {x:Str} {c:Nat} (h:c∉x.cps.toList):Txt.split x (sgn c)=[x]:=by
 have e:x=JA (sgn c) [x]:=rfl;have:=oN (c:=c) (ps:=[x]) (by simp) fun p hp=>by rw [HL.mp hp]; exact h
 exact this
end L2
namespace L2
open PySem PySem.Spec PyProof.Rows
theorem rmo {j k:Nat} {A:IA} (r:cM k A) (h:j<=k:=by first | decide | omega):cM j A:=r.mono h
section
variable {X:Cx}
theorem aI (i:Nat) {x:Str} {e:II} {te:TE} {pos pos':J8} (hN:X.N.Nodup) (he:PE X e te) (hi:X.N[i]?=some x:=by rfl) (hx:Loc X.env.scope x:=by exact IQ rfl) (hs:L7 e (some (.Name x pos')) pos.line X.env=pure false:=by rfl) (hf:X.fn x=true\/X.env.scope.names.lookup x=some .local:=by first | exact .inl rfl | exact .inr rfl | assumption) :
  PS X (.Assign [.Name x pos'] e pos) (wQ te (eB i)):=fH hN hi hx he hs hf
theorem aw {r:R2} {a b:II} {ta tb:TE} {pos:J8} (hr:IxR X r) (ha:PE X a ta) (hb:PE X b tb) (hs:qG b:=by exact fun _ _=>rfl):PE X (.Subscript a b pos) (tOp r ta tb):=DV hr ha hb hs
theorem iI {op:Ox} {r:R2} {a b:II} {ta tb:TE} {pos:J8} (ho:OpR X (Ie op) r) (ha:PE X a ta) (hb:PE X b tb) (hm:KQ op b=false:=by first | exact Ar _ | rfl):PE X (.Compare a [op] [b] pos) (tOp r ta tb):=mJ ho ha hb hm
theorem aN {op:Ox} {r:R2} {a b:II} {ta tb:TE} {pos:J8} (ho:OpR X (Ie op) r) (ha:PE X a ta) (hb:PE X b tb) (hm:KQ op b=false:=by first | exact Ar _ | rfl):PT X (.Compare a [op] [b] pos) (BX (tOp r ta tb)):=fh ho ha hb hm
end
section
variable {σ:L2.St} {H:Hp} {Q:VK}
abbrev NwT (xs:List V) (H:Hp) (Q:VK):Prop:=xs.length<=BC/\∀ p,H p=none->Q (.ref p) (upd H p (.tup xs))
abbrev NwL (xs:List V) (H:Hp) (Q:VK):Prop:=xs.length<=BC/\∀ p,H p=none->Q (.ref p) (upd H p (.lst xs))
theorem Dq {t:TA} (h:t σ H fun xs H1=>NwT xs H1 Q):GR t σ H Q:=h
theorem Dc {t:TA} (h:t σ H fun xs H1=>NwL xs H1 Q):DF t σ H Q:=h
theorem zZ {xs:List V} (z:(xs.drop 99).isEmpty=true):xs.length<=sizeLine:=by
 have:xs.drop 99=[]:=List.isEmpty_iff.mp z
 have:=List.drop_eq_nil_iff.mp this
 exact BA this (by decide)
theorem nwT {xs:List V} (q:∀ p H1,ai H H1->H p=none->H1 p=some (.tup xs)->Q (.ref p) H1) (z:(xs.drop 99).isEmpty=true:=by rfl):NwT xs H Q:=⟨zZ z,fun p n=>q p _ (ai.new n) n af⟩
theorem nwL {xs:List V} (q:∀ p H1,ai H H1->H p=none->H1 p=some (.lst xs)->Q (.ref p) H1) (z:(xs.drop 99).isEmpty=true:=by rfl):NwL xs H Q:=⟨zZ z,fun p n=>q p _ (ai.new n) n af⟩
theorem aX {p:Prop} [d:Decidable p] (h:p):decide p=true:=decide_eq_true h
theorem bI {p:Prop} [d:Decidable p] (h:¬ p):decide p=false:=decide_eq_false h
end
end L2
namespace My
open PySem PySem.Spec PyProof.Rows L2
noncomputable def top (i:Nat):Stmt:=PySem.Challenge.pw_sashiko_k56_texts_of_no_chest.main.body.getD i (.Pass ⟨0,0,0,0⟩)
noncomputable abbrev s_bc:Stmt:=(bL (top 12) 0)
noncomputable abbrev s_ba:Stmt:=(top 15)
noncomputable abbrev s_aH:Stmt:=(top 16)
noncomputable abbrev s_bt:Stmt:=(top 17)
noncomputable abbrev s_bf:Stmt:=(top 18)
noncomputable abbrev s_bi:Stmt:=(top 19)
noncomputable abbrev s_bb:Stmt:=(top 20)
noncomputable abbrev s_aY:Stmt:=(bL (top 22) 0)
noncomputable abbrev s_aq:Stmt:=(bL (top 23) 0)
noncomputable abbrev s_ap:Stmt:=(bL (top 23) 1)
noncomputable abbrev s_ax:Stmt:=(bL (top 22) 1)
noncomputable abbrev s_aF:Stmt:=(bL (top 22) 2)
noncomputable abbrev s_au:Stmt:=(bL (top 22) 3)
noncomputable abbrev s_ar:Stmt:=(bL (top 22) 4)
noncomputable abbrev s_am:Stmt:=(bL (top 22) 5)
noncomputable abbrev s_aK:Stmt:=(bL (top 22) 6)
noncomputable abbrev s_at:Stmt:=(bL (top 23) 2)
noncomputable abbrev s_bg:Stmt:=(top 25)
noncomputable abbrev s_as:Stmt:=(top 26)
noncomputable abbrev s_aU:Stmt:=(top 27)
noncomputable abbrev s_bq:Stmt:=(top 28)
noncomputable abbrev Bj:Stmt:=(top 29)
noncomputable abbrev Bh:Stmt:=(top 31)
noncomputable abbrev s_aW:Stmt:=(top 33)
noncomputable abbrev s_br:Stmt:=(top 34)
noncomputable abbrev s_aA:Stmt:=(top 35)
noncomputable abbrev s_az:Stmt:=(top 36)
noncomputable abbrev s_bs:Stmt:=(top 39)
noncomputable abbrev s_aS:Stmt:=(bL (top 40) 0)
noncomputable abbrev s_aB:Stmt:=(bL (top 40) 1)
noncomputable abbrev s_an:Stmt:=(bL (top 40) 2)
noncomputable abbrev s_ao:Stmt:=(bL (top 40) 3)
noncomputable abbrev s_av:Stmt:=(bL (top 40) 4)
noncomputable abbrev s_al:Stmt:=(bL (top 40) 5)
noncomputable abbrev s_aJ:Stmt:=(bL (top 40) 6)
noncomputable abbrev s_aL:Stmt:=(bL (top 40) 7)
noncomputable abbrev s_aP:Stmt:=(bL (top 40) 8)
noncomputable abbrev s_a3:Stmt:=(bL (top 40) 9)
noncomputable abbrev s_a2:Stmt:=(bL (top 40) 10)
noncomputable abbrev s_a4:Stmt:=(bL (top 40) 11)
noncomputable abbrev s_aG:Stmt:=(bL (top 40) 12)
noncomputable abbrev s_a0:Stmt:=(bL (top 40) 13)
noncomputable abbrev s_aZ:Stmt:=(bL (top 40) 14)
noncomputable abbrev s_ay:Stmt:=(bL (top 40) 17)
noncomputable abbrev s_a6:Stmt:=(top 42)
noncomputable abbrev s_aT:Stmt:=(top 43)
noncomputable abbrev s_aR:Stmt:=(top 44)
noncomputable abbrev s_a9:Stmt:=(top 45)
noncomputable abbrev s_a7:Stmt:=(top 46)
noncomputable abbrev s_aO:Stmt:=(top 47)
noncomputable abbrev s_aI:Stmt:=(top 48)
noncomputable abbrev s_bv:Stmt:=(top 50)
noncomputable abbrev s_by:Stmt:=(top 51)
noncomputable abbrev s_aQ:Stmt:=(top 52)
noncomputable abbrev s_aD:Stmt:=(top 53)
noncomputable abbrev s_aE:Stmt:=(top 54)
noncomputable abbrev s_bh:Stmt:=(top 55)
noncomputable abbrev s_be:Stmt:=(top 56)
noncomputable abbrev s_bu:Stmt:=(top 57)
noncomputable abbrev s_aC:Stmt:=(top 58)
noncomputable abbrev s_bl:Stmt:=(top 59)
noncomputable abbrev s_bk:Stmt:=(top 60)
noncomputable abbrev s_aN:Stmt:=(top 61)
noncomputable abbrev s_aV:Stmt:=(top 62)
noncomputable abbrev s_a1:Stmt:=(top 63)
noncomputable abbrev s_bo:Stmt:=(top 64)
noncomputable abbrev s_aX:Stmt:=(top 65)
noncomputable abbrev s_aM:Stmt:=(top 66)
noncomputable abbrev Bg:Stmt:=(top 67)
noncomputable abbrev s_aw:Stmt:=(top 68)
noncomputable abbrev s_a8:Stmt:=(top 69)
noncomputable abbrev s_bn:Stmt:=(top 70)
noncomputable abbrev s_bx:Stmt:=(top 71)
noncomputable abbrev s_bd:Stmt:=(top 72)
noncomputable abbrev Bi:Stmt:=(top 73)
theorem sc_bc:aA ["self","at"] ["self","at"] (ak s_bc):=.by
theorem sc_ba:aA ["value"] ["value"] (ak s_ba):=.by
theorem sc_aH:aA ["value","bound"] ["value","bound"] (ak s_aH):=.by
theorem sc_bt:aA ["value"] ["value"] (ak s_bt):=.by
theorem sc_bf:aA ["values"] ["values"] (ak s_bf):=.by
theorem sc_bi:aA ["count"] ["count"] (ak s_bi):=.by
theorem sc_bb:aA ["board","x","y"] ["board","x","y"] (ak s_bb):=.by
theorem sc_aY:aA ["self","wide","tall","cols","rows"] ["self","wide","tall","cols","rows"] (ak s_aY):=.by
theorem sc_aq:aA ["self","shade","cols","rows"] ["self","shade","cols","rows"] (ak s_aq):=.by
theorem sc_ap:aA ["self"] ["self"] (ak s_ap):=.by
theorem sc_ax:aA ["self"] ["self"] (ak s_ax):=.by
theorem sc_aF:aA ["self"] ["self"] (ak s_aF):=.by
theorem sc_au:aA ["self"] ["self"] (ak s_au):=.by
theorem sc_ar:aA ["self"] ["self"] (ak s_ar):=.by
theorem sc_am:aA ["self","way"] ["self","way"] (ak s_am):=.by
theorem sc_aK:aA ["self","way","k","bits"] ["self","way","k"] (ak s_aK):=.by
theorem sc_at:aA ["self","x","y","stitches"] ["self","x","y"] (ak s_at):=.by
theorem sc_bg:aA ["bits","steps"] ["bits","steps"] (ak s_bg):=.by
theorem sc_as:aA ["cloth"] ["cloth"] (ak s_as):=.by
theorem sc_aU:aA ["cloth","way","bits"] ["cloth","way","bits"] (ak s_aU):=.by
theorem sc_bq:aA ["cloth","way","k","other","bits"] ["cloth","way","k"] (ak s_bq):=.by
theorem Bq:aA ["cloth","way","k","bit","bits"] ["cloth","way","k","bit"] (ak Bj):=.by
theorem Bo:aA ["cloth","way","k","bits"] ["cloth","way","k"] (ak Bh):=.by
theorem sc_aW:aA ["cloth","k","behind","left","right"] ["cloth","k"] (ak s_aW):=.by
theorem sc_br:aA ["cloth","way","k","parts"] ["cloth","way","k"] (ak s_br):=.by
theorem sc_aA:aA ["one","other","coming","k","bit","between"] ["one","other"] (ak s_aA):=.by
theorem sc_az:aA ["one","other","way"] ["one","other","way"] (ak s_az):=.by
theorem sc_bs:aA ["name"] ["name"] (ak s_bs):=.by
theorem sc_aS:aA ["self"] ["self"] (ak s_aS):=.by
theorem sc_aB:aA ["self"] ["self"] (ak s_aB):=.by
theorem sc_an:aA ["self","name"] ["self","name"] (ak s_an):=.by
theorem sc_ao:aA ["self","name"] ["self","name"] (ak s_ao):=.by
theorem sc_av:aA ["self","cloths"] ["self","cloths"] (ak s_av):=.by
theorem sc_al:aA ["self","name","cloth","cloths"] ["self","name","cloth"] (ak s_al):=.by
theorem sc_aJ:aA ["self","name","cloth"] ["self","name","cloth"] (ak s_aJ):=.by
theorem sc_aL:aA ["self","name","cloths"] ["self","name"] (ak s_aL):=.by
theorem sc_aP:aA ["self","name","way","k"] ["self","name","way","k"] (ak s_aP):=.by
theorem sc_a3:aA ["self","name","way","k","bit"] ["self","name","way","k","bit"] (ak s_a3):=.by
theorem sc_a2:aA ["self","name","way","k"] ["self","name","way","k"] (ak s_a2):=.by
theorem sc_a4:aA ["self","name","one","other","way"] ["self","name","one","other","way"] (ak s_a4):=.by
theorem sc_aG:aA ["self","name","way","k","other","whole","parts","cloths"] ["self","name","way","k","other"] (ak s_aG):=.by
theorem sc_ay:aA ["self"] ["self"] (ak s_ay):=.by
theorem sc_a6:aA ["bits"] ["bits"] (ak s_a6):=.by
theorem sc_aT:aA ["cloth","shade","cols","rows"] ["cloth"] (ak s_aT):=.by
theorem sc_aR:aA ["chest"] ["chest"] (ak s_aR):=.by
theorem sc_a9:aA ["word","signs"] ["word","signs"] (ak s_a9):=.by
theorem sc_a7:aA ["word"] ["word"] (ak s_a7):=.by
theorem sc_aO:aA ["text","words","shade","cols","rows","refusal"] ["text"] (ak s_aO):=.by
theorem sc_aI:aA ["text","chest","rows","row","parts","cloth","refusal"] ["text"] (ak s_aI):=.by
theorem sc_bv:aA ["_law_e","_law_found"] ["_law_e"] (ak s_bv):=.by
theorem sc_by:aA ["_law_cloth"] ["_law_cloth"] (ak s_by):=.by
theorem sc_aQ:aA ["_law_word"] ["_law_word"] (ak s_aQ):=.by
theorem sc_aD:aA ["_law_words","_law_cols","_law_rows"] ["_law_words"] (ak s_aD):=.by
theorem sc_aE:aA ["_law_book","_law_name","_law_letters"] ["_law_book","_law_name"] (ak s_aE):=.by
theorem sc_bh:aA ["_law_script","_law_many","_law_rows","_law_mix","_law_cell","_law_rest"] ["_law_script","_law_many"] (ak s_bh):=.by
theorem sc_be:aA ["_law_some","_law_many","_law_letters","_law_found","_law_at","_law_raw","_law_size","_law_first","_law_by","_law_word","_law_place","_law_step","_law_sign"] ["_law_some","_law_many"] (ak s_be):=.by
theorem sc_bu:aA ["_law_number","_law_many","_law_row","_law_k"] ["_law_number","_law_many"] (ak s_bu):=.by
theorem sc_aC:aA ["_law_some","_law_book","_law_pool","_law_kinds","_law_kind_here","_law_name","_law_way","_law_wide","_law_tall","_law_cols","_law_many","_law_menu","_law_k"] ["_law_some","_law_book","_law_pool"] (ak s_aC):=.by
theorem sc_bl:aA ["_law_plan","_law_way","_law_bits_here"] ["_law_plan","_law_way","_law_bits_here"] (ak s_bl):=.by
theorem sc_bk:aA ["_law_one","_law_other","_law_way","_law_side","_law_wide","_law_between"] ["_law_one","_law_other","_law_way"] (ak s_bk):=.by
theorem sc_aN:aA ["_law_book","_law_pool","_law_some","_law_free","_law_name","_law_other","_law_way","_law_word"] ["_law_book","_law_pool","_law_some"] (ak s_aN):=.by
theorem sc_aV:aA ["_law_some","_law_book","_law_pool","_law_deed","_law_better"] ["_law_some","_law_book","_law_pool"] (ak s_aV):=.by
theorem sc_a1:aA ["_law_plan","_law_way","_law_k","_law_more"] ["_law_plan","_law_way","_law_k","_law_more"] (ak s_a1):=.by
theorem sc_bo:aA ["_law_plan","_law_way","_law_k","_law_side","_law_first","_law_across","_law_one"] ["_law_plan","_law_way","_law_k"] (ak s_bo):=.by
theorem sc_aX:aA ["_law_fresh","_law_deed","_law_plan","_law_way","_law_k","_law_word","_law_bits_here","_law_one","_law_other"] ["_law_fresh","_law_deed"] (ak s_aX):=.by
theorem sc_aM:aA ["_law_book","_law_deed","_law_fresh","_law_word","_law_made"] ["_law_book","_law_deed"] (ak s_aM):=.by
theorem eK:aA ["_law_chest","_law_deed","_law_told_here","_law_plan","_law_e"] ["_law_chest","_law_deed"] (ak Bg):=.by
theorem sc_aw:aA ["_law_some","_law_pool","_law_chest","_law_book","_law_turn","_law_deed","_law_word","_law_fresh"] ["_law_some"] (ak s_aw):=.by
theorem sc_a8:aA ["_law_text","_law_some","_law_signs","_law_at","_law_sign","_law_rows","_law_place","_law_way","_law_words","_law_spot"] ["_law_text","_law_some"] (ak s_a8):=.by
theorem sc_bn:aA ["_law_told_here","_law_due"] ["_law_told_here","_law_due"] (ak s_bn):=.by
theorem sc_bx:aA ["_law_text","_law_chest","_law_e"] ["_law_text"] (ak s_bx):=.by
theorem sc_bd:aA ["_law_text","_law_rows","_law_names_here","_law_row","_law_words","_law_plan"] ["_law_text"] (ak s_bd):=.by
theorem ig:aA ["_law_script","_law_some","_law_chest","_law_book","_law_text","_law_near","_law_spoilt_here"] ["_law_script"] (ak Bi):=.by
abbrev QNs (K:A_) (x:Str) (C:ς):Prop:=W.nsIn K JQ x=some (some (.ref C))
abbrev QNn (K:A_) (x:Str):Prop:=W.nsIn K JQ x=some none
abbrev QFi (K:A_) (C:ς) (x:Str) (f:ς):Prop:=JG K (.ref C) x=some (some (.ref f))
abbrev QFn (K:A_) (C:ς) (x:Str):Prop:=JG K (.ref C) x=some none
abbrev QIf (K:A_) (f:ς):Prop:=W.isFn K (.ref f)=true
abbrev QKt (K:A_) (C D:ς) (b:Bool):Prop:=IF K (.ref C) (.ref D)=some b
abbrev QXc (K:A_) (C:ς):Prop:=MV K C [.type "ValueError",.type "Exception",.type "BaseException",.type "object"] "ValueError.__new__"=true
abbrev QXg (K:A_) (C:ς):Prop:=JG K (.ref C) "__getattribute__"=some (some (.builtin "BaseException.__getattribute__"))/\JG K (.ref C) "__getattr__"=some none/\JG K (.ref C) "__class__"=some (some (.builtin "object.__class__"))/\Lf K C (.type "object")=some true/\Lf K C (.type "BaseException")=some true
set_option genInjectivity false in
set_option genSizeOf false in
structure Ad where
 (a_bA a_ak a_ai f_bc f_ba f_aH f_bt f_bf f_bi f_bb f_aY f_aq:ς)
 (f_ap f_ax f_aF f_au f_ar f_am f_aK f_at f_bg f_as f_aU f_bq:ς)
 (f_put f_cut f_aW f_br f_aA f_az f_bs f_aS f_aB f_an f_ao f_av:ς)
 (f_al f_aJ f_aL f_aP f_a3 f_a2 f_a4 f_aG f_a0 f_aZ f_ay f_a6:ς)
 (f_aT f_aR f_a9 f_a7 f_aO f_aI f_bv f_by f_aQ f_aD f_aE f_bh:ς)
 (f_be f_bu f_aC f_bl f_bk f_aN f_aV f_a1 f_bo f_aX f_aM f_Ldo:ς)
 (f_aw f_a8 f_bn f_bx f_bd f_law a_a5 a_ah a_ac a_ag a_bw a_ae:ς)
 (a_ad a_aj a_ab a_aa a_af:ς)
 (d_bc d_ba d_aH d_bt d_bf d_bi d_bb d_aY d_aq d_ap d_ax d_aF:IJ)
 (d_au d_ar d_am d_aK d_at d_bg d_as d_aU d_bq d_put d_cut d_aW:IJ)
 (d_br d_aA d_az d_bs d_aS d_aB d_an d_ao d_av d_al d_aJ d_aL:IJ)
 (d_aP d_a3 d_a2 d_a4 d_aG d_a0 d_aZ d_ay d_a6 d_aT d_aR d_a9:IJ)
 (d_a7 d_aO d_aI d_bv d_by d_aQ d_aD d_aE d_bh d_be d_bu d_aC:IJ)
 (d_bl d_bk d_aN d_aV d_a1 d_bo d_aX d_aM d_Ldo d_aw d_a8 d_bn:IJ)
 (d_bx d_bd d_law:IJ)
 (tk_LONGEST_SIDE tk_LONGEST_NAME:Om)
structure Txt (K:A_) (mg:Str->Option η) (t:Ad):Prop where
 mg_bA:mg "Board"=some (.ref t.a_bA)
 mg_ak:mg "Chest"=some (.ref t.a_ak)
 cl_ak:Cls K t.a_ak
 mk_ak:Mk K t.a_ak t.f_aS
 naC_cloths:de K t.a_ak "cloths"
 naC_ahead_of_deeds:de K t.a_ak "ahead_of_deeds"
 naC_behind_undone:de K t.a_ak "behind_undone"
 mg_ai:mg "Cloth"=some (.ref t.a_ai)
 cl_ai:Cls K t.a_ai
 mk_ai:Mk K t.a_ai t.f_aq
 na_columns_count:de K t.a_ai "columns_count"
 na_rows_count:de K t.a_ai "rows_count"
 na_col_bits:de K t.a_ai "col_bits"
 na_row_bits:de K t.a_ai "row_bits"
 na_first_colour:de K t.a_ai "first_colour"
 F_bc:Fun K "__init__" "Unfit.__init__" s_bc t.f_bc t.d_bc
 b_bc:aJ K t.d_bc ["self","at"] []
 mx_ah:MkX K t.a_ah t.f_bc
 F_ba:Fun K "is_number" "is_number" s_ba t.f_ba t.d_ba
 b_ba:aJ K t.d_ba ["value"] []
 mg_ba:mg "is_number"=some (.ref t.f_ba)
 F_aH:Fun K "is_below" "is_below" s_aH t.f_aH t.d_aH
 b_aH:aJ K t.d_aH ["value","bound"] []
 mg_aH:mg "is_below"=some (.ref t.f_aH)
 F_bt:Fun K "is_bit" "is_bit" s_bt t.f_bt t.d_bt
 b_bt:aJ K t.d_bt ["value"] []
 mg_bt:mg "is_bit"=some (.ref t.f_bt)
 F_bf:Fun K "all_bits" "all_bits" s_bf t.f_bf t.d_bf
 b_bf:aJ K t.d_bf ["values"] []
 mg_bf:mg "all_bits"=some (.ref t.f_bf)
 F_bi:Fun K "is_side" "is_side" s_bi t.f_bi t.d_bi
 b_bi:aJ K t.d_bi ["count"] []
 mg_bi:mg "is_side"=some (.ref t.f_bi)
 F_bb:Fun K "need_cell" "need_cell" s_bb t.f_bb t.d_bb
 b_bb:aJ K t.d_bb ["board","x","y"] []
 mg_bb:mg "need_cell"=some (.ref t.f_bb)
 F_aY:Fun K "__init__" "Board.__init__" s_aY t.f_aY t.d_aY
 b_aY:aJ K t.d_aY ["self","wide","tall","cols","rows"] []
 cf_aY:DL K t.a_bA "__init__" t.f_aY
 F_aq:Fun K "__init__" "Cloth.__init__" s_aq t.f_aq t.d_aq
 b_aq:aJ K t.d_aq ["self","shade","cols","rows"] []
 F_ap:Fun K "shade" "Cloth.shade" s_ap t.f_ap t.d_ap
 b_ap:aJ K t.d_ap ["self"] []
 m_ap:eA K t.a_ai "shade" t.f_ap
 F_ax:Fun K "wide" "Board.wide" s_ax t.f_ax t.d_ax
 b_ax:aJ K t.d_ax ["self"] []
 m_ax:eA K t.a_ai "wide" t.f_ax
 F_aF:Fun K "tall" "Board.tall" s_aF t.f_aF t.d_aF
 b_aF:aJ K t.d_aF ["self"] []
 m_aF:eA K t.a_ai "tall" t.f_aF
 F_au:Fun K "cols" "Board.cols" s_au t.f_au t.d_au
 b_au:aJ K t.d_au ["self"] []
 m_au:eA K t.a_ai "cols" t.f_au
 F_ar:Fun K "rows" "Board.rows" s_ar t.f_ar t.d_ar
 b_ar:aJ K t.d_ar ["self"] []
 m_ar:eA K t.a_ai "rows" t.f_ar
 F_am:Fun K "bits_along" "Board.bits_along" s_am t.f_am t.d_am
 b_am:aJ K t.d_am ["self","way"] []
 m_am:eA K t.a_ai "bits_along" t.f_am
 F_aK:Fun K "bit" "Board.bit" s_aK t.f_aK t.d_aK
 b_aK:aJ K t.d_aK ["self","way","k"] []
 m_aK:eA K t.a_ai "bit" t.f_aK
 F_at:Fun K "colour" "Cloth.colour" s_at t.f_at t.d_at
 b_at:aJ K t.d_at ["self","x","y"] []
 m_at:eA K t.a_ai "colour" t.f_at
 F_bg:Fun K "shifted" "shifted" s_bg t.f_bg t.d_bg
 b_bg:aJ K t.d_bg ["bits","steps"] []
 mg_bg:mg "shifted"=some (.ref t.f_bg)
 F_as:Fun K "transposed" "transposed" s_as t.f_as t.d_as
 b_as:aJ K t.d_as ["cloth"] []
 mg_as:mg "transposed"=some (.ref t.f_as)
 F_aU:Fun K "with_bits" "with_bits" s_aU t.f_aU t.d_aU
 b_aU:aJ K t.d_aU ["cloth","way","bits"] []
 mg_aU:mg "with_bits"=some (.ref t.f_aU)
 F_bq:Fun K "turned" "turned" s_bq t.f_bq t.d_bq
 b_bq:aJ K t.d_bq ["cloth","way","k"] []
 mg_bq:mg "turned"=some (.ref t.f_bq)
 F_put:Fun K "put" "put" Bj t.f_put t.d_put
 b_put:aJ K t.d_put ["cloth","way","k","bit"] []
 mg_putsew:mg "put_sew"=some (.ref t.f_put)
 mg_put:mg "put"=some (.ref t.f_put)
 F_cut:Fun K "cut" "cut" Bh t.f_cut t.d_cut
 b_cut:aJ K t.d_cut ["cloth","way","k"] []
 mg_cutsew:mg "cut_sew"=some (.ref t.f_cut)
 mg_cut:mg "cut"=some (.ref t.f_cut)
 F_aW:Fun K "parted_up" "parted_up" s_aW t.f_aW t.d_aW
 b_aW:aJ K t.d_aW ["cloth","k"] []
 mg_aW:mg "parted_up"=some (.ref t.f_aW)
 F_br:Fun K "parted" "parted" s_br t.f_br t.d_br
 b_br:aJ K t.d_br ["cloth","way","k"] []
 mg_br:mg "parted"=some (.ref t.f_br)
 F_aA:Fun K "sewn_beside" "sewn_beside" s_aA t.f_aA t.d_aA
 b_aA:aJ K t.d_aA ["one","other"] []
 mg_aA:mg "sewn_beside"=some (.ref t.f_aA)
 F_az:Fun K "sewn_together" "sewn_together" s_az t.f_az t.d_az
 b_az:aJ K t.d_az ["one","other","way"] []
 mg_az:mg "sewn_together"=some (.ref t.f_az)
 F_bs:Fun K "is_name" "is_name" s_bs t.f_bs t.d_bs
 b_bs:aJ K t.d_bs ["name"] []
 mg_bs:mg "is_name"=some (.ref t.f_bs)
 F_aS:Fun K "__init__" "Chest.__init__" s_aS t.f_aS t.d_aS
 b_aS:aJ K t.d_aS ["self"] []
 F_aB:Fun K "names" "Chest.names" s_aB t.f_aB t.d_aB
 b_aB:aJ K t.d_aB ["self"] []
 m_aB:eA K t.a_ak "names" t.f_aB
 F_an:Fun K "cloth" "Chest.cloth" s_an t.f_an t.d_an
 b_an:aJ K t.d_an ["self","name"] []
 m_an:eA K t.a_ak "cloth" t.f_an
 F_ao:Fun K "need_free" "Chest.need_free" s_ao t.f_ao t.d_ao
 b_ao:aJ K t.d_ao ["self","name"] []
 m_ao:eA K t.a_ak "need_free" t.f_ao
 F_av:Fun K "become" "Chest.become" s_av t.f_av t.d_av
 b_av:aJ K t.d_av ["self","cloths"] []
 m_av:eA K t.a_ak "become" t.f_av
 F_al:Fun K "become_with" "Chest.become_with" s_al t.f_al t.d_al
 b_al:aJ K t.d_al ["self","name","cloth"] []
 m_al:eA K t.a_ak "become_with" t.f_al
 F_aJ:Fun K "lay" "Chest.lay" s_aJ t.f_aJ t.d_aJ
 b_aJ:aJ K t.d_aJ ["self","name","cloth"] []
 m_aJ:eA K t.a_ak "lay" t.f_aJ
 F_aL:Fun K "drop" "Chest.drop" s_aL t.f_aL t.d_aL
 b_aL:aJ K t.d_aL ["self","name"] []
 m_aL:eA K t.a_ak "drop" t.f_aL
 F_aP:Fun K "turn" "Chest.turn" s_aP t.f_aP t.d_aP
 b_aP:aJ K t.d_aP ["self","name","way","k"] []
 m_aP:eA K t.a_ak "turn" t.f_aP
 F_a3:Fun K "put" "Chest.put" s_a3 t.f_a3 t.d_a3
 b_a3:aJ K t.d_a3 ["self","name","way","k","bit"] []
 m_a3:eA K t.a_ak "put" t.f_a3
 F_a2:Fun K "cut" "Chest.cut" s_a2 t.f_a2 t.d_a2
 b_a2:aJ K t.d_a2 ["self","name","way","k"] []
 m_a2:eA K t.a_ak "cut" t.f_a2
 F_a4:Fun K "sew" "Chest.sew" s_a4 t.f_a4 t.d_a4
 b_a4:aJ K t.d_a4 ["self","name","one","other","way"] []
 m_a4:eA K t.a_ak "sew" t.f_a4
 F_aG:Fun K "part" "Chest.part" s_aG t.f_aG t.d_aG
 b_aG:aJ K t.d_aG ["self","name","way","k","other"] []
 m_aG:eA K t.a_ak "part" t.f_aG
 F_a0:Fun K "undo" "Chest.undo" s_a0 t.f_a0 t.d_a0
 b_a0:aJ K t.d_a0 ["self"] []
 m_a0:eA K t.a_ak "undo" t.f_a0
 F_aZ:Fun K "redo" "Chest.redo" s_aZ t.f_aZ t.d_aZ
 b_aZ:aJ K t.d_aZ ["self"] []
 m_aZ:eA K t.a_ak "redo" t.f_aZ
 F_ay:Fun K "forget" "Chest.forget" s_ay t.f_ay t.d_ay
 b_ay:aJ K t.d_ay ["self"] []
 m_ay:eA K t.a_ak "forget" t.f_ay
 F_a6:Fun K "bits_text" "bits_text" s_a6 t.f_a6 t.d_a6
 b_a6:aJ K t.d_a6 ["bits"] []
 mg_a6:mg "bits_text"=some (.ref t.f_a6)
 F_aT:Fun K "cloth_text" "cloth_text" s_aT t.f_aT t.d_aT
 b_aT:aJ K t.d_aT ["cloth"] []
 mg_aT:mg "cloth_text"=some (.ref t.f_aT)
 F_aR:Fun K "chest_text" "chest_text" s_aR t.f_aR t.d_aR
 b_aR:aJ K t.d_aR ["chest"] []
 mg_aR:mg "chest_text"=some (.ref t.f_aR)
 F_a9:Fun K "has_signs" "has_signs" s_a9 t.f_a9 t.d_a9
 b_a9:aJ K t.d_a9 ["word","signs"] []
 mg_a9:mg "has_signs"=some (.ref t.f_a9)
 F_a7:Fun K "read_bits" "read_bits" s_a7 t.f_a7 t.d_a7
 b_a7:aJ K t.d_a7 ["word"] []
 mg_a7:mg "read_bits"=some (.ref t.f_a7)
 F_aO:Fun K "read_cloth" "read_cloth" s_aO t.f_aO t.d_aO
 b_aO:aJ K t.d_aO ["text"] []
 mg_aO:mg "read_cloth"=some (.ref t.f_aO)
 F_aI:Fun K "read_chest" "read_chest" s_aI t.f_aI t.d_aI
 b_aI:aJ K t.d_aI ["text"] []
 mg_aI:mg "read_chest"=some (.ref t.f_aI)
 F_bv:Fun K "_law_kind" "_law_kind" s_bv t.f_bv t.d_bv
 b_bv:aJ K t.d_bv ["_law_e"] []
 mg_bv:mg "_law_kind"=some (.ref t.f_bv)
 F_by:Fun K "_law_told" "_law_told" s_by t.f_by t.d_by
 b_by:aJ K t.d_by ["_law_cloth"] []
 mg_by:mg "_law_told"=some (.ref t.f_by)
 F_aQ:Fun K "_law_bits_word" "_law_bits_word" s_aQ t.f_aQ t.d_aQ
 b_aQ:aJ K t.d_aQ ["_law_word"] []
 mg_aQ:mg "_law_bits_word"=some (.ref t.f_aQ)
 F_aD:Fun K "_law_cloth_words" "_law_cloth_words" s_aD t.f_aD t.d_aD
 b_aD:aJ K t.d_aD ["_law_words"] []
 mg_aD:mg "_law_cloth_words"=some (.ref t.f_aD)
 F_aE:Fun K "_law_new_word" "_law_new_word" s_aE t.f_aE t.d_aE
 b_aE:aJ K t.d_aE ["_law_book","_law_name"] []
 mg_aE:mg "_law_new_word"=some (.ref t.f_aE)
 F_bh:Fun K "_law_draws" "_law_draws" s_bh t.f_bh t.d_bh
 b_bh:aJ K t.d_bh ["_law_script","_law_many"] []
 mg_bh:mg "_law_draws"=some (.ref t.f_bh)
 F_be:Fun K "_law_names" "_law_names" s_be t.f_be t.d_be
 b_be:aJ K t.d_be ["_law_some","_law_many"] []
 mg_be:mg "_law_names"=some (.ref t.f_be)
 F_bu:Fun K "_law_bits" "_law_bits" s_bu t.f_bu t.d_bu
 b_bu:aJ K t.d_bu ["_law_number","_law_many"] []
 mg_bu:mg "_law_bits"=some (.ref t.f_bu)
 F_aC:Fun K "_law_book_deed" "_law_book_deed" s_aC t.f_aC t.d_aC
 b_aC:aJ K t.d_aC ["_law_some","_law_book","_law_pool"] []
 mg_aC:mg "_law_book_deed"=some (.ref t.f_aC)
 F_bl:Fun K "_law_with" "_law_with" s_bl t.f_bl t.d_bl
 b_bl:aJ K t.d_bl ["_law_plan","_law_way","_law_bits_here"] []
 mg_bl:mg "_law_with"=some (.ref t.f_bl)
 F_bk:Fun K "_law_unite" "_law_unite" s_bk t.f_bk t.d_bk
 b_bk:aJ K t.d_bk ["_law_one","_law_other","_law_way"] []
 mg_bk:mg "_law_unite"=some (.ref t.f_bk)
 F_aN:Fun K "_law_fresh_sew" "_law_fresh_sew" s_aN t.f_aN t.d_aN
 b_aN:aJ K t.d_aN ["_law_book","_law_pool","_law_some"] []
 mg_aN:mg "_law_fresh_sew"=some (.ref t.f_aN)
 F_aV:Fun K "_law_book_step" "_law_book_step" s_aV t.f_aV t.d_aV
 b_aV:aJ K t.d_aV ["_law_some","_law_book","_law_pool"] []
 mg_aV:mg "_law_book_step"=some (.ref t.f_aV)
 F_a1:Fun K "_law_line_word" "_law_line_word" s_a1 t.f_a1 t.d_a1
 b_a1:aJ K t.d_a1 ["_law_plan","_law_way","_law_k","_law_more"] []
 mg_a1:mg "_law_line_word"=some (.ref t.f_a1)
 F_bo:Fun K "_law_split" "_law_split" s_bo t.f_bo t.d_bo
 b_bo:aJ K t.d_bo ["_law_plan","_law_way","_law_k"] []
 mg_bo:mg "_law_split"=some (.ref t.f_bo)
 F_aX:Fun K "_law_changed" "_law_changed" s_aX t.f_aX t.d_aX
 b_aX:aJ K t.d_aX ["_law_fresh","_law_deed"] []
 mg_aX:mg "_law_changed"=some (.ref t.f_aX)
 F_aM:Fun K "_law_book_next" "_law_book_next" s_aM t.f_aM t.d_aM
 b_aM:aJ K t.d_aM ["_law_book","_law_deed"] []
 mg_aM:mg "_law_book_next"=some (.ref t.f_aM)
 F_Ldo:Fun K "_law_do" "_law_do" Bg t.f_Ldo t.d_Ldo
 b_Ldo:aJ K t.d_Ldo ["_law_chest","_law_deed"] []
 mg_Ldo:mg "_law_do"=some (.ref t.f_Ldo)
 F_aw:Fun K "_law_built_chest" "_law_built_chest" s_aw t.f_aw t.d_aw
 b_aw:aJ K t.d_aw ["_law_some"] []
 mg_aw:mg "_law_built_chest"=some (.ref t.f_aw)
 F_a8:Fun K "_law_spoilt" "_law_spoilt" s_a8 t.f_a8 t.d_a8
 b_a8:aJ K t.d_a8 ["_law_text","_law_some"] []
 mg_a8:mg "_law_spoilt"=some (.ref t.f_a8)
 F_bn:Fun K "_law_same" "_law_same" s_bn t.f_bn t.d_bn
 b_bn:aJ K t.d_bn ["_law_told_here","_law_due"] []
 mg_bn:mg "_law_same"=some (.ref t.f_bn)
 F_bx:Fun K "_law_read" "_law_read" s_bx t.f_bx t.d_bx
 b_bx:aJ K t.d_bx ["_law_text"] []
 mg_bx:mg "_law_read"=some (.ref t.f_bx)
 F_bd:Fun K "_law_wanted" "_law_wanted" s_bd t.f_bd t.d_bd
 b_bd:aJ K t.d_bd ["_law_text"] []
 mg_bd:mg "_law_wanted"=some (.ref t.f_bd)
 F_law:Fun K "law" "law" Bi t.f_law t.d_law
 b_law:aJ K t.d_law ["_law_script"] []
 mg_law:mg "law"=some (.ref t.f_law)
 mg_a5:mg "SewError"=some (.ref t.a_a5)
 mg_ah:mg "Unfit"=some (.ref t.a_ah)
 mg_ac:mg "BadSize"=some (.ref t.a_ac)
 mg_ag:mg "BadBit"=some (.ref t.a_ag)
 mg_bw:mg "NoCell"=some (.ref t.a_bw)
 mg_ae:mg "NoLine"=some (.ref t.a_ae)
 mg_ad:mg "BadName"=some (.ref t.a_ad)
 mg_aj:mg "Taken"=some (.ref t.a_aj)
 mg_ab:mg "NoCloth"=some (.ref t.a_ab)
 mg_aa:mg "NothingLeft"=some (.ref t.a_aa)
 mg_af:mg "BadText"=some (.ref t.a_af)
 x_ac:QXc K t.a_ac
 xi_ac:eY K t.a_ac
 cat_ac:Ik K (.ref t.a_ac) (.ref t.a_a5)=some true
 nc_ac:Ik K (.ref t.a_ac) (.ref t.a_ah)=some false
 kt_ac_ad:QKt K t.a_ac t.a_ad false
 kt_ac_aj:QKt K t.a_ac t.a_aj false
 kt_ac_ab:QKt K t.a_ac t.a_ab false
 kt_ac_ae:QKt K t.a_ac t.a_ae false
 kt_ac_ag:QKt K t.a_ac t.a_ag false
 kt_ac_ac:QKt K t.a_ac t.a_ac true
 kt_ac_aa:QKt K t.a_ac t.a_aa false
 kt_ac_ah:QKt K t.a_ac t.a_ah false
 kt_ac_af:QKt K t.a_ac t.a_af false
 kv_ac:IF K (.ref t.a_ac) (.type "ValueError")=some true
 x_ag:QXc K t.a_ag
 xi_ag:eY K t.a_ag
 cat_ag:Ik K (.ref t.a_ag) (.ref t.a_a5)=some true
 nc_ag:Ik K (.ref t.a_ag) (.ref t.a_ah)=some false
 kt_ag_ad:QKt K t.a_ag t.a_ad false
 kt_ag_aj:QKt K t.a_ag t.a_aj false
 kt_ag_ab:QKt K t.a_ag t.a_ab false
 kt_ag_ae:QKt K t.a_ag t.a_ae false
 kt_ag_ag:QKt K t.a_ag t.a_ag true
 kt_ag_ac:QKt K t.a_ag t.a_ac false
 kt_ag_aa:QKt K t.a_ag t.a_aa false
 kt_ag_ah:QKt K t.a_ag t.a_ah false
 kt_ag_af:QKt K t.a_ag t.a_af false
 kv_ag:IF K (.ref t.a_ag) (.type "ValueError")=some true
 x_bw:QXc K t.a_bw
 xi_bw:eY K t.a_bw
 cat_bw:Ik K (.ref t.a_bw) (.ref t.a_a5)=some true
 x_ae:QXc K t.a_ae
 xi_ae:eY K t.a_ae
 cat_ae:Ik K (.ref t.a_ae) (.ref t.a_a5)=some true
 nc_ae:Ik K (.ref t.a_ae) (.ref t.a_ah)=some false
 kt_ae_ad:QKt K t.a_ae t.a_ad false
 kt_ae_aj:QKt K t.a_ae t.a_aj false
 kt_ae_ab:QKt K t.a_ae t.a_ab false
 kt_ae_ae:QKt K t.a_ae t.a_ae true
 kt_ae_ag:QKt K t.a_ae t.a_ag false
 kt_ae_ac:QKt K t.a_ae t.a_ac false
 kt_ae_aa:QKt K t.a_ae t.a_aa false
 kt_ae_ah:QKt K t.a_ae t.a_ah false
 kt_ae_af:QKt K t.a_ae t.a_af false
 kv_ae:IF K (.ref t.a_ae) (.type "ValueError")=some true
 x_ad:QXc K t.a_ad
 xi_ad:eY K t.a_ad
 cat_ad:Ik K (.ref t.a_ad) (.ref t.a_a5)=some true
 nc_ad:Ik K (.ref t.a_ad) (.ref t.a_ah)=some false
 kt_ad_ad:QKt K t.a_ad t.a_ad true
 kt_ad_aj:QKt K t.a_ad t.a_aj false
 kt_ad_ab:QKt K t.a_ad t.a_ab false
 kt_ad_ae:QKt K t.a_ad t.a_ae false
 kt_ad_ag:QKt K t.a_ad t.a_ag false
 kt_ad_ac:QKt K t.a_ad t.a_ac false
 kt_ad_aa:QKt K t.a_ad t.a_aa false
 kt_ad_ah:QKt K t.a_ad t.a_ah false
 kt_ad_af:QKt K t.a_ad t.a_af false
 kv_ad:IF K (.ref t.a_ad) (.type "ValueError")=some true
 x_aj:QXc K t.a_aj
 xi_aj:eY K t.a_aj
 cat_aj:Ik K (.ref t.a_aj) (.ref t.a_a5)=some true
 nc_aj:Ik K (.ref t.a_aj) (.ref t.a_ah)=some false
 kt_aj_ad:QKt K t.a_aj t.a_ad false
 kt_aj_aj:QKt K t.a_aj t.a_aj true
 kt_aj_ab:QKt K t.a_aj t.a_ab false
 kt_aj_ae:QKt K t.a_aj t.a_ae false
 kt_aj_ag:QKt K t.a_aj t.a_ag false
 kt_aj_ac:QKt K t.a_aj t.a_ac false
 kt_aj_aa:QKt K t.a_aj t.a_aa false
 kt_aj_ah:QKt K t.a_aj t.a_ah false
 kt_aj_af:QKt K t.a_aj t.a_af false
 kv_aj:IF K (.ref t.a_aj) (.type "ValueError")=some true
 x_ab:QXc K t.a_ab
 xi_ab:eY K t.a_ab
 cat_ab:Ik K (.ref t.a_ab) (.ref t.a_a5)=some true
 nc_ab:Ik K (.ref t.a_ab) (.ref t.a_ah)=some false
 kt_ab_ad:QKt K t.a_ab t.a_ad false
 kt_ab_aj:QKt K t.a_ab t.a_aj false
 kt_ab_ab:QKt K t.a_ab t.a_ab true
 kt_ab_ae:QKt K t.a_ab t.a_ae false
 kt_ab_ag:QKt K t.a_ab t.a_ag false
 kt_ab_ac:QKt K t.a_ab t.a_ac false
 kt_ab_aa:QKt K t.a_ab t.a_aa false
 kt_ab_ah:QKt K t.a_ab t.a_ah false
 kt_ab_af:QKt K t.a_ab t.a_af false
 kv_ab:IF K (.ref t.a_ab) (.type "ValueError")=some true
 x_aa:QXc K t.a_aa
 xi_aa:eY K t.a_aa
 cat_aa:Ik K (.ref t.a_aa) (.ref t.a_a5)=some true
 nc_aa:Ik K (.ref t.a_aa) (.ref t.a_ah)=some false
 kt_aa_ad:QKt K t.a_aa t.a_ad false
 kt_aa_aj:QKt K t.a_aa t.a_aj false
 kt_aa_ab:QKt K t.a_aa t.a_ab false
 kt_aa_ae:QKt K t.a_aa t.a_ae false
 kt_aa_ag:QKt K t.a_aa t.a_ag false
 kt_aa_ac:QKt K t.a_aa t.a_ac false
 kt_aa_aa:QKt K t.a_aa t.a_aa true
 kt_aa_ah:QKt K t.a_aa t.a_ah false
 kt_aa_af:QKt K t.a_aa t.a_af false
 kv_aa:IF K (.ref t.a_aa) (.type "ValueError")=some true
 x_af:QXc K t.a_af
 xi_af:eY K t.a_af
 cat_af:Ik K (.ref t.a_af) (.ref t.a_a5)=some true
 kt_af_ad:QKt K t.a_af t.a_ad false
 kt_af_aj:QKt K t.a_af t.a_aj false
 kt_af_ab:QKt K t.a_af t.a_ab false
 kt_af_ae:QKt K t.a_af t.a_ae false
 kt_af_ag:QKt K t.a_af t.a_ag false
 kt_af_ac:QKt K t.a_af t.a_ac false
 kt_af_aa:QKt K t.a_af t.a_aa false
 kt_af_ah:QKt K t.a_af t.a_ah false
 kt_af_af:QKt K t.a_af t.a_af true
 kv_af:IF K (.ref t.a_af) (.type "ValueError")=some true
 bi_a5:DK K t.a_a5
 nx_Unfit_at:QFn K t.a_ah "at"
 xi_ah:eY K t.a_ah
 cat_ah:Ik K (.ref t.a_ah) (.ref t.a_a5)=some true
 ct_ah:Ik K (.ref t.a_ah) (.ref t.a_ah)=some true
 kt_ah_ad:QKt K t.a_ah t.a_ad false
 kt_ah_aj:QKt K t.a_ah t.a_aj false
 kt_ah_ab:QKt K t.a_ah t.a_ab false
 kt_ah_ae:QKt K t.a_ah t.a_ae false
 kt_ah_ag:QKt K t.a_ah t.a_ag false
 kt_ah_ac:QKt K t.a_ah t.a_ac false
 kt_ah_aa:QKt K t.a_ah t.a_aa false
 kt_ah_ah:QKt K t.a_ah t.a_ah true
 mg_LONGEST_SIDE:mg "LONGEST_SIDE"=some (.int 40 t.tk_LONGEST_SIDE)
 mg_LONGEST_NAME:mg "LONGEST_NAME"=some (.int 12 t.tk_LONGEST_NAME)
 no_bp:mg "isinstance"=none
 no_int:mg "int"=none
 no_bool:mg "bool"=none
 no_all:mg "all"=none
 no_len:mg "len"=none
 no_bm:mg "tuple"=none
 no_list:mg "list"=none
 no_bz:mg "range"=none
 no_abs:mg "abs"=none
 no_sum:mg "sum"=none
 no_min:mg "min"=none
 no_max:mg "max"=none
 no_str:mg "str"=none
 no_zip:mg "zip"=none
 no_bB:mg "enumerate"=none
 no_bj:mg "ValueError"=none
 no_dict:mg "dict"=none
theorem txt_mk {K:A_} {h:IC} {mg:Str->Option η} (X:K.In h) (G:h.Ns JQ mg) {C_bA C_ak C_ai f_bc f_ba f_aH f_bt f_bf f_bi f_bb f_aY f_aq:ς} {f_ap f_ax f_aF f_au f_ar f_am f_aK f_at f_bg f_as f_aU f_bq:ς} {f_put f_cut f_aW f_br f_aA f_az f_bs f_aS f_aB f_an f_ao f_av:ς} {f_al f_aJ f_aL f_aP f_a3 f_a2 f_a4 f_aG f_a0 f_aZ f_ay f_a6:ς} {f_aT f_aR f_a9 f_a7 f_aO f_aI f_bv f_by f_aQ f_aD f_aE f_bh:ς} {f_be f_bu f_aC f_bl f_bk f_aN f_aV f_a1 f_bo f_aX f_aM f_Ldo:ς} {f_aw f_a8 f_bn f_bx f_bd f_law C_a5 C_ah C_ac C_ag C_bw C_ae:ς} {C_ad C_aj C_ab C_aa C_af:ς} {d_bc d_ba d_aH d_bt d_bf d_bi d_bb d_aY d_aq d_ap d_ax d_aF:IJ} {d_au d_ar d_am d_aK d_at d_bg d_as d_aU d_bq d_put d_cut d_aW:IJ} {d_br d_aA d_az d_bs d_aS d_aB d_an d_ao d_av d_al d_aJ d_aL:IJ} {d_aP d_a3 d_a2 d_a4 d_aG d_a0 d_aZ d_ay d_a6 d_aT d_aR d_a9:IJ} {d_a7 d_aO d_aI d_bv d_by d_aQ d_aD d_aE d_bh d_be d_bu d_aC:IJ} {d_bl d_bk d_aN d_aV d_a1 d_bo d_aX d_aM d_Ldo d_aw d_a8 d_bn:IJ} {d_bx d_bd d_law:IJ} {tk_LONGEST_SIDE tk_LONGEST_NAME:Om}
  (aC_bA:QNs K "Board" C_bA)
  (ga_bA:Kw K (.ref C_bA) "__getattribute__"=some (some (.builtin "type.__getattribute__")))
  (rd_bA:W.readsIn K C_bA (.type "type")=true)
  (aC_ak:QNs K "Chest" C_ak)
  (pg_ak:MB K C_ak JT=true)
  (hd_ak:MP K C_ak=true)
  (po_ak:Nb K C_ak=true)
  (sa_ak:JG K (.ref C_ak) "__setattr__"=some (some (.builtin "object.__setattr__")))
  (mk_ak:OV K C_ak=true)
  (kc_ak:Ke K (.ref C_ak)=true)
  (naC_cloths:QFn K C_ak "cloths")
  (naC_ahead_of_deeds:QFn K C_ak "ahead_of_deeds")
  (naC_behind_undone:QFn K C_ak "behind_undone")
  (aC_ai:QNs K "Cloth" C_ai)
  (pg_ai:MB K C_ai JT=true)
  (hd_ai:MP K C_ai=true)
  (po_ai:Nb K C_ai=true)
  (sa_ai:JG K (.ref C_ai) "__setattr__"=some (some (.builtin "object.__setattr__")))
  (mk_ai:OV K C_ai=true)
  (kc_ai:Ke K (.ref C_ai)=true)
  (na_columns_count:QFn K C_ai "columns_count")
  (na_rows_count:QFn K C_ai "rows_count")
  (na_col_bits:QFn K C_ai "col_bits")
  (na_row_bits:QFn K C_ai "row_bits")
  (na_first_colour:QFn K C_ai "first_colour")
  (F_bc:Fun K "__init__" "Unfit.__init__" s_bc f_bc d_bc)
  (oi_ah:QFi K C_ah "__init__" f_bc)
  (of_ah:NB K (.ref f_bc)=some (.type "function"))
  (ok_ah:Ke K (.ref C_ah)=true)
  (os_ah:JG K (.ref C_ah) "__setattr__"=some (some (.builtin "object.__setattr__")))
  (om_ah:Lf K C_ah (.type "object")=some true)
  (ox_ah:vQ K C_ah [.type "ValueError",.type "Exception",.type "BaseException",.type "object"] "ValueError.__new__"=true)
  (a_ba:QNs K "is_number" f_ba)
  (F_ba:Fun K "is_number" "is_number" s_ba f_ba d_ba)
  (a_aH:QNs K "is_below" f_aH)
  (F_aH:Fun K "is_below" "is_below" s_aH f_aH d_aH)
  (a_bt:QNs K "is_bit" f_bt)
  (F_bt:Fun K "is_bit" "is_bit" s_bt f_bt d_bt)
  (a_bf:QNs K "all_bits" f_bf)
  (F_bf:Fun K "all_bits" "all_bits" s_bf f_bf d_bf)
  (a_bi:QNs K "is_side" f_bi)
  (F_bi:Fun K "is_side" "is_side" s_bi f_bi d_bi)
  (a_bb:QNs K "need_cell" f_bb)
  (F_bb:Fun K "need_cell" "need_cell" s_bb f_bb d_bb)
  (fc_aY:W.findCls K (.ref C_bA) (.type "type") "__init__"=some (.val (.ref f_aY)))
  (F_aY:Fun K "__init__" "Board.__init__" s_aY f_aY d_aY)
  (a_aq:QFi K C_ai "__init__" f_aq)
  (i_aq:QIf K f_aq)
  (F_aq:Fun K "__init__" "Cloth.__init__" s_aq f_aq d_aq)
  (a_ap:QFi K C_ai "shade" f_ap)
  (i_ap:QIf K f_ap)
  (F_ap:Fun K "shade" "Cloth.shade" s_ap f_ap d_ap)
  (a_ax:QFi K C_ai "wide" f_ax)
  (i_ax:QIf K f_ax)
  (F_ax:Fun K "wide" "Board.wide" s_ax f_ax d_ax)
  (a_aF:QFi K C_ai "tall" f_aF)
  (i_aF:QIf K f_aF)
  (F_aF:Fun K "tall" "Board.tall" s_aF f_aF d_aF)
  (a_au:QFi K C_ai "cols" f_au)
  (i_au:QIf K f_au)
  (F_au:Fun K "cols" "Board.cols" s_au f_au d_au)
  (a_ar:QFi K C_ai "rows" f_ar)
  (i_ar:QIf K f_ar)
  (F_ar:Fun K "rows" "Board.rows" s_ar f_ar d_ar)
  (a_am:QFi K C_ai "bits_along" f_am)
  (i_am:QIf K f_am)
  (F_am:Fun K "bits_along" "Board.bits_along" s_am f_am d_am)
  (a_aK:QFi K C_ai "bit" f_aK)
  (i_aK:QIf K f_aK)
  (F_aK:Fun K "bit" "Board.bit" s_aK f_aK d_aK)
  (a_at:QFi K C_ai "colour" f_at)
  (i_at:QIf K f_at)
  (F_at:Fun K "colour" "Cloth.colour" s_at f_at d_at)
  (a_bg:QNs K "shifted" f_bg)
  (F_bg:Fun K "shifted" "shifted" s_bg f_bg d_bg)
  (a_as:QNs K "transposed" f_as)
  (F_as:Fun K "transposed" "transposed" s_as f_as d_as)
  (a_aU:QNs K "with_bits" f_aU)
  (F_aU:Fun K "with_bits" "with_bits" s_aU f_aU d_aU)
  (a_bq:QNs K "turned" f_bq)
  (F_bq:Fun K "turned" "turned" s_bq f_bq d_bq)
  (a_put:QNs K "put" f_put)
  (F_put:Fun K "put" "put" Bj f_put d_put)
  (a_putsew:QNs K "put_sew" f_put)
  (a_cut:QNs K "cut" f_cut)
  (F_cut:Fun K "cut" "cut" Bh f_cut d_cut)
  (a_cutsew:QNs K "cut_sew" f_cut)
  (a_aW:QNs K "parted_up" f_aW)
  (F_aW:Fun K "parted_up" "parted_up" s_aW f_aW d_aW)
  (a_br:QNs K "parted" f_br)
  (F_br:Fun K "parted" "parted" s_br f_br d_br)
  (a_aA:QNs K "sewn_beside" f_aA)
  (F_aA:Fun K "sewn_beside" "sewn_beside" s_aA f_aA d_aA)
  (a_az:QNs K "sewn_together" f_az)
  (F_az:Fun K "sewn_together" "sewn_together" s_az f_az d_az)
  (a_bs:QNs K "is_name" f_bs)
  (F_bs:Fun K "is_name" "is_name" s_bs f_bs d_bs)
  (a_aS:QFi K C_ak "__init__" f_aS)
  (i_aS:QIf K f_aS)
  (F_aS:Fun K "__init__" "Chest.__init__" s_aS f_aS d_aS)
  (a_aB:QFi K C_ak "names" f_aB)
  (i_aB:QIf K f_aB)
  (F_aB:Fun K "names" "Chest.names" s_aB f_aB d_aB)
  (a_an:QFi K C_ak "cloth" f_an)
  (i_an:QIf K f_an)
  (F_an:Fun K "cloth" "Chest.cloth" s_an f_an d_an)
  (a_ao:QFi K C_ak "need_free" f_ao)
  (i_ao:QIf K f_ao)
  (F_ao:Fun K "need_free" "Chest.need_free" s_ao f_ao d_ao)
  (a_av:QFi K C_ak "become" f_av)
  (i_av:QIf K f_av)
  (F_av:Fun K "become" "Chest.become" s_av f_av d_av)
  (a_al:QFi K C_ak "become_with" f_al)
  (i_al:QIf K f_al)
  (F_al:Fun K "become_with" "Chest.become_with" s_al f_al d_al)
  (a_aJ:QFi K C_ak "lay" f_aJ)
  (i_aJ:QIf K f_aJ)
  (F_aJ:Fun K "lay" "Chest.lay" s_aJ f_aJ d_aJ)
  (a_aL:QFi K C_ak "drop" f_aL)
  (i_aL:QIf K f_aL)
  (F_aL:Fun K "drop" "Chest.drop" s_aL f_aL d_aL)
  (a_aP:QFi K C_ak "turn" f_aP)
  (i_aP:QIf K f_aP)
  (F_aP:Fun K "turn" "Chest.turn" s_aP f_aP d_aP)
  (a_a3:QFi K C_ak "put" f_a3)
  (i_a3:QIf K f_a3)
  (F_a3:Fun K "put" "Chest.put" s_a3 f_a3 d_a3)
  (a_a2:QFi K C_ak "cut" f_a2)
  (i_a2:QIf K f_a2)
  (F_a2:Fun K "cut" "Chest.cut" s_a2 f_a2 d_a2)
  (a_a4:QFi K C_ak "sew" f_a4)
  (i_a4:QIf K f_a4)
  (F_a4:Fun K "sew" "Chest.sew" s_a4 f_a4 d_a4)
  (a_aG:QFi K C_ak "part" f_aG)
  (i_aG:QIf K f_aG)
  (F_aG:Fun K "part" "Chest.part" s_aG f_aG d_aG)
  (a_a0:QFi K C_ak "undo" f_a0)
  (i_a0:QIf K f_a0)
  (F_a0:Fun K "undo" "Chest.undo" s_a0 f_a0 d_a0)
  (a_aZ:QFi K C_ak "redo" f_aZ)
  (i_aZ:QIf K f_aZ)
  (F_aZ:Fun K "redo" "Chest.redo" s_aZ f_aZ d_aZ)
  (a_ay:QFi K C_ak "forget" f_ay)
  (i_ay:QIf K f_ay)
  (F_ay:Fun K "forget" "Chest.forget" s_ay f_ay d_ay)
  (a_a6:QNs K "bits_text" f_a6)
  (F_a6:Fun K "bits_text" "bits_text" s_a6 f_a6 d_a6)
  (a_aT:QNs K "cloth_text" f_aT)
  (F_aT:Fun K "cloth_text" "cloth_text" s_aT f_aT d_aT)
  (a_aR:QNs K "chest_text" f_aR)
  (F_aR:Fun K "chest_text" "chest_text" s_aR f_aR d_aR)
  (a_a9:QNs K "has_signs" f_a9)
  (F_a9:Fun K "has_signs" "has_signs" s_a9 f_a9 d_a9)
  (a_a7:QNs K "read_bits" f_a7)
  (F_a7:Fun K "read_bits" "read_bits" s_a7 f_a7 d_a7)
  (a_aO:QNs K "read_cloth" f_aO)
  (F_aO:Fun K "read_cloth" "read_cloth" s_aO f_aO d_aO)
  (a_aI:QNs K "read_chest" f_aI)
  (F_aI:Fun K "read_chest" "read_chest" s_aI f_aI d_aI)
  (a_bv:QNs K "_law_kind" f_bv)
  (F_bv:Fun K "_law_kind" "_law_kind" s_bv f_bv d_bv)
  (a_by:QNs K "_law_told" f_by)
  (F_by:Fun K "_law_told" "_law_told" s_by f_by d_by)
  (a_aQ:QNs K "_law_bits_word" f_aQ)
  (F_aQ:Fun K "_law_bits_word" "_law_bits_word" s_aQ f_aQ d_aQ)
  (a_aD:QNs K "_law_cloth_words" f_aD)
  (F_aD:Fun K "_law_cloth_words" "_law_cloth_words" s_aD f_aD d_aD)
  (a_aE:QNs K "_law_new_word" f_aE)
  (F_aE:Fun K "_law_new_word" "_law_new_word" s_aE f_aE d_aE)
  (a_bh:QNs K "_law_draws" f_bh)
  (F_bh:Fun K "_law_draws" "_law_draws" s_bh f_bh d_bh)
  (a_be:QNs K "_law_names" f_be)
  (F_be:Fun K "_law_names" "_law_names" s_be f_be d_be)
  (a_bu:QNs K "_law_bits" f_bu)
  (F_bu:Fun K "_law_bits" "_law_bits" s_bu f_bu d_bu)
  (a_aC:QNs K "_law_book_deed" f_aC)
  (F_aC:Fun K "_law_book_deed" "_law_book_deed" s_aC f_aC d_aC)
  (a_bl:QNs K "_law_with" f_bl)
  (F_bl:Fun K "_law_with" "_law_with" s_bl f_bl d_bl)
  (a_bk:QNs K "_law_unite" f_bk)
  (F_bk:Fun K "_law_unite" "_law_unite" s_bk f_bk d_bk)
  (a_aN:QNs K "_law_fresh_sew" f_aN)
  (F_aN:Fun K "_law_fresh_sew" "_law_fresh_sew" s_aN f_aN d_aN)
  (a_aV:QNs K "_law_book_step" f_aV)
  (F_aV:Fun K "_law_book_step" "_law_book_step" s_aV f_aV d_aV)
  (a_a1:QNs K "_law_line_word" f_a1)
  (F_a1:Fun K "_law_line_word" "_law_line_word" s_a1 f_a1 d_a1)
  (a_bo:QNs K "_law_split" f_bo)
  (F_bo:Fun K "_law_split" "_law_split" s_bo f_bo d_bo)
  (a_aX:QNs K "_law_changed" f_aX)
  (F_aX:Fun K "_law_changed" "_law_changed" s_aX f_aX d_aX)
  (a_aM:QNs K "_law_book_next" f_aM)
  (F_aM:Fun K "_law_book_next" "_law_book_next" s_aM f_aM d_aM)
  (a_Ldo:QNs K "_law_do" f_Ldo)
  (F_Ldo:Fun K "_law_do" "_law_do" Bg f_Ldo d_Ldo)
  (a_aw:QNs K "_law_built_chest" f_aw)
  (F_aw:Fun K "_law_built_chest" "_law_built_chest" s_aw f_aw d_aw)
  (a_a8:QNs K "_law_spoilt" f_a8)
  (F_a8:Fun K "_law_spoilt" "_law_spoilt" s_a8 f_a8 d_a8)
  (a_bn:QNs K "_law_same" f_bn)
  (F_bn:Fun K "_law_same" "_law_same" s_bn f_bn d_bn)
  (a_bx:QNs K "_law_read" f_bx)
  (F_bx:Fun K "_law_read" "_law_read" s_bx f_bx d_bx)
  (a_bd:QNs K "_law_wanted" f_bd)
  (F_bd:Fun K "_law_wanted" "_law_wanted" s_bd f_bd d_bd)
  (a_law:QNs K "law" f_law)
  (F_law:Fun K "law" "law" Bi f_law d_law)
  (aX_a5:QNs K "SewError" C_a5)
  (aX_ah:QNs K "Unfit" C_ah)
  (aX_ac:QNs K "BadSize" C_ac)
  (aX_ag:QNs K "BadBit" C_ag)
  (aX_bw:QNs K "NoCell" C_bw)
  (aX_ae:QNs K "NoLine" C_ae)
  (aX_ad:QNs K "BadName" C_ad)
  (aX_aj:QNs K "Taken" C_aj)
  (aX_ab:QNs K "NoCloth" C_ab)
  (aX_aa:QNs K "NothingLeft" C_aa)
  (aX_af:QNs K "BadText" C_af)
  (bb:JR K (.ref C_a5) (.type "BaseException")=some true)
  (bm:Lf K C_a5 (.type "object")=some true)
  (bt:NB K (.ref C_a5)=some (.type "type"))
  (nb:JR K (.ref C_ah) (.type "BaseException")=some true)
  (nm:Lf K C_ah (.type "object")=some true)
  (nt:NB K (.ref C_ah)=some (.type "type"))
  (ogs:Kw K (.builtin "object.__class__") "__get__"=some (some (.builtin "getset_descriptor.__get__")))
  (otk:W.takesIn K (.builtin "object.__class__")=some true)
  (x_ac:QXc K C_ac)
  (xg_BadSize:QXg K C_ac)
  (sb_ac:JR K (.ref C_ac) (.ref C_a5)=some true)
  (sn_ac:JR K (.ref C_ac) (.ref C_ah)=some false)
  (kt_ac_ad:QKt K C_ac C_ad false)
  (kt_ac_aj:QKt K C_ac C_aj false)
  (kt_ac_ab:QKt K C_ac C_ab false)
  (kt_ac_ae:QKt K C_ac C_ae false)
  (kt_ac_ag:QKt K C_ac C_ag false)
  (kt_ac_ac:QKt K C_ac C_ac true)
  (kt_ac_aa:QKt K C_ac C_aa false)
  (kt_ac_ah:QKt K C_ac C_ah false)
  (kt_ac_af:QKt K C_ac C_af false)
  (kv_ac:IF K (.ref C_ac) (.type "ValueError")=some true)
  (x_ag:QXc K C_ag)
  (xg_BadBit:QXg K C_ag)
  (sb_ag:JR K (.ref C_ag) (.ref C_a5)=some true)
  (sn_ag:JR K (.ref C_ag) (.ref C_ah)=some false)
  (kt_ag_ad:QKt K C_ag C_ad false)
  (kt_ag_aj:QKt K C_ag C_aj false)
  (kt_ag_ab:QKt K C_ag C_ab false)
  (kt_ag_ae:QKt K C_ag C_ae false)
  (kt_ag_ag:QKt K C_ag C_ag true)
  (kt_ag_ac:QKt K C_ag C_ac false)
  (kt_ag_aa:QKt K C_ag C_aa false)
  (kt_ag_ah:QKt K C_ag C_ah false)
  (kt_ag_af:QKt K C_ag C_af false)
  (kv_ag:IF K (.ref C_ag) (.type "ValueError")=some true)
  (x_bw:QXc K C_bw)
  (xg_NoCell:QXg K C_bw)
  (sb_bw:JR K (.ref C_bw) (.ref C_a5)=some true)
  (x_ae:QXc K C_ae)
  (xg_NoLine:QXg K C_ae)
  (sb_ae:JR K (.ref C_ae) (.ref C_a5)=some true)
  (sn_ae:JR K (.ref C_ae) (.ref C_ah)=some false)
  (kt_ae_ad:QKt K C_ae C_ad false)
  (kt_ae_aj:QKt K C_ae C_aj false)
  (kt_ae_ab:QKt K C_ae C_ab false)
  (kt_ae_ae:QKt K C_ae C_ae true)
  (kt_ae_ag:QKt K C_ae C_ag false)
  (kt_ae_ac:QKt K C_ae C_ac false)
  (kt_ae_aa:QKt K C_ae C_aa false)
  (kt_ae_ah:QKt K C_ae C_ah false)
  (kt_ae_af:QKt K C_ae C_af false)
  (kv_ae:IF K (.ref C_ae) (.type "ValueError")=some true)
  (x_ad:QXc K C_ad)
  (xg_BadName:QXg K C_ad)
  (sb_ad:JR K (.ref C_ad) (.ref C_a5)=some true)
  (sn_ad:JR K (.ref C_ad) (.ref C_ah)=some false)
  (kt_ad_ad:QKt K C_ad C_ad true)
  (kt_ad_aj:QKt K C_ad C_aj false)
  (kt_ad_ab:QKt K C_ad C_ab false)
  (kt_ad_ae:QKt K C_ad C_ae false)
  (kt_ad_ag:QKt K C_ad C_ag false)
  (kt_ad_ac:QKt K C_ad C_ac false)
  (kt_ad_aa:QKt K C_ad C_aa false)
  (kt_ad_ah:QKt K C_ad C_ah false)
  (kt_ad_af:QKt K C_ad C_af false)
  (kv_ad:IF K (.ref C_ad) (.type "ValueError")=some true)
  (x_aj:QXc K C_aj)
  (xg_Taken:QXg K C_aj)
  (sb_aj:JR K (.ref C_aj) (.ref C_a5)=some true)
  (sn_aj:JR K (.ref C_aj) (.ref C_ah)=some false)
  (kt_aj_ad:QKt K C_aj C_ad false)
  (kt_aj_aj:QKt K C_aj C_aj true)
  (kt_aj_ab:QKt K C_aj C_ab false)
  (kt_aj_ae:QKt K C_aj C_ae false)
  (kt_aj_ag:QKt K C_aj C_ag false)
  (kt_aj_ac:QKt K C_aj C_ac false)
  (kt_aj_aa:QKt K C_aj C_aa false)
  (kt_aj_ah:QKt K C_aj C_ah false)
  (kt_aj_af:QKt K C_aj C_af false)
  (kv_aj:IF K (.ref C_aj) (.type "ValueError")=some true)
  (x_ab:QXc K C_ab)
  (xg_NoCloth:QXg K C_ab)
  (sb_ab:JR K (.ref C_ab) (.ref C_a5)=some true)
  (sn_ab:JR K (.ref C_ab) (.ref C_ah)=some false)
  (kt_ab_ad:QKt K C_ab C_ad false)
  (kt_ab_aj:QKt K C_ab C_aj false)
  (kt_ab_ab:QKt K C_ab C_ab true)
  (kt_ab_ae:QKt K C_ab C_ae false)
  (kt_ab_ag:QKt K C_ab C_ag false)
  (kt_ab_ac:QKt K C_ab C_ac false)
  (kt_ab_aa:QKt K C_ab C_aa false)
  (kt_ab_ah:QKt K C_ab C_ah false)
  (kt_ab_af:QKt K C_ab C_af false)
  (kv_ab:IF K (.ref C_ab) (.type "ValueError")=some true)
  (x_aa:QXc K C_aa)
  (xg_NothingLeft:QXg K C_aa)
  (sb_aa:JR K (.ref C_aa) (.ref C_a5)=some true)
  (sn_aa:JR K (.ref C_aa) (.ref C_ah)=some false)
  (kt_aa_ad:QKt K C_aa C_ad false)
  (kt_aa_aj:QKt K C_aa C_aj false)
  (kt_aa_ab:QKt K C_aa C_ab false)
  (kt_aa_ae:QKt K C_aa C_ae false)
  (kt_aa_ag:QKt K C_aa C_ag false)
  (kt_aa_ac:QKt K C_aa C_ac false)
  (kt_aa_aa:QKt K C_aa C_aa true)
  (kt_aa_ah:QKt K C_aa C_ah false)
  (kt_aa_af:QKt K C_aa C_af false)
  (kv_aa:IF K (.ref C_aa) (.type "ValueError")=some true)
  (x_af:QXc K C_af)
  (xg_BadText:QXg K C_af)
  (sb_af:JR K (.ref C_af) (.ref C_a5)=some true)
  (kt_af_ad:QKt K C_af C_ad false)
  (kt_af_aj:QKt K C_af C_aj false)
  (kt_af_ab:QKt K C_af C_ab false)
  (kt_af_ae:QKt K C_af C_ae false)
  (kt_af_ag:QKt K C_af C_ag false)
  (kt_af_ac:QKt K C_af C_ac false)
  (kt_af_aa:QKt K C_af C_aa false)
  (kt_af_ah:QKt K C_af C_ah false)
  (kt_af_af:QKt K C_af C_af true)
  (kv_af:IF K (.ref C_af) (.type "ValueError")=some true)
  (bg:Kw K (.ref C_a5) "__getattribute__"=some (some (.builtin "type.__getattribute__")))
  (br:W.readsIn K C_a5 (.type "type")=true)
  (ba:W.findCls K (.ref C_a5) (.type "type") "__init__"=some (.val (.builtin "ValueError.__init__")))
  (nx_Unfit_at:QFn K C_ah "at")
  (xg_Unfit:QXg K C_ah)
  (sb_ah:JR K (.ref C_ah) (.ref C_a5)=some true)
  (sc_ah:JR K (.ref C_ah) (.ref C_ah)=some true)
  (kt_ah_ad:QKt K C_ah C_ad false)
  (kt_ah_aj:QKt K C_ah C_aj false)
  (kt_ah_ab:QKt K C_ah C_ab false)
  (kt_ah_ae:QKt K C_ah C_ae false)
  (kt_ah_ag:QKt K C_ah C_ag false)
  (kt_ah_ac:QKt K C_ah C_ac false)
  (kt_ah_aa:QKt K C_ah C_aa false)
  (kt_ah_ah:QKt K C_ah C_ah true)
  (v_LONGEST_SIDE:W.nsIn K JQ "LONGEST_SIDE"=some (some (.int 40 tk_LONGEST_SIDE)))
  (v_LONGEST_NAME:W.nsIn K JQ "LONGEST_NAME"=some (some (.int 12 tk_LONGEST_NAME)))
  (z_bp:QNn K "isinstance")
  (z_int:QNn K "int")
  (z_bool:QNn K "bool")
  (z_all:QNn K "all")
  (z_len:QNn K "len")
  (z_bm:QNn K "tuple")
  (z_list:QNn K "list")
  (z_bz:QNn K "range")
  (z_abs:QNn K "abs")
  (z_sum:QNn K "sum")
  (z_min:QNn K "min")
  (z_max:QNn K "max")
  (z_str:QNn K "str")
  (z_zip:QNn K "zip")
  (z_bB:QNn K "enumerate")
  (z_bj:QNn K "ValueError")
  (z_dict:QNn K "dict"):∃ t:Ad,Txt K mg t :=
 ⟨{ a_bA:=C_bA,a_ak:=C_ak,a_ai:=C_ai,f_bc:=f_bc,d_bc:=d_bc,f_ba:=f_ba,d_ba:=d_ba,f_aH:=f_aH,d_aH:=d_aH,f_bt:=f_bt,d_bt:=d_bt,f_bf:=f_bf,d_bf:=d_bf,f_bi:=f_bi,d_bi:=d_bi,f_bb:=f_bb,d_bb:=d_bb,f_aY:=f_aY,d_aY:=d_aY,f_aq:=f_aq,d_aq:=d_aq,f_ap:=f_ap,d_ap:=d_ap,f_ax:=f_ax,d_ax:=d_ax,f_aF:=f_aF,d_aF:=d_aF,f_au:=f_au,d_au:=d_au,f_ar:=f_ar,d_ar:=d_ar,f_am:=f_am,d_am:=d_am,f_aK:=f_aK,d_aK:=d_aK,f_at:=f_at,d_at:=d_at,f_bg:=f_bg,d_bg:=d_bg,f_as:=f_as,d_as:=d_as,f_aU:=f_aU,d_aU:=d_aU,f_bq:=f_bq,d_bq:=d_bq,f_put:=f_put,d_put:=d_put,f_cut:=f_cut,d_cut:=d_cut,f_aW:=f_aW,d_aW:=d_aW,f_br:=f_br,d_br:=d_br,f_aA:=f_aA,d_aA:=d_aA,f_az:=f_az,d_az:=d_az,f_bs:=f_bs,d_bs:=d_bs,f_aS:=f_aS,d_aS:=d_aS,f_aB:=f_aB,d_aB:=d_aB,f_an:=f_an,d_an:=d_an,f_ao:=f_ao,d_ao:=d_ao,f_av:=f_av,d_av:=d_av,f_al:=f_al,d_al:=d_al,f_aJ:=f_aJ,d_aJ:=d_aJ,f_aL:=f_aL,d_aL:=d_aL,f_aP:=f_aP,d_aP:=d_aP,f_a3:=f_a3,d_a3:=d_a3,f_a2:=f_a2,d_a2:=d_a2,f_a4:=f_a4,d_a4:=d_a4,f_aG:=f_aG,d_aG:=d_aG,f_a0:=f_a0,d_a0:=d_a0,f_aZ:=f_aZ,d_aZ:=d_aZ,f_ay:=f_ay,d_ay:=d_ay,f_a6:=f_a6,d_a6:=d_a6,f_aT:=f_aT,d_aT:=d_aT,f_aR:=f_aR,d_aR:=d_aR,f_a9:=f_a9,d_a9:=d_a9,f_a7:=f_a7,d_a7:=d_a7,f_aO:=f_aO,d_aO:=d_aO,f_aI:=f_aI,d_aI:=d_aI,f_bv:=f_bv,d_bv:=d_bv,f_by:=f_by,d_by:=d_by,f_aQ:=f_aQ,d_aQ:=d_aQ,f_aD:=f_aD,d_aD:=d_aD,f_aE:=f_aE,d_aE:=d_aE,f_bh:=f_bh,d_bh:=d_bh,f_be:=f_be,d_be:=d_be,f_bu:=f_bu,d_bu:=d_bu,f_aC:=f_aC,d_aC:=d_aC,f_bl:=f_bl,d_bl:=d_bl,f_bk:=f_bk,d_bk:=d_bk,f_aN:=f_aN,d_aN:=d_aN,f_aV:=f_aV,d_aV:=d_aV,f_a1:=f_a1,d_a1:=d_a1,f_bo:=f_bo,d_bo:=d_bo,f_aX:=f_aX,d_aX:=d_aX,f_aM:=f_aM,d_aM:=d_aM,f_Ldo:=f_Ldo,d_Ldo:=d_Ldo,f_aw:=f_aw,d_aw:=d_aw,f_a8:=f_a8,d_a8:=d_a8,f_bn:=f_bn,d_bn:=d_bn,f_bx:=f_bx,d_bx:=d_bx,f_bd:=f_bd,d_bd:=d_bd,f_law:=f_law,d_law:=d_law,a_a5:=C_a5,a_ah:=C_ah,a_ac:=C_ac,a_ag:=C_ag,a_bw:=C_bw,a_ae:=C_ae,a_ad:=C_ad,a_aj:=C_aj,a_ab:=C_ab,a_aa:=C_aa,a_af:=C_af,tk_LONGEST_SIDE:=tk_LONGEST_SIDE,tk_LONGEST_NAME:=tk_LONGEST_NAME },⟨Hh X G aC_bA,Hh X G aC_ak,⟨pg_ak,hd_ak,po_ak,sa_ak⟩,⟨mk_ak,a_aS,i_aS,kc_ak⟩,naC_cloths,naC_ahead_of_deeds,naC_behind_undone,Hh X G aC_ai,⟨pg_ai,hd_ai,po_ai,sa_ai⟩,⟨mk_ai,a_aq,i_aq,kc_ai⟩,na_columns_count,na_rows_count,na_col_bits,na_row_bits,na_first_colour,F_bc,F_bc.b2 fun _ _ _ _ _ _ _ _=>rfl,⟨⟨ox_ah,os_ah,om_ah⟩,oi_ah,of_ah,ok_ah⟩,F_ba,F_ba.b1 fun _ _ _ _ _ _ _=>rfl,Hh X G a_ba,F_aH,F_aH.b2 fun _ _ _ _ _ _ _ _=>rfl,Hh X G a_aH,F_bt,F_bt.b1 fun _ _ _ _ _ _ _=>rfl,Hh X G a_bt,F_bf,F_bf.b1 fun _ _ _ _ _ _ _=>rfl,Hh X G a_bf,F_bi,F_bi.b1 fun _ _ _ _ _ _ _=>rfl,Hh X G a_bi,F_bb,F_bb.b3 fun _ _ _ _ _ _ _ _ _=>rfl,Hh X G a_bb,F_aY,F_aY.b5 fun _ _ _ _ _ _ _ _ _ _ _=>rfl,⟨ga_bA,rd_bA,fc_aY,F_aY.kp⟩,F_aq,F_aq.b4 fun _ _ _ _ _ _ _ _ _ _=>rfl,F_ap,F_ap.b1 fun _ _ _ _ _ _ _=>rfl,⟨a_ap,i_ap,F_ap.kp⟩,F_ax,F_ax.b1 fun _ _ _ _ _ _ _=>rfl,⟨a_ax,i_ax,F_ax.kp⟩,F_aF,F_aF.b1 fun _ _ _ _ _ _ _=>rfl,⟨a_aF,i_aF,F_aF.kp⟩,F_au,F_au.b1 fun _ _ _ _ _ _ _=>rfl,⟨a_au,i_au,F_au.kp⟩,F_ar,F_ar.b1 fun _ _ _ _ _ _ _=>rfl,⟨a_ar,i_ar,F_ar.kp⟩,F_am,F_am.b2 fun _ _ _ _ _ _ _ _=>rfl,⟨a_am,i_am,F_am.kp⟩,F_aK,F_aK.b3 fun _ _ _ _ _ _ _ _ _=>rfl,⟨a_aK,i_aK,F_aK.kp⟩,F_at,F_at.b3 fun _ _ _ _ _ _ _ _ _=>rfl,⟨a_at,i_at,F_at.kp⟩,F_bg,F_bg.b2 fun _ _ _ _ _ _ _ _=>rfl,Hh X G a_bg,F_as,F_as.b1 fun _ _ _ _ _ _ _=>rfl,Hh X G a_as,F_aU,F_aU.b3 fun _ _ _ _ _ _ _ _ _=>rfl,Hh X G a_aU,F_bq,F_bq.b3 fun _ _ _ _ _ _ _ _ _=>rfl,Hh X G a_bq,F_put,F_put.b4 fun _ _ _ _ _ _ _ _ _ _=>rfl,Hh X G a_putsew,Hh X G a_put,F_cut,F_cut.b3 fun _ _ _ _ _ _ _ _ _=>rfl,Hh X G a_cutsew,Hh X G a_cut,F_aW,F_aW.b2 fun _ _ _ _ _ _ _ _=>rfl,Hh X G a_aW,F_br,F_br.b3 fun _ _ _ _ _ _ _ _ _=>rfl,Hh X G a_br,F_aA,F_aA.b2 fun _ _ _ _ _ _ _ _=>rfl,Hh X G a_aA,F_az,F_az.b3 fun _ _ _ _ _ _ _ _ _=>rfl,Hh X G a_az,F_bs,F_bs.b1 fun _ _ _ _ _ _ _=>rfl,Hh X G a_bs,F_aS,F_aS.b1 fun _ _ _ _ _ _ _=>rfl,F_aB,F_aB.b1 fun _ _ _ _ _ _ _=>rfl,⟨a_aB,i_aB,F_aB.kp⟩,F_an,F_an.b2 fun _ _ _ _ _ _ _ _=>rfl,⟨a_an,i_an,F_an.kp⟩,F_ao,F_ao.b2 fun _ _ _ _ _ _ _ _=>rfl,⟨a_ao,i_ao,F_ao.kp⟩,F_av,F_av.b2 fun _ _ _ _ _ _ _ _=>rfl,⟨a_av,i_av,F_av.kp⟩,F_al,F_al.b3 fun _ _ _ _ _ _ _ _ _=>rfl,⟨a_al,i_al,F_al.kp⟩,F_aJ,F_aJ.b3 fun _ _ _ _ _ _ _ _ _=>rfl,⟨a_aJ,i_aJ,F_aJ.kp⟩,F_aL,F_aL.b2 fun _ _ _ _ _ _ _ _=>rfl,⟨a_aL,i_aL,F_aL.kp⟩,F_aP,F_aP.b4 fun _ _ _ _ _ _ _ _ _ _=>rfl,⟨a_aP,i_aP,F_aP.kp⟩,F_a3,F_a3.b5 fun _ _ _ _ _ _ _ _ _ _ _=>rfl,⟨a_a3,i_a3,F_a3.kp⟩,F_a2,F_a2.b4 fun _ _ _ _ _ _ _ _ _ _=>rfl,⟨a_a2,i_a2,F_a2.kp⟩,F_a4,F_a4.b5 fun _ _ _ _ _ _ _ _ _ _ _=>rfl,⟨a_a4,i_a4,F_a4.kp⟩,F_aG,F_aG.b5 fun _ _ _ _ _ _ _ _ _ _ _=>rfl,⟨a_aG,i_aG,F_aG.kp⟩,F_a0,F_a0.b1 fun _ _ _ _ _ _ _=>rfl,⟨a_a0,i_a0,F_a0.kp⟩,F_aZ,F_aZ.b1 fun _ _ _ _ _ _ _=>rfl,⟨a_aZ,i_aZ,F_aZ.kp⟩,F_ay,F_ay.b1 fun _ _ _ _ _ _ _=>rfl,⟨a_ay,i_ay,F_ay.kp⟩,F_a6,F_a6.b1 fun _ _ _ _ _ _ _=>rfl,Hh X G a_a6,F_aT,F_aT.b1 fun _ _ _ _ _ _ _=>rfl,Hh X G a_aT,F_aR,F_aR.b1 fun _ _ _ _ _ _ _=>rfl,Hh X G a_aR,F_a9,F_a9.b2 fun _ _ _ _ _ _ _ _=>rfl,Hh X G a_a9,F_a7,F_a7.b1 fun _ _ _ _ _ _ _=>rfl,Hh X G a_a7,F_aO,F_aO.b1 fun _ _ _ _ _ _ _=>rfl,Hh X G a_aO,F_aI,F_aI.b1 fun _ _ _ _ _ _ _=>rfl,Hh X G a_aI,F_bv,F_bv.b1 fun _ _ _ _ _ _ _=>rfl,Hh X G a_bv,F_by,F_by.b1 fun _ _ _ _ _ _ _=>rfl,Hh X G a_by,F_aQ,F_aQ.b1 fun _ _ _ _ _ _ _=>rfl,Hh X G a_aQ,F_aD,F_aD.b1 fun _ _ _ _ _ _ _=>rfl,Hh X G a_aD,F_aE,F_aE.b2 fun _ _ _ _ _ _ _ _=>rfl,Hh X G a_aE,F_bh,F_bh.b2 fun _ _ _ _ _ _ _ _=>rfl,Hh X G a_bh,F_be,F_be.b2 fun _ _ _ _ _ _ _ _=>rfl,Hh X G a_be,F_bu,F_bu.b2 fun _ _ _ _ _ _ _ _=>rfl,Hh X G a_bu,F_aC,F_aC.b3 fun _ _ _ _ _ _ _ _ _=>rfl,Hh X G a_aC,F_bl,F_bl.b3 fun _ _ _ _ _ _ _ _ _=>rfl,Hh X G a_bl,F_bk,F_bk.b3 fun _ _ _ _ _ _ _ _ _=>rfl,Hh X G a_bk,F_aN,F_aN.b3 fun _ _ _ _ _ _ _ _ _=>rfl,Hh X G a_aN,F_aV,F_aV.b3 fun _ _ _ _ _ _ _ _ _=>rfl,Hh X G a_aV,F_a1,F_a1.b4 fun _ _ _ _ _ _ _ _ _ _=>rfl,Hh X G a_a1,F_bo,F_bo.b3 fun _ _ _ _ _ _ _ _ _=>rfl,Hh X G a_bo,F_aX,F_aX.b2 fun _ _ _ _ _ _ _ _=>rfl,Hh X G a_aX,F_aM,F_aM.b2 fun _ _ _ _ _ _ _ _=>rfl,Hh X G a_aM,F_Ldo,F_Ldo.b2 fun _ _ _ _ _ _ _ _=>rfl,Hh X G a_Ldo,F_aw,F_aw.b1 fun _ _ _ _ _ _ _=>rfl,Hh X G a_aw,F_a8,F_a8.b2 fun _ _ _ _ _ _ _ _=>rfl,Hh X G a_a8,F_bn,F_bn.b2 fun _ _ _ _ _ _ _ _=>rfl,Hh X G a_bn,F_bx,F_bx.b1 fun _ _ _ _ _ _ _=>rfl,Hh X G a_bx,F_bd,F_bd.b1 fun _ _ _ _ _ _ _=>rfl,Hh X G a_bd,F_law,F_law.b1 fun _ _ _ _ _ _ _=>rfl,Hh X G a_law,Hh X G aX_a5,Hh X G aX_ah,Hh X G aX_ac,Hh X G aX_ag,Hh X G aX_bw,Hh X G aX_ae,Hh X G aX_ad,Hh X G aX_aj,Hh X G aX_ab,Hh X G aX_aa,Hh X G aX_af,x_ac,⟨xg_BadSize.1,xg_BadSize.2.1,xg_BadSize.2.2.1,ogs,otk,xg_BadSize.2.2.2.1,xg_BadSize.2.2.2.2⟩,fB bb bm bt sb_ac,jN nb nm nt sn_ac,kt_ac_ad,kt_ac_aj,kt_ac_ab,kt_ac_ae,kt_ac_ag,kt_ac_ac,kt_ac_aa,kt_ac_ah,kt_ac_af,kv_ac,x_ag,⟨xg_BadBit.1,xg_BadBit.2.1,xg_BadBit.2.2.1,ogs,otk,xg_BadBit.2.2.2.1,xg_BadBit.2.2.2.2⟩,fB bb bm bt sb_ag,jN nb nm nt sn_ag,kt_ag_ad,kt_ag_aj,kt_ag_ab,kt_ag_ae,kt_ag_ag,kt_ag_ac,kt_ag_aa,kt_ag_ah,kt_ag_af,kv_ag,x_bw,⟨xg_NoCell.1,xg_NoCell.2.1,xg_NoCell.2.2.1,ogs,otk,xg_NoCell.2.2.2.1,xg_NoCell.2.2.2.2⟩,fB bb bm bt sb_bw,x_ae,⟨xg_NoLine.1,xg_NoLine.2.1,xg_NoLine.2.2.1,ogs,otk,xg_NoLine.2.2.2.1,xg_NoLine.2.2.2.2⟩,fB bb bm bt sb_ae,jN nb nm nt sn_ae,kt_ae_ad,kt_ae_aj,kt_ae_ab,kt_ae_ae,kt_ae_ag,kt_ae_ac,kt_ae_aa,kt_ae_ah,kt_ae_af,kv_ae,x_ad,⟨xg_BadName.1,xg_BadName.2.1,xg_BadName.2.2.1,ogs,otk,xg_BadName.2.2.2.1,xg_BadName.2.2.2.2⟩,fB bb bm bt sb_ad,jN nb nm nt sn_ad,kt_ad_ad,kt_ad_aj,kt_ad_ab,kt_ad_ae,kt_ad_ag,kt_ad_ac,kt_ad_aa,kt_ad_ah,kt_ad_af,kv_ad,x_aj,⟨xg_Taken.1,xg_Taken.2.1,xg_Taken.2.2.1,ogs,otk,xg_Taken.2.2.2.1,xg_Taken.2.2.2.2⟩,fB bb bm bt sb_aj,jN nb nm nt sn_aj,kt_aj_ad,kt_aj_aj,kt_aj_ab,kt_aj_ae,kt_aj_ag,kt_aj_ac,kt_aj_aa,kt_aj_ah,kt_aj_af,kv_aj,x_ab,⟨xg_NoCloth.1,xg_NoCloth.2.1,xg_NoCloth.2.2.1,ogs,otk,xg_NoCloth.2.2.2.1,xg_NoCloth.2.2.2.2⟩,fB bb bm bt sb_ab,jN nb nm nt sn_ab,kt_ab_ad,kt_ab_aj,kt_ab_ab,kt_ab_ae,kt_ab_ag,kt_ab_ac,kt_ab_aa,kt_ab_ah,kt_ab_af,kv_ab,x_aa,⟨xg_NothingLeft.1,xg_NothingLeft.2.1,xg_NothingLeft.2.2.1,ogs,otk,xg_NothingLeft.2.2.2.1,xg_NothingLeft.2.2.2.2⟩,fB bb bm bt sb_aa,jN nb nm nt sn_aa,kt_aa_ad,kt_aa_aj,kt_aa_ab,kt_aa_ae,kt_aa_ag,kt_aa_ac,kt_aa_aa,kt_aa_ah,kt_aa_af,kv_aa,x_af,⟨xg_BadText.1,xg_BadText.2.1,xg_BadText.2.2.1,ogs,otk,xg_BadText.2.2.2.1,xg_BadText.2.2.2.2⟩,fB bb bm bt sb_af,kt_af_ad,kt_af_aj,kt_af_ab,kt_af_ae,kt_af_ag,kt_af_ac,kt_af_aa,kt_af_ah,kt_af_af,kv_af,⟨bg,br,ba⟩,nx_Unfit_at,⟨xg_Unfit.1,xg_Unfit.2.1,xg_Unfit.2.2.1,ogs,otk,xg_Unfit.2.2.2.1,xg_Unfit.2.2.2.2⟩,fB bb bm bt sb_ah,fB nb nm nt sc_ah,kt_ah_ad,kt_ah_aj,kt_ah_ab,kt_ah_ae,kt_ah_ag,kt_ah_ac,kt_ah_aa,kt_ah_ah,Hh X G v_LONGEST_SIDE,Hh X G v_LONGEST_NAME,Ic X G z_bp,Ic X G z_int,Ic X G z_bool,Ic X G z_all,Ic X G z_len,Ic X G z_bm,Ic X G z_list,Ic X G z_bz,Ic X G z_abs,Ic X G z_sum,Ic X G z_min,Ic X G z_max,Ic X G z_str,Ic X G z_zip,Ic X G z_bB,Ic X G z_bj,Ic X G z_dict⟩⟩
local macro_rules | `(tactic| walk_at "rda") => `(tactic| with_reducible first | refine rQ fun _ _=>?_ | refine E5 ?_ | refine dO ?_ | refine Fp ?_ | refine C4 ?_ | refine Fg ?_ | refine GB ?_ | refine Bd ?_ | refine C5 ?_ | refine Hg ?_ | refine Gy ?_ | refine GC ?_ | refine CV ?_ | refine Dj ?_ | refine E4 ?_ | refine Gz ?_ | refine Fn ?_ | refine fk ?_ | refine Gv ?_ | refine Hf ?_ | refine E9 ?_ | refine Fj ?_ | refine Fb ?_ | refine E8 ?_ | refine Fi ?_ | refine AW ?_ | refine CW ?_ | refine Fl ?_ | refine CZ ?_ | refine Gu ?_ | refine Dq ?_ | refine Dc ?_ | refine Di ?_ | refine A5 ?_ | refine Fh ?_ | refine iM ?_ | refine rP ?_ | refine C7 ?_ | refine Dn ?_ | refine Be ?_ | refine CY ?_ | refine Fd ?_ | refine Dg ?_ | refine De ?_ | refine Bb ?_)
local macro_rules | `(tactic| walk_at "rdb") => `(tactic| with_reducible first | refine Fq ?_ | refine AV ?_ | refine A8 ?_ | refine A7 ?_ | refine Gw ?_ | refine GA ?_ | refine yY ?_ | refine Dk ?_ | refine AZ ?_ | refine A0 ?_ | refine Gx ?_ | refine C3 ?_ | refine E7 ?_ | refine yU ?_ | refine AX ?_ | refine Fo ?_ | refine C0 ?_ | refine AY ?_ | refine u5 ?_ | refine E3 ?_ | refine Df ?_ | refine C8 ?_ | refine Ff ?_ | refine Dl ?_ | refine A3 ?_ | refine C9 ?_ | refine A6 ?_ | refine pe ?_ | refine G3 ?_ | refine F2 ?_ | refine F3 ?_)
local macro_rules | `(tactic| walk_at "rd1") => `(tactic| first | ((with_reducible refine' Fs (v:=?kv) ?ke ?kh); (case ke=>exact rfl)) | walk_at "rda" | walk_at "rdb" | ((with_reducible refine' E6 (r:=?kr) ?ke ?kh); (case ke=>assumption)) | (dsimp only))
local macro_rules | `(tactic| walk_at "") => `(tactic| repeat walk_at "rd1")
local macro_rules | `(tactic| walk_at "l") => `(tactic| ((intro vs H Q E h); (iterate 40 (try (obtain ⟨_, h⟩ := h))); (all_goals (subst_vars; rfl))))
local macro_rules | `(tactic| symm at $h:ident) => `(tactic| simp only [List.mem_cons,List.not_mem_nil,or_false] at $h:ident)
local macro_rules | `(tactic| left) => `(tactic| walk_at "")
local macro_rules | `(tactic| apply $e) => `(tactic| (walk_at ""; refine $e))
section
variable {P:HS} {w:ID} {K:A_} {mg:Str->Option η} {base:IC} {t:Ad}
noncomputable def cv (i:Int):Bool:=decide (0<=i)&&decide (i<2)
def sp_ba:Sp:=fun vs H Q _=>∃ i,vs=[.int i]/\Q (.bl true) H
theorem ok_ba (T:Txt K mg t):aR P w K mg base CX0 1 t.f_ba t.d_ba ["value"] sp_ba:=by
 refine T.F_ba.ok sc_ba (by walk_at "l") (fun _ _ _ s H vs Q E hr h=>?_)
 ·obtain ⟨i,rfl,k⟩:=h;refine ⟨_,(aj (az (jR (av (bU K rfl) rfl T.no_bp (by rfl) (aa (pv 0) (aa (dg (v:=.ty "int") rfl T.no_int (by rfl:IM "int"=some (.type "int")) rfl) ae))) (jS (EK (av (bU K rfl) rfl T.no_bp (by rfl) (aa (pv 0) (aa (dg (v:=.ty "bool") rfl T.no_bool (by rfl:IM "bool"=some (.type "bool")) rfl) ae)))))))),?_⟩;apply dS (.int i) EB ?_;apply dS (.int i) EA ?_;left;exact k
def sp_aH:Sp:=fun vs H Q _=>∃ i b,vs=[.int i,.int b]/\Q (.bl (decide (0<=i)&&decide (i<b))) H
theorem ok_aH (T:Txt K mg t):aR P w K mg base CX0 2 t.f_aH t.d_aH ["value","bound"] sp_aH:=by
 refine T.F_aH.ok sc_aH (by walk_at "l") (fun _ _ _ s H vs Q E hr h=>?_)
 ·obtain ⟨i,b,rfl,k⟩:=h;refine ⟨_,(aj (az (jR (aD (ok_ba T) (rmo hr) rfl T.mg_ba T.F_ba.kp T.b_ba .nil aV (aa (pv 0) ae)) (jS (nO DU nN ag (pv 0) (pv 1)))))),?_⟩;apply ⟨i,rfl,?_⟩;apply fT (fun h0=>?_) (fun h0=>?_)
  ·left;rw [h0] at k;exact k
  ·rw [Bool.not_eq_true] at h0;rw [h0] at k;exact k
def sp_bt:Sp:=fun vs H Q _=>∃ i,vs=[.int i]/\Q (.bl (cv i)) H
theorem ok_bt (T:Txt K mg t):aR P w K mg base CX0 3 t.f_bt t.d_bt ["value"] sp_bt:=by
 refine T.F_bt.ok sc_bt (by walk_at "l") (fun _ _ _ s H vs Q E hr h=>?_)
 ·obtain ⟨i,rfl,k⟩:=h;refine ⟨_,(aj (az (aD (ok_aH T) (rmo hr) rfl T.mg_aH T.F_aH.kp T.b_aH .nil aV (aa (pv 0) (aa ag ae))))),?_⟩;left;exact ⟨i,2,rfl,k⟩
noncomputable def fC (n:Int):Bool:=decide (0<n)&&decide (n<41)
def sp_bi:Sp:=fun vs H Q _=>∃ i,vs=[.int i]/\Q (.bl (fC i)) H
theorem ok_bi (T:Txt K mg t):aR P w K mg base CX0 3 t.f_bi t.d_bi ["count"] sp_bi:=by
  refine T.F_bi.ok sc_bi (fun vs H Q E h=>?_) (fun cdv A outer s H vs Q E hr h=>?_)
  · obtain ⟨i,rfl,_⟩:=h; rfl
  · obtain ⟨i,rfl,k⟩:=h
    refine ⟨_,(aj (az (jR (aD (ok_aH T) (rmo hr) rfl T.mg_aH T.F_aH.kp T.b_aH .nil aV (aa (pv 0) (aa (ay bf (dv (v:=.int 40) rfl T.mg_LONGEST_SIDE ⟨_,rfl⟩) ag) ae))) (jS (iI kK (pv 0) ag))))),?_⟩;apply ⟨i,_,rfl,?_⟩;apply fT (fun h0=>?_) (fun h0=>?_)
    · left
      have e:fC i=decide (0<i):=by
        rw [Hy,decide_eq_true_eq,decide_eq_true_eq] at h0;unfold fC;rw [aX (by omega:i<41),Bool.and_true]
      rw [e] at k;exact k
    · have e:fC i=false:=by
        rw [Hy,decide_eq_true_eq,decide_eq_true_eq] at h0;unfold fC;by_cases hi:0<i
        · rw [bI (by omega:¬ i<41),LA]
        · rw [bI hi,Bool.false_and]
      rw [e] at k;exact k
theorem vn {n:Nat}:fC ((n:Int)+1)=decide (n<=39):=by
 unfold fC;rw [aX (by omega:(0:Int)<(n:Int)+1),LV];exact decide_eq_decide.mpr (by omega)
def sp_bf:Sp:=fun vs H Q _=>∃ (p:ς) (ns:List Int),vs=[.ref p]/\H p=some (.lst (ns.map V.int))/\ns.length<=1000/\∀ H',ai H H'->Q (.bl (ns.all cv)) H'
theorem ok_bf (T:Txt K mg t):aR P w K mg base CX0 4 t.f_bf t.d_bf ["values"] sp_bf:=by
 refine T.F_bf.ok sc_bf (by walk_at "l") (fun _ _ _ s H vs Q E hr h=>?_)
 ·obtain ⟨p,ns,rfl,hp,hl,k⟩:=h;refine ⟨_,(aj (az (av (gL K rfl rfl) rfl T.no_all (by rfl) (aa (cT (N:=["value"]) (cap:=[none]) rfl ⟨rfl,rfl,rfl,rfl,rfl,rfl⟩ (dh (pv 0)) (fun _ _ _=>(aY (i:=0) (show (["value"]:List Str).Nodup by decide +kernel) rfl (IQ rfl))) (fun _ _ _=>cD) (fun _ _ _=>(aD (ok_bt T) (rmo hr) rfl T.mg_bt T.F_bt.kp T.b_bt .nil aV (aa (pv 0) ae)))) ae)))),?_⟩;apply ⟨⟨_,SqL.of hp⟩,fun l hn=>?_⟩;refine gN (fun v=>match v with | .int i=>.bl (cv i) | _=>.non) (SqL.of hp) (by rw [ξ]; exact hl) hn (fun x o H' Q' hx s1 q=>?_) (fun H' s1 e=>?_)
  ·obtain ⟨i,_,rfl⟩:=Hv.mp hx;left;exact ⟨i,rfl,q H' (ai.refl _)⟩
  ·left;have e':H' l=some (.lst ((ns.map cv).map V.bl)):=by rw [e,IV,IV]; rfl
   refine iL e' ?_;rw [K1];exact k H' s1
noncomputable def bfl (a b:ς) (w h:Int):List (Str×V):=cU "row_bits" (.ref b) (cU "col_bits" (.ref a) (cU "rows_count" (.int h) (cU "columns_count" (.int w) [])))
noncomputable def cfl (s:Int) (a b:ς) (w h:Int):List (Str×V):=cU "first_colour" (.int s) (bfl a b w h)
abbrev NoF (m:Str):Prop:=((¬ m="first_colour")/\¬ m="col_bits")/\(¬ m="row_bits")/\(¬ m="columns_count")/\¬ m="rows_count"
theorem FO {w h:Int} (a b:ς):(bfl a b w h).lookup ("columns_count":Str)=some (.int w):=by
 unfold bfl; rw [aC,if_neg (by decide +kernel),aC,if_neg (by decide +kernel),aC,if_neg (by decide +kernel),aC,if_pos rfl]
theorem FL {w h:Int} (a b:ς):(bfl a b w h).lookup ("rows_count":Str)=some (.int h):=by
 unfold bfl; rw [aC,if_neg (by decide +kernel),aC,if_neg (by decide +kernel),aC,if_pos rfl]
theorem FK {w h:Int} (a b:ς):(bfl a b w h).lookup ("col_bits":Str)=some (.ref a):=by
 unfold bfl; rw [aC,if_neg (by decide +kernel),aC,if_pos rfl]
theorem FN {w h:Int} (a b:ς):(bfl a b w h).lookup ("row_bits":Str)=some (.ref b):=by
 unfold bfl; rw [aC,if_pos rfl]
theorem Ej {w h:Int} (a b:ς) {m:Str} (n:NoF m):(bfl a b w h).lookup m=none:=by
 obtain ⟨⟨n1,n2⟩,n3,n4,n5⟩:=n;unfold bfl; rw [aC,if_neg n3,aC,if_neg n2,aC,if_neg n5,aC,if_neg n4]; rfl
theorem DM {w h:Int} (s:Int) (a b:ς):(cfl s a b w h).lookup ("first_colour":Str)=some (.int s):=by
 unfold cfl; rw [aC,if_pos rfl]
theorem FR {w h:Int} (s:Int) (a b:ς):(cfl s a b w h).lookup ("columns_count":Str)=some (.int w):=by
 unfold cfl; rw [aC,if_neg (by decide +kernel),FO]
theorem FQ {w h:Int} (s:Int) (a b:ς):(cfl s a b w h).lookup ("rows_count":Str)=some (.int h):=by
 unfold cfl; rw [aC,if_neg (by decide +kernel),FL]
theorem zM {w h:Int} (s:Int) (a b:ς):(cfl s a b w h).lookup ("col_bits":Str)=some (.ref a):=by
 unfold cfl; rw [aC,if_neg (by decide +kernel),FK]
theorem zN {w h:Int} (s:Int) (a b:ς):(cfl s a b w h).lookup ("row_bits":Str)=some (.ref b):=by
 unfold cfl; rw [aC,if_neg (by decide +kernel),FN]
theorem dj {w h:Int} (s:Int) (a b:ς) {m:Str} (n:NoF m):(cfl s a b w h).lookup m=none:=by
 unfold cfl; rw [aC,if_neg n.1.1,Ej _ _ n]
structure wZ (C:ς) (H:Hp) (p:ς) (w h:Int) (cs rs:List Int):Prop where
 ob:∃ dx a b,H p=some (.ins C dx (bfl a b w h))/\H a=some (.tup (cs.map V.int))/\H b=some (.tup (rs.map V.int))
structure aO (C:ς) (H:Hp) (p:ς) (s:Int) (cs rs:List Int):Prop where
 ob:∃ dx a b,H p=some (.ins C dx (cfl s a b ((cs.length:Int)+1) ((rs.length:Int)+1)))/\H a=some (.tup (cs.map V.int))/\H b=some (.tup (rs.map V.int))
theorem aO.mono {C:ς} {H H':Hp} {p:ς} {s:Int} {cs rs:List Int} (e:ai H H') (c:aO C H p s cs rs):aO C H' p s cs rs:=by
 obtain ⟨dx,a,b,h1,h2,h3⟩:=c.ob;exact ⟨dx,a,b,e _ _ h1,e _ _ h2,e _ _ h3⟩
def bA (l:List Int):Prop:=l.length<=39/\∀ z∈l,z=0\/z=1
theorem bA.all {l:List Int} (h:bA l):l.all cv=true:=by
 rw [IW];intro z hz;rcases h.2 z hz with rfl | rfl<;>rfl
def lU (H:Hp) (p:ς) (H':Hp):Prop:=∀ b o,H b=some o->b≠p->H' b=some o
noncomputable def eC (s:Int) (cs rs:List Int):Bool:=cv s&&(cs.all cv&&rs.all cv)
theorem bA.ok {s:Int} {cs rs:List Int} (hs:s=0\/s=1) (bc:bA cs) (br:bA rs):eC s cs rs=true:=by
 unfold eC;rw [bc.all,br.all];rcases hs with rfl | rfl<;>rfl
def pN (C BB:ς):Sp:=fun vs H Q E=>∃ (p dx c r:ς) (w h:Int) (cs rs:List Int),vs=[.ref p,.int w,.int h,.ref c,.ref r]/\H p=some (.ins C dx [])/\H c=some (.lst (cs.map V.int))/\H r=some (.lst (rs.map V.int)) /\
 cs.length<=1000/\rs.length<=1000/\(((cs.all cv&&rs.all cv)=false/\∀ H',ai H H'->E (.ref BB) none H') \/
  ((cs.all cv&&rs.all cv)=true/\∀ H',lU H p H'->wZ C H' p w h cs rs->Q .non H'))
theorem okx_aY (T:Txt K mg t):aR P w K mg base (CX2 P w) 5 t.f_aY t.d_aY ["self","wide","tall","cols","rows"] (pN t.a_ai t.a_ag):=by
 refine T.F_aY.ok2 sc_aY (by walk_at "l") (fun _ _ _ s H vs Q E hr h=>?_)
 ·obtain ⟨p,dx,c,r,wd,ht,cs,rs,rfl,hp,hc,hr',lc,lr,k⟩:=h;refine aF (aK (dR (PW.pt (fJ (cm (aD (ok_bf T).up2 (rmo hr) rfl T.mg_bf T.F_bf.kp T.b_bf .nil kL (aa (pv 3) ae))) (fi (cm (aD (ok_bf T).up2 (rmo hr) rfl T.mg_bf T.F_bf.kp T.b_bf .nil kL (aa (pv 4) ae))))))) (aj (b7 T.mg_ag T.x_ag BF rfl rfl (fun _ _ _ _ _ _ _ _ I m q=>kZ I m q) (aa ao ae))) aB) fun _ _=>aF (eV (pv 0) (pv 1) rfl) fun _ _=>aF (eV (pv 0) (pv 2) rfl) fun _ _=>aF (eV (pv 0) (aW (qb K rfl) rfl T.no_bm (by rfl) (aa (pv 3) ae)) rfl) fun _ _=>cH (eV (pv 0) (aW (qb K rfl) rfl T.no_bm (by rfl) (aa (pv 4) ae)) rfl) fun _ _=>?_;apply ⟨c,cs,rfl,hc,lc,fun H1 s1=>?_⟩
  cases b2:cs.all cv with
  | false =>
   apply ⟨by show 1<=BC; decide,?_⟩;rcases k with ⟨_,e⟩ | ⟨y,_⟩
   ·exact e _ s1
   ·rw [b2] at y; cases y
  | true =>
   apply ⟨r,rs,rfl,s1 _ _ hr',lr,fun H2 s2=>?_⟩;have s12:=s1.trans s2
   cases b3:rs.all cv with
   | false =>
    apply ⟨by show 1<=BC; decide,?_⟩;rcases k with ⟨_,e⟩ | ⟨y,_⟩
    ·exact e _ s12
    ·rw [b2,b3] at y; cases y
   | true =>
    left
    have k:∀ H',lU H p H'->wZ t.a_ai H' p wd ht cs rs->Q .non H':=by
     rcases k with ⟨y,_⟩ | ⟨_,z⟩
     ·rw [b2,b3] at y; cases y
     ·exact z
    have npc:c≠p:=iD hc hp (by intro z; cases z);have npr:r≠p:=iD hr' hp (by intro z; cases z);refine c7 (s12 _ _ hp) T.cl_ai T.na_columns_count (by show 0<1000; decide) ?_;apply c7 af T.cl_ai T.na_rows_count (HX (bC _ _ _) (by show 1<1000; decide)) ?_;rw [mP];apply qx (by rw [aE npc]; exact s12 _ _ hc) fun a ha=>?_;have pa:p≠a:=by intro z; subst z; rw [af] at ha; cases ha
    apply c7 (by rw [aE pa,af]) T.cl_ai T.na_col_bits (HX (bC _ _ _) (HX (IS (bC _ _ _)) (by show 2<1000; decide))) ?_;left;have ra:r≠a:=by intro z; subst z; rw [aE npr,s12 _ _ hr'] at ha; cases ha
    refine qx (by rw [aE npr,aE ra,aE npr]; exact s12 _ _ hr') fun b hb=>?_;have pb:p≠b:=by intro z; subst z; rw [af] at hb; cases hb
    have ab:a≠b:=by intro z; subst z; rw [aE pa.symm,af] at hb; cases hb
    apply c7 (by rw [aE pb,af]) T.cl_ai T.na_row_bits (HX (bC _ _ _) (HX (IS (bC _ _ _)) (HX (IS (IS (bC _ _ _))) (by show 3<1000; decide)))) ?_;apply k _ (fun x o e hx=>?_) ⟨⟨dx,a,b,af,?_,?_⟩⟩
    ·have e2:=s12 _ _ e;have xa:x≠a:=by intro z; subst z; rw [aE hx,e2] at ha; cases ha
     have xb:x≠b:=by intro z; subst z; rw [aE hx,aE xa,aE hx,e2] at hb; cases hb
     rw [aE hx,aE xb,aE hx,aE xa,aE hx];exact e2
    ·rw [aE pa.symm,aE ab,aE pa.symm,af]
    ·rw [aE pb.symm,af]
def pT (C BS BB:ς):Sp:=fun vs H Q E=>∃ (p dx c r:ς) (s:Int) (cs rs:List Int),vs=[.ref p,.int s,.ref c,.ref r]/\H p=some (.ins C dx [])/\H c=some (.lst (cs.map V.int))/\H r=some (.lst (rs.map V.int)) /\
 cs.length<=4000/\rs.length<=4000/\((¬ (cs.length<=39/\rs.length<=39)/\E (.ref BS) none H)\/((cs.length<=39/\rs.length<=39)/\eC s cs rs=false/\∀ H',lU H p H'->E (.ref BB) none H') \/
  ((cs.length<=39/\rs.length<=39)/\eC s cs rs=true/\∀ H',lU H p H'->aO C H' p s cs rs->Q .non H'))
theorem okx_aq (T:Txt K mg t):aR P w K mg base (CX2 P w) 6 t.f_aq t.d_aq ["self","shade","cols","rows"] (pT t.a_ai t.a_ac t.a_ag):=by
 refine T.F_aq.ok2 sc_aq (by walk_at "l") (fun _ _ _ s H vs Q E hr h=>?_)
 ·obtain ⟨p,dx,c,r,s,cs,rs,rfl,hp,hc,hr',lc,lr,k⟩:=h;refine aF (aK (dR (PW.pt (fJ (cm (aD (ok_bi T).up2 (rmo hr) rfl T.mg_bi T.F_bi.kp T.b_bi .nil kL (aa (ay bf (av (bJ K rfl) rfl T.no_len (by rfl) (aa (pv 2) ae)) ag) ae))) (fi (cm (aD (ok_bi T).up2 (rmo hr) rfl T.mg_bi T.F_bi.kp T.b_bi .nil kL (aa (ay bf (av (bJ K rfl) rfl T.no_len (by rfl) (aa (pv 3) ae)) ag) ae))))))) (aj (b7 T.mg_ac T.x_ac BF rfl rfl (fun _ _ _ _ _ _ _ _ I m q=>kZ I m q) (aa ao ae))) aB) fun _ _=>aF (aK (dR (cm (aD (ok_bt T).up2 (rmo hr) rfl T.mg_bt T.F_bt.kp T.b_bt .nil kL (aa (pv 1) ae)))) (aj (b7 T.mg_ag T.x_ag BF rfl rfl (fun _ _ _ _ _ _ _ _ I m q=>kZ I m q) (aa ao ae))) aB) fun _ _=>aF (aZ (AD rfl T.mg_bA T.cf_aY (okx_aY T) (rmo hr) T.b_aY .nil kL (aa (pv 0) (aa (ay bf (av (bJ K rfl) rfl T.no_len (by rfl) (aa (pv 2) ae)) ag) (aa (ay bf (av (bJ K rfl) rfl T.no_len (by rfl) (aa (pv 3) ae)) ag) (aa (pv 2) (aa (pv 3) ae))))))) fun _ _=>cH (eV (pv 0) (pv 1) rfl) fun _ _=>?_;apply bM hc ?_;apply ⟨_,rfl,?_⟩;rw [ξ,vn];have sz:(¬ (cs.length<=39/\rs.length<=39)->E (.ref t.a_ac) none H):=fun n=>by
   rcases k with ⟨_,e⟩ | ⟨z,_⟩ | ⟨z,_⟩
   ·exact e
   ·exact absurd z n
   ·exact absurd z n
  by_cases c1:cs.length<=39
  ·rw [aX c1];apply bM hr' ?_;apply ⟨_,rfl,?_⟩;rw [ξ,vn];by_cases c2:rs.length<=39
   ·rw [aX c2];left
    have k:(eC s cs rs=false/\∀ H',lU H p H'->E (.ref t.a_ag) none H')\/(eC s cs rs=true/\∀ H',lU H p H'->aO t.a_ai H' p s cs rs->Q .non H'):=by
     rcases k with ⟨z,_⟩ | ⟨_,z⟩ | ⟨_,z⟩
     ·exact absurd ⟨c1,c2⟩ z
     ·exact .inl z
     ·exact .inr z
    have bad:∀ H',eC s cs rs=false->ai H H'->E (.ref t.a_ag) none H':=fun H' z sm=>by
     rcases k with ⟨_,e⟩ | ⟨y,_⟩
     ·exact e H' fun b o eb _=>sm b o eb
     ·rw [z] at y; cases y
    refine ⟨s,rfl,?_⟩
    cases b1:cv s with
    | false =>
     apply ⟨by show 1<=BC; decide,?_⟩;exact bad _ (by unfold eC; rw [b1]; rfl) (ai.refl _)
    | true =>
     apply bM hc ?_;apply bM hr' ?_;left;rw [ξ,ξ];refine ⟨p,dx,c,r,_,_,cs,rs,rfl,hp,hc,hr',BA c1 (by decide),BA c2 (by decide),?_⟩
     cases b2:(cs.all cv&&rs.all cv) with
     | false=>exact .inl ⟨rfl,fun H' s1=>bad _ (by unfold eC; rw [b2,LA]) s1⟩
     | true =>
      refine .inr ⟨rfl,fun H' kp ⟨dx',a,b,h1,h2,h3⟩=>?_⟩
      have k:∀ H',lU H p H'->aO t.a_ai H' p s cs rs->Q .non H':=by
       rcases k with ⟨y,_⟩ | ⟨_,z⟩
       ·unfold eC at y; rw [b1,b2] at y; cases y
       ·exact z
      apply c7 h1 T.cl_ai T.na_first_colour (by unfold bfl; exact HX (bC _ _ _) (HX (IS (bC _ _ _)) (HX (IS (IS (bC _ _ _))) (HX (IS (IS (IS (bC _ _ _)))) (by show 4<1000; decide))))) ?_;left;have pa:a≠p:=iD h2 h1 (by intro z; cases z);have pb:b≠p:=iD h3 h1 (by intro z; cases z);refine k _ (fun x o e hx=>?_) ⟨⟨dx',a,b,af,?_,?_⟩⟩
      ·rw [aE hx]; exact kp x o e hx
      ·rw [aE pa]; exact h2
      ·rw [aE pb]; exact h3
   ·rw [bI c2];left;exact ⟨by show 1<=BC; decide,sz fun z=>c2 z.2⟩
  ·rw [bI c1];left;exact ⟨by show 1<=BC; decide,sz fun z=>c1 z.1⟩
def sp_aq (C:ς):Sp:=fun vs H Q _=>∃ (p dx c r:ς) (s:Int) (cs rs:List Int),vs=[.ref p,.int s,.ref c,.ref r]/\H p=some (.ins C dx [])/\H c=some (.lst (cs.map V.int))/\H r=some (.lst (rs.map V.int)) /\
 (s=0\/s=1)/\bA cs/\bA rs/\∀ H',(∀ b o,H b=some o->b≠p->H' b=some o)->aO C H' p s cs rs->Q .non H'
theorem ok_aq (T:Txt K mg t):aR P w K mg base CX0 6 t.f_aq t.d_aq ["self","shade","cols","rows"] (sp_aq t.a_ai) :=
 (okx_aq T).one.down fun vs H Q E hh=>by
  obtain ⟨p,dx,c,r,s,cs,rs,e,hp,hc,hr,hs,bc,br,k⟩:=hh;exact ⟨p,dx,c,r,s,cs,rs,e,hp,hc,hr,by have:=bc.1; omega,by have:=br.1; omega,.inr (.inr ⟨⟨bc.1,br.1⟩,bA.ok hs bc br,k⟩)⟩
def sp_ax (C:ς):Sp:=fun vs H Q _=>∃ (p:ς) (s:Int) (cs rs:List Int),vs=[.ref p]/\aO C H p s cs rs/\Q (.int ((cs.length:Int)+1)) H
theorem ok_ax (T:Txt K mg t):aR P w K mg base CX0 1 t.f_ax t.d_ax ["self"] (sp_ax t.a_ai):=by
 refine T.F_ax.ok sc_ax (by walk_at "l") (fun _ _ _ s H vs Q E hr h=>?_)
 ·obtain ⟨p,s,cs,rs,rfl,⟨dx,a,b,h1,h2,h3⟩,k⟩:=h;refine ⟨_,(aj (az (cq K rfl (pv 0) rfl))),?_⟩;apply cu h1 T.cl_ai T.na_columns_count (FR _ _ _) ?_;left;exact k
def sp_aF (C:ς):Sp:=fun vs H Q _=>∃ (p:ς) (s:Int) (cs rs:List Int),vs=[.ref p]/\aO C H p s cs rs/\Q (.int ((rs.length:Int)+1)) H
theorem ok_aF (T:Txt K mg t):aR P w K mg base CX0 1 t.f_aF t.d_aF ["self"] (sp_aF t.a_ai):=by
 refine T.F_aF.ok sc_aF (by walk_at "l") (fun _ _ _ s H vs Q E hr h=>?_)
 ·obtain ⟨p,s,cs,rs,rfl,⟨dx,a,b,h1,h2,h3⟩,k⟩:=h;refine ⟨_,(aj (az (cq K rfl (pv 0) rfl))),?_⟩;apply cu h1 T.cl_ai T.na_rows_count (FQ _ _ _) ?_;left;exact k
def fw (w:Str) (cs rs bs:List Int):Prop:=(w="col"/\bs=cs)\/(w="row"/\bs=rs)
theorem u3:¬ (("row":Str)="col"):=by decide +kernel
def kj (C NL:ς):Sp:=fun vs H Q E=>∃ (p:ς) (w:Str) (s:Int) (cs rs:List Int),vs=[.ref p,.str w]/\aO C H p s cs rs /\
 ((∃ bs,fw w cs rs bs/\∀ a,H a=some (.tup (bs.map V.int))->Q (.ref a) H)\/(¬ w="col"/\¬ w="row"/\E (.ref NL) none H))
theorem okx_am (T:Txt K mg t):aR P w K mg base (CX1 P w) 1 t.f_am t.d_am ["self","way"] (kj t.a_ai t.a_ae):=by
 refine T.F_am.ok1 sc_am (by walk_at "l") (fun _ _ _ s H vs Q E hr h=>?_)
 ·obtain ⟨p,w,s,cs,rs,rfl,⟨dx,a,b,h1,h2,h3⟩,hw⟩:=h;refine aF (aK (aN bD (pv 1) ao) (aj (az (cq K rfl (pv 0) rfl))) aB) fun _ _=>aF (aK (aN bD (pv 1) ao) (aj (az (cq K rfl (pv 0) rfl))) aB) fun _ _=>cH (b7 T.mg_ae T.x_ae BF rfl rfl (fun _ _ _ _ _ _ _ _ I m q=>gu I m q) (aa ao ae)) fun _ _=>?_;left;rcases hw with ⟨bs,⟨rfl,rfl⟩ | ⟨rfl,rfl⟩,k⟩ | ⟨n1,n2,k⟩
  ·rw [aX (rfl:("col":Str)="col")];apply cu h1 T.cl_ai T.na_col_bits (zM _ _ _) ?_;left;exact k a h2
  ·rw [bI u3];left;rw [aX (rfl:("row":Str)="row")];apply cu h1 T.cl_ai T.na_row_bits (zN _ _ _) ?_;left;exact k b h3
  ·rw [bI n1];left;rw [bI n2];left;exact ⟨by show 1<=BC; decide,k⟩
def tW (w:Str) (k:Int) (cs rs:List Int):Prop:=(¬ w="col"/\¬ w="row")\/∃ bs,fw w cs rs bs/\¬ (0<=k/\k<bs.length)
def tJ (C NL:ς):Sp:=fun vs H Q E=>∃ (p:ς) (w:Str) (k s:Int) (cs rs:List Int),vs=[.ref p,.str w,.int k]/\aO C H p s cs rs /\
 ((∃ bs,fw w cs rs bs/\0<=k/\k<bs.length/\Q (.int (bs.getD k.toNat 0)) H)\/(tW w k cs rs/\E (.ref NL) none H))
theorem okx_aK (T:Txt K mg t):aR P w K mg base (CX1 P w) 3 t.f_aK t.d_aK ["self","way","k"] (tJ t.a_ai t.a_ae):=by
 refine T.F_aK.ok1 sc_aK (by walk_at "l") (fun _ _ _ s H vs Q E hr h=>?_)
 ·obtain ⟨p,w,k,s,cs,rs,rfl,hc,h⟩:=h;obtain ⟨dx,a,b,e1,e2,e3⟩:=hc.ob;refine aF (aI 3 sc_aK.nd (bH (pv 0) T.cl_ai T.m_am (okx_am T) (rmo hr) T.b_am .nil aP (aa (pv 1) ae))) fun _ _=>aF (aK (dR (cm (aD (ok_aH T).up (rmo hr) rfl T.mg_aH T.F_aH.kp T.b_aH .nil aP (aa (pv 2) (aa (av (bJ K rfl) rfl T.no_len (by rfl) (aa (pv 3) ae)) ae))))) (aj (b7 T.mg_ae T.x_ae BF rfl rfl (fun _ _ _ _ _ _ _ _ I m q=>gu I m q) (aa ao ae))) aB) fun _ _=>cH (az (aw (au K rfl) (pv 3) (pv 2))) fun _ _=>?_;apply ax e1 (dj _ _ _ (by decide +kernel)) ?_;left;rcases h with ⟨bs,hw,h0,h1,q⟩ | ⟨⟨n1,n2⟩ | ⟨bs,hw,hn⟩,q⟩
  ·refine ⟨p,w,s,cs,rs,rfl,hc,.inl ⟨bs,hw,fun z hz=>?_⟩⟩;apply mK hz ?_;apply ⟨k,_,rfl,?_⟩;rw [ξ,aX h0,aX h1];apply aq (SqT.of hz) (cN h0 h1) ?_;exact q
  ·exact ⟨p,w,s,cs,rs,rfl,hc,.inr ⟨n1,n2,q⟩⟩
  ·refine ⟨p,w,s,cs,rs,rfl,hc,.inl ⟨bs,hw,fun z hz=>?_⟩⟩;apply mK hz ?_;apply ⟨k,_,rfl,?_⟩;rw [ξ]
   have e:(decide (0<=k)&&decide (k<(bs.length:Int)))=false:=by
    rw [Ms];intro z;rw [Hy,decide_eq_true_eq,decide_eq_true_eq] at z;exact hn z
   rw [e];left;exact ⟨by show 1<=BC; decide,q⟩
theorem zF {l:List Int} (h:∀ z∈l,z=0\/z=1):0<=l.sum/\l.sum<=l.length:=by
 induction l with
 | nil=>exact ⟨Int.le_refl 0,Int.le_refl 0⟩
 | cons z r ih =>
  have:=ih fun y hy=>h y (Au _ hy)
  rw [List.sum_cons,HM];rcases h z Θ with rfl | rfl<;>omega
theorem jK {l:List Int} (h:∀ z∈l,z=0\/z=1) (hl:l.length<=1000):gA l:=fun k hk=>by
 refine ⟨?_,fun n hn=>?_⟩
 ·have:=zF (l:=l.take k) fun z hz=>h z (IP hz)
  rw [Hw] at this;unfold InLong;omega
 ·unfold InLong;rcases h n hn with rfl | rfl<;>decide
theorem dW {zs:List Int} {x:Int} (h:0<=x):cg (zs.map V.int) none (some x)=(zs.take x.toNat).map V.int:=by
 obtain ⟨k,rfl⟩:∃ k:Nat,x=(k:Int):=⟨x.toNat,by omega⟩
 unfold cg;rw [HT.kQ,HT.mL,KY,Mv,G_,<- MR]
 congr 1
 rw [ξ];rcases Mx k zs.length with h | h
 ·rw [Kx h]
 ·rw [Ll h,Hr (Ω _),Hr h]
def Cs (x y:Int) (cs rs:List Int):Prop:=(0<=x/\x<(cs.length:Int)+1)/\0<=y/\y<(rs.length:Int)+1
def tK (C NC:ς):Sp:=fun vs H Q E=>∃ (p:ς) (x y s:Int) (cs rs:List Int),vs=[.ref p,.int x,.int y]/\aO C H p s cs rs/\((Cs x y cs rs/\Q .non H)\/(¬ Cs x y cs rs/\E (.ref NC) none H))
theorem mv {x b:Int} (h:0<=x/\x<b):(decide (0<=x)&&decide (x<b))=true:=by rw [aX h.1,aX h.2]; rfl
theorem qK {x b:Int} (h:¬ (0<=x/\x<b)):(decide (0<=x)&&decide (x<b))=false:=by
 rw [Ms];intro z;rw [Hy,decide_eq_true_eq,decide_eq_true_eq] at z;exact h z
theorem okx_bb (T:Txt K mg t):aR P w K mg base (CX1 P w) 3 t.f_bb t.d_bb ["board","x","y"] (tK t.a_ai t.a_bw):=by
 refine T.F_bb.ok1 sc_bb (by walk_at "l") (fun _ _ _ s H vs Q E hr h=>?_)
 ·obtain ⟨p,x,y,s,cs,rs,rfl,hc,h⟩:=h;obtain ⟨dx,a,b,e1,e2,e3⟩:=hc.ob;have nl:∀ {w h:Int} {m:Str},NoF m->(cfl s a b w h).lookup m=none:=fun x=>dj _ _ _ x;refine ⟨_,(aj (aK (PW.pt (fK (dR (cm (aD (ok_aH T).up (rmo hr) rfl T.mg_aH T.F_aH.kp T.b_aH .nil aP (aa (pv 1) (aa (aT (pv 0) T.cl_ai T.m_ax (ok_ax T).up (rmo hr) T.b_ax .nil aP) ae))))) (eF (dR (cm (aD (ok_aH T).up (rmo hr) rfl T.mg_aH T.F_aH.kp T.b_aH .nil aP (aa (pv 2) (aa (aT (pv 0) T.cl_ai T.m_aF (ok_aF T).up (rmo hr) T.b_aF .nil aP) ae)))))))) (aj (b7 T.mg_bw T.x_bw BF rfl rfl (fun _ _ _ _ _ _ _ _ I m q=>gu I m q) (aa ao ae))) aB)),?_⟩;apply ax e1 (nl (by decide +kernel)) ?_;apply ⟨p,s,cs,rs,rfl,hc,?_⟩;apply ⟨x,_,rfl,?_⟩;by_cases hx:0<=x/\x<(cs.length:Int)+1
  ·rw [mv hx];apply ax e1 (nl (by decide +kernel)) ?_;apply ⟨p,s,cs,rs,rfl,hc,?_⟩;apply ⟨y,_,rfl,?_⟩;by_cases hy:0<=y/\y<(rs.length:Int)+1
   ·rw [mv hy];left;rcases h with ⟨_,q⟩ | ⟨n,_⟩
    ·exact q
    ·exact absurd ⟨hx,hy⟩ n
   ·rw [qK hy];left;rcases h with ⟨n,_⟩ | ⟨_,q⟩
    ·exact absurd n.2 hy
    ·exact ⟨by show 1<=BC; decide,q⟩
  ·rw [qK hx];left;rcases h with ⟨n,_⟩ | ⟨_,q⟩
   ·exact absurd n.1 hx
   ·exact ⟨by show 1<=BC; decide,q⟩
noncomputable def fS (s:Int) (cs rs:List Int) (x y:Int):Int:=(s+((cs.take x.toNat).sum+(rs.take y.toNat).sum+x*y))%2
def mq (C NC:ς):Sp:=fun vs H Q E=>∃ (p:ς) (x y s:Int) (cs rs:List Int),vs=[.ref p,.int x,.int y]/\aO C H p s cs rs/\bA cs/\bA rs /\
 ((Cs x y cs rs/\∀ H',ai H H'->Q (.int (fS s cs rs x y)) H')\/(¬ Cs x y cs rs/\E (.ref NC) none H))
theorem okx_at (T:Txt K mg t):aR P w K mg base (CX1 P w) 4 t.f_at t.d_at ["self","x","y"] (mq t.a_ai t.a_bw):=by
 refine T.F_at.ok1 sc_at (by walk_at "l") (fun _ _ _ s H vs Q E hr h=>?_)
 ·obtain ⟨p,x,y,s,cs,rs,rfl,hc,bc,br,h⟩:=h;obtain ⟨dx,a,b,e1,e2,e3⟩:=hc.ob;refine aF (aZ (aD (okx_bb T) (rmo hr) rfl T.mg_bb T.F_bb.kp T.b_bb .nil aP (aa (pv 0) (aa (pv 1) (aa (pv 2) ae))))) fun _ _=>aF (aI 3 sc_at.nd (ay bf (ay bf (av (mx K rfl rfl) rfl T.no_sum (by rfl) (aa (aU (xS K rfl) (cq K rfl (pv 0) rfl) bu (bz (pv 1))) ae)) (av (mx K rfl rfl) rfl T.no_sum (by rfl) (aa (aU (xS K rfl) (cq K rfl (pv 0) rfl) bu (bz (pv 2))) ae))) (ay jQ (pv 1) (pv 2)))) fun _ _=>cH (az (ay bB (ay bf (cq K rfl (pv 0) rfl) (pv 3)) ag)) fun _ _=>?_;left;rcases h with ⟨i,k⟩ | ⟨n,q⟩
  ·obtain ⟨⟨x0,x1⟩,y0,y1⟩:=id i;refine ⟨p,x,y,s,cs,rs,rfl,hc,.inl ⟨i,?_⟩⟩;apply cu e1 T.cl_ai T.na_col_bits (zM _ _ _) ?_;apply Bc e2 fun H1 u s1 hu=>?_;rw [dW x0] at hu;apply xK hu (jK (fun z hz=>bc.2 z (IP hz)) (by rw [Hw]; have:=bc.1; omega)) ?_;apply cu (s1 _ _ e1) T.cl_ai T.na_row_bits (zN _ _ _) ?_;apply Bc (s1 _ _ e3) fun H2 v s2 hv=>?_;rw [dW y0] at hv;apply xK hv (jK (fun z hz=>br.2 z (IP hz)) (by rw [Hw]; have:=br.1; omega)) ?_;apply bV (.inl ⟨by omega,by have:=bc.1; omega⟩) ?_;apply cu (s2 _ _ (s1 _ _ e1)) T.cl_ai T.na_first_colour (DM _ _ _) ?_;apply bV (by decide) ?_;exact k H2 (s1.trans s2)
  ·exact ⟨p,x,y,s,cs,rs,rfl,hc,.inr ⟨n,q⟩⟩
def sp_at (C:ς):Sp:=fun vs H Q _=>∃ (p:ς) (x y s:Int) (cs rs:List Int),vs=[.ref p,.int x,.int y]/\aO C H p s cs rs/\bA cs/\bA rs/\0<=x/\x<cs.length+1/\0<=y/\y<rs.length+1 /\
 ∀ H',ai H H'->Q (.int (fS s cs rs x y)) H'
theorem ok_at (T:Txt K mg t):aR P w K mg base CX0 4 t.f_at t.d_at ["self","x","y"] (sp_at t.a_ai) :=
 (okx_at T).down fun vs H Q E hh=>by
  obtain ⟨p,x,y,s,cs,rs,e,hc,bc,br,x0,x1,y0,y1,k⟩:=hh;exact ⟨p,x,y,s,cs,rs,e,hc,bc,br,.inl ⟨⟨⟨x0,x1⟩,y0,y1⟩,k⟩⟩
def sp_ap (C:ς):Sp:=fun vs H Q _=>∃ (p:ς) (s:Int) (cs rs:List Int),vs=[.ref p]/\aO C H p s cs rs/\Q (.int s) H
theorem ok_ap (T:Txt K mg t):aR P w K mg base CX0 1 t.f_ap t.d_ap ["self"] (sp_ap t.a_ai):=by
 refine T.F_ap.ok sc_ap (by walk_at "l") (fun _ _ _ s H vs Q E hr h=>?_)
 ·obtain ⟨p,s,cs,rs,rfl,⟨dx,a,b,h1,h2,h3⟩,k⟩:=h;refine ⟨_,(aj (az (cq K rfl (pv 0) rfl))),?_⟩;apply cu h1 T.cl_ai T.na_first_colour (DM _ _ _) ?_;exact k
def sp_au (C:ς):Sp:=fun vs H Q _=>∃ (p:ς) (s:Int) (cs rs:List Int),vs=[.ref p]/\aO C H p s cs rs/\∀ l,H l=none->Q (.ref l) (upd H l (.lst (cs.map V.int)))
theorem ok_au (T:Txt K mg t):aR P w K mg base CX0 1 t.f_au t.d_au ["self"] (sp_au t.a_ai):=by
 refine T.F_au.ok sc_au (by walk_at "l") (fun _ _ _ s H vs Q E hr h=>?_)
 ·obtain ⟨p,s,cs,rs,rfl,⟨dx,a,b,h1,h2,h3⟩,k⟩:=h;refine ⟨_,(aj (az (aW (fA K rfl) rfl T.no_list (by rfl) (aa (cq K rfl (pv 0) rfl) ae)))),?_⟩;apply cu h1 T.cl_ai T.na_col_bits (zM _ _ _) ?_;left;exact iN h2 k
def sp_ar (C:ς):Sp:=fun vs H Q _=>∃ (p:ς) (s:Int) (cs rs:List Int),vs=[.ref p]/\aO C H p s cs rs/\∀ l,H l=none->Q (.ref l) (upd H l (.lst (rs.map V.int)))
theorem ok_ar (T:Txt K mg t):aR P w K mg base CX0 1 t.f_ar t.d_ar ["self"] (sp_ar t.a_ai):=by
 refine T.F_ar.ok sc_ar (by walk_at "l") (fun _ _ _ s H vs Q E hr h=>?_)
 ·obtain ⟨p,s,cs,rs,rfl,⟨dx,a,b,h1,h2,h3⟩,k⟩:=h;refine ⟨_,(aj (az (aW (fA K rfl) rfl T.no_list (by rfl) (aa (cq K rfl (pv 0) rfl) ae)))),?_⟩;apply cu h1 T.cl_ai T.na_row_bits (zN _ _ _) ?_;left;exact iN h3 k
def Sm (z:Int):Prop:=-1000000000000000000<z/\z<1000000000000000000
theorem mM {zs:List Int} {z:Int} (h:∀ y∈zs,Sm y) (hz:Sm z):∀ y∈zs++[z],Sm y:=fun y hy=>by
 rcases Hj.mp hy with q | q
 ·exact h y q
 ·rw [HL.mp q]; exact hz
theorem wF (r:Int) {m:Int} (h0:0<m) (h1:m<=1000003):Sm (r%m):=by
 have:=Jv r (by omega:m≠0)
 have:=Jc r h0
 unfold Sm; omega
def sp_bh (K:A_):Sp:=fun vs H Q _=>∃ (a:ς) (m:Nat) (ns:List Int),vs=[.ref a,.int m]/\SqL K H a (ns.map V.int)/\ns.length<=63/\m<=200 /\
 ∀ (l:ς) (zs:List Int) (H':Hp),ai H H'->H' l=some (.lst (zs.map V.int))->m<=zs.length->zs.length<=300->(∀ z∈zs,Sm z)->Q (.ref l) H'
theorem iC (zs:List Int) (z:Int):zs.map V.int++[V.int z]=(zs++[z]).map V.int:=by simp
theorem ok_bh (T:Txt K mg t):aR P w K mg base CX0 1 t.f_bh t.d_bh ["_law_script","_law_many"] (sp_bh K):=by
 refine T.F_bh.ok sc_bh (by walk_at "l") (fun _ _ _ s H vs Q E hr h=>?_)
 ·obtain ⟨a,m,ns,rfl,hS,hl,hm,k⟩:=h;refine aF (aI 2 sc_bh.nd (bO ae)) fun _ _=>aF (aI 3 sc_bh.nd ag) fun _ _=>aF (fG Iv rfl (dh (pv 0)) (aY (i:=4) sc_bh.nd rfl (IQ rfl)) (aH (aI 3 sc_bh.nd (ay bB (ay bf (ay jQ (pv 3) ag) (pv 4)) ag)) (aH (aI 5 sc_bh.nd (av jL rfl T.no_abs (by rfl) (aa (pv 4) ae))) (aH (aK (aN nN (pv 5) (ay EH ag ag)) (aH (aZ (cQ HV HZ HY bS (pv 2) (aa (pv 4) ae))) (aj (aI 5 sc_bh.nd ag))) aB) (aj (uY Iv (PW.pt (fJ (aN kK (pv 5) ag) (fi (aN nN (av (bJ K rfl) rfl T.no_len (by rfl) (aa (pv 2) ae)) (pv 1))))) (aH (aZ (cQ HV HZ HY bS (pv 2) (aa (ay bB (pv 5) ag) ae))) (aj (aI 5 sc_bh.nd (ay kJ (pv 5) ag)))))))))) fun _ _=>aF (uY Iv (aN nN (av (bJ K rfl) rfl T.no_len (by rfl) (aa (pv 2) ae)) (pv 1)) (aH (aI 3 sc_bh.nd (ay bB (ay bf (ay jQ (pv 3) ag) ag) ag)) (aj (aZ (cQ HV HZ HY bS (pv 2) (aa (ay bB (ay jQ (pv 3) (pv 3)) ag) ae)))))) fun _ _=>cH (az (pv 2)) fun _ _=>?_;apply ⟨Hs _,fun l hn=>?_⟩;left;have hz:∀ {zs:List Int},zs.length<=300->(zs.map V.int).length<sizeLine:=fun h=>by rw [ξ]; exact aQ (by omega)
  refine ⟨⟨_,(ai.new hn).seq hS⟩,gD (K:=K) (a:=a) (xs:=ns.map V.int) (fun i σ' H'=>∃ (zs:List Int) (mix:Int) (c r:Option V),σ'=[some (.ref a),some (.int m),some (.ref l),some (.int mix),c,r]/\ai H H'/\H' l=some (.lst (zs.map V.int))/\zs.length<=i+m/\∀ z∈zs,Sm z)
   ⟨[],1,none,none,rfl,ai.new hn,af,Hs _,fun z hz=>by cases hz⟩ (fun i σ' H' _ ⟨_,_,_,_,_,s,_⟩=>s.seq hS) ?_ ?_⟩
  ·rintro i y σ' H' hi ⟨zs,mix,c,r,rfl,s1,e1,lz,sm⟩;have hil:i<ns.length:=by have:=(F_.mp hi).1; rwa [ξ] at this
   obtain ⟨z,rfl⟩:∃ z,y=V.int z:=by
    rw [BD] at hi
    cases e:ns[i]? with
    | none=>rw [e] at hi; cases hi
    | some z=>rw [e] at hi; exact ⟨z,(IT hi).symm⟩
   apply bV (.inr ⟨by decide,by decide⟩) ?_;apply bV (by decide) ?_;apply bV ⟨by decide,by decide,by decide⟩ ?_;apply fT (fun hc=>?_) (fun _=>?_)
   ·have hc:=of_decide_eq_true hc
    have hcz:Sm z:=by
     unfold Sm;have e18:(10:Int) ^ 18=1000000000000000000:=by decide
     by_cases hz0:z<0
     ·rw [if_pos hz0] at hc; change -z<(10:Int) ^ 18 at hc; omega
     ·rw [if_neg hz0] at hc; change z<(10:Int) ^ 18 at hc; omega
    apply cV e1 ?_;apply bT e1 (hz (by omega)) ?_;rw [iC];apply ⟨fun n σ' H'=>∃ (zs:List Int) (mix:Int) (r:Int),σ'=[some (.ref a),some (.int m),some (.ref l),some (.int mix),some (.int z),some (.int r)]/\ai H H'/\H' l=some (.lst (zs.map V.int))/\zs.length<=i+1+m/\n=m - zs.length/\∀ z∈zs,Sm z,
     ⟨_,zs++[z],_,_,rfl,s1.later hn,af,by rw [Av,HU]; omega,rfl,mM sm hcz⟩,?_⟩
    rintro n σ' H' ⟨zs,mix,r,rfl,s1,e1,lz,rfl,sm⟩;apply fT (fun _=>?_) (fun _=>?_)
    ·apply bM e1 ?_;left;rw [ξ];refine fT (fun h2=>?_) (fun h2=>?_)
     ·have h2:=of_decide_eq_true h2;refine ⟨fun σ' H'=>∃ (zs':List Int) (mix:Int) (r:Int),σ'=[some (.ref a),some (.int m),some (.ref l),some (.int mix),some (.int z),some (.int r)]/\ai H H'/\H' l=some (.lst (zs'.map V.int))/\zs'.length=zs.length+1/\∀ z∈zs',Sm z,?_,?_⟩
      ·rintro σ' H' ⟨zs',mix,r,rfl,s1,e1,lz',sm'⟩;exact ⟨m - zs'.length,by omega,zs',mix,r,rfl,s1,e1,by omega,rfl,sm'⟩
      ·apply cV e1 ?_;apply bV (by decide) ?_;apply bT e1 (hz (by omega)) ?_;rw [iC];apply bV ⟨by decide,by decide⟩ ?_;left;exact ⟨zs++[r%1000003],mix,_,rfl,s1.later hn,af,by rw [Av,HU],mM sm (wF r (by decide) (by decide))⟩
     ·left;exact ⟨zs,mix,_,_,rfl,s1,e1,lz,sm⟩
    ·left;exact ⟨zs,mix,_,_,rfl,s1,e1,lz,sm⟩
   ·apply ⟨fun n σ' H'=>∃ (zs:List Int) (mix:Int) (r:Int),σ'=[some (.ref a),some (.int m),some (.ref l),some (.int mix),some (.int z),some (.int r)]/\ai H H'/\H' l=some (.lst (zs.map V.int))/\zs.length<=i+1+m/\n=m - zs.length/\∀ z∈zs,Sm z,
     ⟨_,zs,_,_,rfl,s1,e1,by omega,rfl,sm⟩,?_⟩
    rintro n σ' H' ⟨zs,mix,r,rfl,s1,e1,lz,rfl,sm⟩;apply fT (fun _=>?_) (fun _=>?_)
    ·apply bM e1 ?_;left;rw [ξ];refine fT (fun h2=>?_) (fun h2=>?_)
     ·have h2:=of_decide_eq_true h2;refine ⟨fun σ' H'=>∃ (zs':List Int) (mix:Int) (r:Int),σ'=[some (.ref a),some (.int m),some (.ref l),some (.int mix),some (.int z),some (.int r)]/\ai H H'/\H' l=some (.lst (zs'.map V.int))/\zs'.length=zs.length+1/\∀ z∈zs',Sm z,?_,?_⟩
      ·rintro σ' H' ⟨zs',mix,r,rfl,s1,e1,lz',sm'⟩;exact ⟨m - zs'.length,by omega,zs',mix,r,rfl,s1,e1,by omega,rfl,sm'⟩
      ·apply cV e1 ?_;apply bV (by decide) ?_;apply bT e1 (hz (by omega)) ?_;rw [iC];apply bV ⟨by decide,by decide⟩ ?_;left;exact ⟨zs++[r%1000003],mix,_,rfl,s1.later hn,af,by rw [Av,HU],mM sm (wF r (by decide) (by decide))⟩
     ·left;exact ⟨zs,mix,_,_,rfl,s1,e1,lz,sm⟩
    ·left;exact ⟨zs,mix,_,_,rfl,s1,e1,lz,sm⟩
  ·rintro σ' H' ⟨zs,mix,c,r,rfl,s1,e1,lz,sm⟩;rw [ξ] at lz;apply ⟨fun n σ' H'=>∃ (zs:List Int) (mix:Int),σ'=[some (.ref a),some (.int m),some (.ref l),some (.int mix),c,r]/\(-(2 ^ 64)<mix/\mix<2 ^ 64\/True)/\ai H H'/\H' l=some (.lst (zs.map V.int))/\zs.length<=300/\n=m - zs.length/\∀ z∈zs,Sm z,
    ⟨_,zs,mix,rfl,.inr trivial,s1,e1,by omega,rfl,sm⟩,?_⟩
   rintro n σ' H' ⟨zs,mix,rfl,_,s1,e1,lz,rfl,sm⟩;apply bM e1 ?_;left;rw [ξ];refine fT (fun h2=>?_) (fun h2=>?_)
   ·have h2:=of_decide_eq_true h2;refine ⟨fun σ' H'=>∃ (zs':List Int) (mix:Int),σ'=[some (.ref a),some (.int m),some (.ref l),some (.int mix),c,r]/\ai H H'/\H' l=some (.lst (zs'.map V.int))/\zs'.length=zs.length+1/\∀ z∈zs',Sm z,?_,?_⟩
    ·rintro σ' H' ⟨zs',mix,rfl,s1,e1,lz',sm'⟩;exact ⟨m - zs'.length,by omega,zs',mix,rfl,.inr trivial,s1,e1,by omega,rfl,sm'⟩
    ·apply bV (.inr ⟨by decide,by decide⟩) ?_;apply bV (by decide) ?_;apply cV e1 ?_;apply bV (.inl ⟨by omega,by omega⟩) ?_;apply bV (by decide) ?_;apply bT e1 (hz (by omega)) ?_;rw [iC];left;exact ⟨zs++[_],_,rfl,s1.later hn,af,by rw [Av,HU],mM sm (wF _ (by decide) (by decide))⟩
   ·have h2:¬ ((zs.length:Int)<m):=fun z=>h2 (aX z);left;exact k l zs H' s1 e1 (by omega) (by omega) sm
def sp_bu:Sp:=fun vs H Q _=>∃ (n:Int) (m:Nat),vs=[.int n,.int m]/\m<=100/\∀ (l:ς) (bs:List Int) (H':Hp),ai H H'->H l=none->H' l=some (.lst (bs.map V.int))->bs.length=m->(∀ z∈bs,z=0\/z=1)->Q (.ref l) H'
theorem F8 (n:Int):n%2=0\/n%2=1:=by omega
theorem ok_bu (T:Txt K mg t):aR P w K mg base CX0 1 t.f_bu t.d_bu ["_law_number","_law_many"] sp_bu:=by
 refine T.F_bu.ok sc_bu (by walk_at "l") (fun _ _ _ s H vs Q E hr h=>?_)
 ·obtain ⟨n,m,rfl,hm,k⟩:=h;refine aF (aI 2 sc_bu.nd (bO ae)) fun _ _=>aF (fG Iv rfl (ft rfl T.no_bz (aa (pv 1) ae)) (aY (i:=3) sc_bu.nd rfl (IQ rfl)) (aH (aZ (cQ HV HZ HY bS (pv 2) (aa (ay bB (pv 0) ag) ae))) (aj (aI 0 sc_bu.nd (ay kJ (pv 0) ag))))) fun _ _=>cH (az (pv 2)) fun _ _=>?_;apply ⟨Hs _,fun l hn=>?_⟩;apply ⟨m,rfl,by omega,by omega,?_⟩;rw [G_];refine gQ (fun i σ' H'=>∃ (n:Int) (bs:List Int) (c:Option V),σ'=[some (.int n),some (.int m),some (.ref l),c]/\ai H H'/\H' l=some (.lst (bs.map V.int))/\bs.length=i/\∀ z∈bs,z=0\/z=1)
   ⟨n,[],none,rfl,ai.new hn,af,rfl,fun z hz=>by cases hz⟩ ?_ ?_
  ·rintro i σ' H' hi ⟨n,bs,c,rfl,s1,e1,lb,hb⟩;apply cV e1 ?_;apply bV (by decide) ?_;apply bT e1 (by rw [ξ]; exact aQ (by omega)) ?_;rw [iC];apply bV ⟨by decide,by decide⟩ ?_;apply ⟨_,bs++[n%2],_,rfl,s1.later hn,af,by rw [Av,HU]; omega,fun z hz=>?_⟩;rcases Hj.mp hz with h | h
   ·exact hb z h
   ·rw [HL.mp h]; exact F8 n
  ·rintro σ' H' ⟨n,bs,c,rfl,s1,e1,lb,hb⟩;left;exact k l bs H' s1 hn e1 lb hb
def G0 (d:JB):Prop:=(∃ i,d=.int i)\/(∃ b,d=.bool b)\/d=.none\/∃ x,d=.str x/\Bp x=true
def OkS (S:JB->Prop) (d:JB):Prop:=G0 d\/(∃ ds,d=.list ds/\ds.length<=1000/\∀ e∈ds,S e)\/∃ ds,d=.tuple ds/\ds.length<=1000/\∀ e∈ds,S e
def mO (S:JB->Prop):Sp:=fun vs H Q _=>∃ (x y:V) (d:JB),vs=[x,y]/\S d/\Rep H d x/\Rep H d y/\∀ H',ai H H'->Q (.bl true) H'
theorem fu {S:JB->Prop} {n:Nat} (T:Txt K mg t) (G_bn:aR P w K mg base CX0 n t.f_bn t.d_bn ["_law_told_here","_law_due"] (mO S)):aR P w K mg base CX0 (n+1) t.f_bn t.d_bn ["_law_told_here","_law_due"] (mO (OkS S)):=by
 refine T.F_bn.ok sc_bn (by walk_at "l") (fun _ _ _ s H vs Q E hr h=>?_)
 ·obtain ⟨x,y,d,rfl,ok,rx,ry,k⟩:=h;refine aF (aK (PW.pt (fK (aN gG (av (bU K rfl) rfl T.no_bp (by rfl) (aa (pv 0) (aa (dg (v:=.ty "bool") rfl T.no_bool (by rfl:IM "bool"=some (.type "bool")) rfl) ae))) (av (bU K rfl) rfl T.no_bp (by rfl) (aa (pv 1) (aa (dg (v:=.ty "bool") rfl T.no_bool (by rfl:IM "bool"=some (.type "bool")) rfl) ae)))) (eF (aN gG (av (bU K rfl) rfl T.no_bp (by rfl) (aa (pv 0) (aa (dg (v:=.ty "int") rfl T.no_int (by rfl:IM "int"=some (.type "int")) rfl) ae))) (av (bU K rfl) rfl T.no_bp (by rfl) (aa (pv 1) (aa (dg (v:=.ty "int") rfl T.no_int (by rfl:IM "int"=some (.type "int")) rfl) ae))))))) (aj (az AB)) aB) fun _ _=>aF (aK (PW.pt (fK (aN gG (av (bU K rfl) rfl T.no_bp (by rfl) (aa (pv 0) (aa (dg (v:=.ty "list") rfl T.no_list (by rfl:IM "list"=some (.type "list")) rfl) ae))) (av (bU K rfl) rfl T.no_bp (by rfl) (aa (pv 1) (aa (dg (v:=.ty "list") rfl T.no_list (by rfl:IM "list"=some (.type "list")) rfl) ae)))) (eF (aN gG (av (bU K rfl) rfl T.no_bp (by rfl) (aa (pv 0) (aa (dg (v:=.ty "tuple") rfl T.no_bm (by rfl:IM "tuple"=some (.type "tuple")) rfl) ae))) (av (bU K rfl) rfl T.no_bp (by rfl) (aa (pv 1) (aa (dg (v:=.ty "tuple") rfl T.no_bm (by rfl:IM "tuple"=some (.type "tuple")) rfl) ae))))))) (aj (az AB)) aB) fun _ _=>aF (aK (PW.pt (fJ (dR (cm (av (bU K rfl) rfl T.no_bp (by rfl) (aa (pv 1) (aa (dg (v:=.ty "list") rfl T.no_list (by rfl:IM "list"=some (.type "list")) rfl) ae))))) (fi (dR (cm (av (bU K rfl) rfl T.no_bp (by rfl) (aa (pv 1) (aa (dg (v:=.ty "tuple") rfl T.no_bm (by rfl:IM "tuple"=some (.type "tuple")) rfl) ae)))))))) (aj (az (jR (iI bD (av (bU K rfl) rfl T.no_bp (by rfl) (aa (pv 0) (aa (dg (v:=.ty "str") rfl T.no_str (by rfl:IM "str"=some (.type "str")) rfl) ae))) (av (bU K rfl) rfl T.no_bp (by rfl) (aa (pv 1) (aa (dg (v:=.ty "str") rfl T.no_str (by rfl:IM "str"=some (.type "str")) rfl) ae)))) (jS (iI (EF hr.units) (pv 0) (pv 1)))))) aB) fun _ _=>cH (az (jR (iI bD (av (bJ K rfl) rfl T.no_len (by rfl) (aa (pv 0) ae)) (av (bJ K rfl) rfl T.no_len (by rfl) (aa (pv 1) ae))) (jS (av (gL K rfl rfl) rfl T.no_all (by rfl) (aa (cT (N:=["_law_one","_law_other"]) (cap:=[none,none]) rfl ⟨rfl,rfl,rfl,rfl,rfl,rfl⟩ (CI rfl T.no_zip (aa (pv 0) (aa (pv 1) ae))) (fun _ _ _=>(ju (n:=2) K rfl rfl (cZ (aY (i:=0) (show (["_law_one","_law_other"]:List Str).Nodup by decide +kernel) rfl (IQ rfl)) (cZ (aY (i:=1) (show (["_law_one","_law_other"]:List Str).Nodup by decide +kernel) rfl (IQ rfl)) jv)))) (fun _ _ _=>cD) (fun _ _ _=>(aD G_bn (rmo hr) rfl T.mg_bn T.F_bn.kp T.b_bn .nil aV (aa (pv 0) (aa (pv 1) ae))))) ae))))) fun _ _=>?_;apply dS rx.ty (uE d) ?_;apply dS ry.ty (uE d) ?_;left;rw [aX rfl];apply dS rx.ty (xp d) ?_;apply dS ry.ty (xp d) ?_;left;rw [aX rfl];apply dS rx.ty (nq d) ?_;apply dS ry.ty (nq d) ?_;left;rw [aX rfl];apply dS rx.ty (jq d) ?_;apply dS ry.ty (jq d) ?_;left;rw [aX rfl];apply dS ry.ty (nq d) ?_;left;rcases ok with sc | ⟨ds,rfl,hl,hS⟩ | ⟨ds,rfl,hl,hS⟩
  ·have e1:isD "list" d=false:=by rcases sc with ⟨i,rfl⟩ | ⟨b,rfl⟩ | rfl | ⟨x,rfl,hx⟩<;>simp [isD]
   have e2:isD "tuple" d=false:=by rcases sc with ⟨i,rfl⟩ | ⟨b,rfl⟩ | rfl | ⟨x,rfl,hx⟩<;>simp [isD]
   rw [e1];apply dS ry.ty (jq d) ?_;rw [e2];apply dS rx.ty (xq d) ?_;apply dS ry.ty (xq d) ?_;left;rw [aX rfl];left;have sd:Lj d=true:=by rcases sc with ⟨i,rfl⟩ | ⟨b,rfl⟩ | rfl | ⟨x,rfl,hx⟩<;>first | rfl | simp [Lj,Lz,Kq,hx]
   refine ⟨d,d,rx,ry,sd,sd,?_⟩;have e3:JS d d=true:=by rcases sc with ⟨i,rfl⟩ | ⟨b,rfl⟩ | rfl | ⟨x,rfl,hx⟩<;>simp [JS]
   rw [e3];exact k _ (ai.refl _)
  ·have e1:isD "list" (.list ds)=true:=by simp [isD]
   rw [e1];simp only [Rep] at rx ry;obtain ⟨a,xs,rfl,ha,ra⟩:=rx;obtain ⟨b,ys,rfl,hb,rb⟩:=ry;obtain ⟨l1,g1⟩:=iP ra;obtain ⟨l2,g2⟩:=iP rb;apply bM ha ?_;apply bM hb ?_;left;rw [aX (by omega:(xs.length:Int)=ys.length)];apply ⟨a,b,rfl,.inl ⟨⟨_,SqL.of ha⟩,⟨_,SqL.of hb⟩,fun l hn=>?_⟩⟩;refine yh (fun _=>.bl true) ha hb (by omega) (by omega) hn (fun i x y H' Q' ex ey s1 q=>?_) (fun H' s1 e=>?_)
   ·left;obtain ⟨d,hd,rd⟩:=g1 i x ex;obtain ⟨d',hd',rd'⟩:=g2 i y ey;rw [hd] at hd'
    cases hd';exact ⟨x,y,d,rfl,hS d (H_ hd),rd.mono s1,rd'.mono s1,q⟩
   ·left;have e':H' l=some (.lst (((Io xs.length).map fun _=>true).map V.bl)):=by rw [e,IV]; rfl
    refine iL e' ?_;have e4:((Io xs.length).map fun _=>true).all id=true:=by simp
    rw [e4];exact k H' s1
  ·have e1:isD "list" (.tuple ds)=false:=by simp [isD]
   have e2:isD "tuple" (.tuple ds)=true:=by simp [isD]
   rw [e1];apply dS ry.ty (jq _) ?_;rw [e2];simp only [Rep] at rx ry;obtain ⟨a,xs,rfl,ha,ra⟩:=rx;obtain ⟨b,ys,rfl,hb,rb⟩:=ry;obtain ⟨l1,g1⟩:=iP ra;obtain ⟨l2,g2⟩:=iP rb;apply mK ha ?_;apply mK hb ?_;left;rw [aX (by omega:(xs.length:Int)=ys.length)];apply ⟨a,b,rfl,.inr ⟨⟨_,SqT.of ha⟩,⟨_,SqT.of hb⟩,fun l hn=>?_⟩⟩;refine vL (fun _=>.bl true) ha hb (by omega) (by omega) hn (fun i x y H' Q' ex ey s1 q=>?_) (fun H' s1 e=>?_)
   ·left;obtain ⟨d,hd,rd⟩:=g1 i x ex;obtain ⟨d',hd',rd'⟩:=g2 i y ey;rw [hd] at hd'
    cases hd';exact ⟨x,y,d,rfl,hS d (H_ hd),rd.mono s1,rd'.mono s1,q⟩
   ·left;have e':H' l=some (.lst (((Io xs.length).map fun _=>true).map V.bl)):=by rw [e,IV]; rfl
    refine iL e' ?_;have e4:((Io xs.length).map fun _=>true).all id=true:=by simp
    rw [e4];exact k H' s1
def Ok3:JB->Prop:=OkS (OkS (OkS fun _=>False))
theorem ok_bn (T:Txt K mg t):aR P w K mg base CX0 3 t.f_bn t.d_bn ["_law_told_here","_law_due"] (mO Ok3) :=
 fu T (fu T (fu T ⟨fun vs H Q E h=>(by obtain ⟨_,_,_,_,h,_⟩:=h; exact h.elim),fun A outer s H args us vs Q E _ _ _ _ h=>(by obtain ⟨_,_,_,_,h,_⟩:=h; exact h.elim)⟩))
theorem xy {S:JB->Prop} (i:Int):OkS S (.int i):=.inl (.inl ⟨i,rfl⟩)
theorem As {S:JB->Prop} (i:Bool):OkS S (.bool i):=.inl (.inr (.inl ⟨i,rfl⟩))
theorem mI {S:JB->Prop} {x:Str} (h:Bp x=true):OkS S (.str x):=.inl (.inr (.inr (.inr ⟨x,rfl,h⟩)))
theorem uM {S:JB->Prop} {ns:List Int} (h:ns.length<=1000):OkS (OkS S) (.list (ns.map J0)) :=
 .inr (.inl ⟨_,rfl,by rw [ξ]; exact h,fun e he=>by obtain ⟨i,_,rfl⟩:=Hv.mp he; exact xy i⟩)
end
theorem kn (s:Int) (cs rs:List Int) (x y:Int):fS s cs rs x y=0\/fS s cs rs x y=1:=by unfold fS; omega
section
variable {P:HS} {w:ID} {K:A_} {mg:Str->Option η} {base:IC} {t:Ad}
noncomputable def shl (bs:List Int) (n:Int):List Int:=bs.map fun b=>(b+n)%2
theorem xQ (bs:List Int) (n:Int):(shl bs n).length=bs.length:=by unfold shl; rw [ξ]
theorem kU {bs:List Int} (h:bA bs) (n:Int):bA (shl bs n):=⟨by rw [xQ]; exact h.1,fun z hz=>by
 unfold shl at hz;obtain ⟨b,_,rfl⟩:=Hv.mp hz;omega⟩
theorem Dx {bs:List Int} {n:Int} {k:Nat} (h:k<bs.length):(shl bs n).getD k 0=(bs.getD k 0+n)%2:=by
 unfold shl;rw [Hl,Hl,BD,E_ h];rfl
def sp_bg:Sp:=fun vs H Q _=>∃ (a:ς) (n:Int) (bs:List Int),vs=[.ref a,.int n]/\H a=some (.lst (bs.map V.int))/\bs.length<=1000/\∀ l H',ai H H'->H l=none->H' l=some (.lst ((shl bs n).map V.int))->Q (.ref l) H'
theorem ok_bg (T:Txt K mg t):aR P w K mg base CX0 1 t.f_bg t.d_bg ["bits","steps"] sp_bg:=by
 refine T.F_bg.ok sc_bg (by walk_at "l") (fun _ _ _ s H vs Q E hr h=>?_)
 ·obtain ⟨a,n,bs,rfl,ha,hl,k⟩:=h;refine ⟨_,(aj (az (cT (N:=["bit","steps"]) (cap:=[none,some 1]) rfl ⟨rfl,rfl,rfl,rfl,rfl,rfl⟩ (dh (pv 0)) (fun _ _ _=>(aY (i:=0) (show (["bit","steps"]:List Str).Nodup by decide +kernel) rfl (IQ rfl))) (fun _ _ _=>cD) (fun _ _ _=>(ay bB (ay bf (pv 0) (pv 1)) ag))))),?_⟩;apply ⟨⟨_,SqL.of ha⟩,fun l hn=>?_⟩;refine gN (fun v=>match v with | .int i=>.int ((i+n)%2) | _=>.non) (SqL.of ha) (by rw [ξ]; exact hl) hn (fun x o H' Q' hx s1 q=>?_) (fun H' s1 e=>?_)
  ·obtain ⟨i,_,rfl⟩:=Hv.mp hx;apply bV (by decide) ?_;exact q H' (ai.refl _)
  ·left;exact k l H' s1 hn (by rw [e,IV]; unfold shl; rw [IV]; rfl)
def sp_as (C:ς):Sp:=fun vs H Q _=>∃ (p:ς) (s:Int) (cs rs:List Int),vs=[.ref p]/\aO C H p s cs rs/\(s=0\/s=1)/\bA cs/\bA rs/\∀ x H',ai H H'->aO C H' x s rs cs->Q (.ref x) H'
theorem ok_as (T:Txt K mg t):aR P w K mg base CX0 8 t.f_as t.d_as ["cloth"] (sp_as t.a_ai):=by
 refine T.F_as.ok sc_as (by walk_at "l") (fun _ _ _ s H vs Q E hr h=>?_)
 ·obtain ⟨p,s,cs,rs,rfl,hc,sh,bc,br,k⟩:=h;obtain ⟨dx,a,b,e1,e2,e3⟩:=hc.ob;have nl:∀ {w h:Int} {m:Str},NoF m->(cfl s a b w h).lookup m=none:=fun x=>dj _ _ _ x;refine ⟨_,(aj (az (jt T.mk_ai (ok_aq T) (rmo hr) rfl T.mg_ai T.b_aq .nil aV (aa (aT (pv 0) T.cl_ai T.m_ap (ok_ap T) (rmo hr) T.b_ap .nil aV) (aa (aT (pv 0) T.cl_ai T.m_ar (ok_ar T) (rmo hr) T.b_ar .nil aV) (aa (aT (pv 0) T.cl_ai T.m_au (ok_au T) (rmo hr) T.b_au .nil aV) ae)))))),?_⟩;apply ax e1 (nl (by decide +kernel)) ?_;apply ⟨p,s,cs,rs,rfl,hc,?_⟩;apply ax e1 (nl (by decide +kernel)) ?_;apply ⟨p,s,cs,rs,rfl,hc,fun l1 n1=>?_⟩;have s1:=ai.new (o:=HO.lst (rs.map V.int)) n1;apply ax (s1 _ _ e1) (nl (by decide +kernel)) ?_;apply ⟨p,s,cs,rs,rfl,hc.mono s1,fun l2 n2=>?_⟩;have s2:=ai.new (o:=HO.lst (cs.map V.int)) n2;left;intro x dx nx ndx nex;have s12:=s1.trans s2;have h1:=s2 _ _ (af (H:=H) (a:=l1) (o:=HO.lst (rs.map V.int)));have h2:=af (H:=upd H l1 (HO.lst (rs.map V.int))) (a:=l2) (o:=HO.lst (cs.map V.int));generalize upd (upd H l1 (HO.lst (rs.map V.int))) l2 (HO.lst (cs.map V.int))=H3 at h1 h2 s12 nx ndx ⊢;have s3:ai H3 (upd (upd H3 dx (.own x)) x (.ins t.a_ai dx [])):=(ai.new ndx).later nx;refine ⟨x,dx,l1,l2,s,rs,cs,rfl,af,s3 _ _ h1,s3 _ _ h2,sh,br,bc,fun H4 kp hC=>⟨rfl,?_⟩⟩;exact k x H4 (fun b o e=>kp b o (s3 b o (s12 b o e)) (cj (s12 b o e) nx)) hC
theorem jr {C p dx c r:ς} {H1 H4:Hp} (nx:H1 p=none) (ndx:H1 dx=none) (kp:∀ b o,upd (upd H1 dx (.own p)) p (.ins C dx []) b=some o->b≠p->H4 b=some o):ai H1 H4:=fun b o e =>
 kp b o (((ai.new ndx).later nx) b o e) (cj e nx)
theorem jm {bs:List Int} (h:bA bs) (n:Nat):bA (bs.take n):=⟨by rw [Hw]; have:=h.1; omega,fun z hz=>h.2 z (IP hz)⟩
theorem jl {bs:List Int} (h:bA bs) (n:Nat):bA (bs.drop n):=⟨by rw [IG]; have:=h.1; omega,fun z hz=>h.2 z (JE hz)⟩
theorem vI {bs:List Int} (h:bA bs) {k:Nat} (hk:k<bs.length):bs.getD k 0=0\/bs.getD k 0=1:=h.2 _ (L2.getD_mem hk)
def mU (w:Str) (cs rs bs cs' rs':List Int):Prop:=(w="col"/\cs'=bs/\rs'=rs)\/(w="row"/\cs'=cs/\rs'=bs)
def tM (C BS:ς):Sp:=fun vs H Q E=>∃ (p l:ς) (wy:Str) (s:Int) (cs rs bs cs' rs':List Int),vs=[.ref p,.str wy,.ref l]/\aO C H p s cs rs/\(s=0\/s=1)/\bA cs/\bA rs/\H l=some (.lst (bs.map V.int))/\bs.length<=1000/\(∀ z∈bs,z=0\/z=1)/\mU wy cs rs bs cs' rs' /\
 ((bs.length<=39/\∀ x H',ai H H'->aO C H' x s cs' rs'->Q (.ref x) H')\/(¬ bs.length<=39/\∀ H',ai H H'->E (.ref BS) none H'))
theorem okx_aU (T:Txt K mg t):aR P w K mg base (CX1 P w) 8 t.f_aU t.d_aU ["cloth","way","bits"] (tM t.a_ai t.a_ac):=by
 have GX_aq:=(okx_aq (P:=P) (w:=w) (base:=base) T).one;refine T.F_aU.ok1 sc_aU (by walk_at "l") (fun _ _ _ s H vs Q E hr h=>?_)
 ·obtain ⟨p,l,wy,s,cs,rs,bs,cs',rs',rfl,hc,sh,bc,br,hl,lb,bb,hw,z⟩:=h;obtain ⟨dx,a,b,e1,e2,e3⟩:=hc.ob;have nl:∀ {w h:Int} {m:Str},NoF m->(cfl s a b w h).lookup m=none:=fun x=>dj _ _ _ x
  have ab:bs.all cv=true:=by
   rw [IW];intro z hz;rcases bb z hz with rfl | rfl<;>rfl
  have sb:cv s=true:=by rcases sh with rfl | rfl<;>rfl
  have lc:=bc.1;have lr:=br.1;refine ⟨_,(aH (aK (aN bD (pv 1) ao) (aj (az (jt T.mk_ai GX_aq (rmo hr) rfl T.mg_ai T.b_aq .nil aP (aa (aT (pv 0) T.cl_ai T.m_ap (ok_ap T).up (rmo hr) T.b_ap .nil aP) (aa (pv 2) (aa (aT (pv 0) T.cl_ai T.m_ar (ok_ar T).up (rmo hr) T.b_ar .nil aP) ae)))))) aB) (aj (az (jt T.mk_ai GX_aq (rmo hr) rfl T.mg_ai T.b_aq .nil aP (aa (aT (pv 0) T.cl_ai T.m_ap (ok_ap T).up (rmo hr) T.b_ap .nil aP) (aa (aT (pv 0) T.cl_ai T.m_au (ok_au T).up (rmo hr) T.b_au .nil aP) (aa (pv 2) ae))))))),?_⟩;left;rcases hw with ⟨rfl,rfl,rfl⟩ | ⟨rfl,rfl,rfl⟩
  ·rw [aX (rfl:("col":Str)="col")];apply ax e1 (nl (by decide +kernel)) ?_;apply ⟨p,s,cs,_,rfl,hc,?_⟩;apply ax e1 (nl (by decide +kernel)) ?_;apply ⟨p,s,cs,_,rfl,hc,fun l1 n1=>?_⟩;have s1:=ai.new (o:=HO.lst (rs'.map V.int)) n1;have q1:=af (H:=H) (a:=l1) (o:=HO.lst (rs'.map V.int));generalize upd H l1 (HO.lst (rs'.map V.int))=H1 at s1 q1 ⊢;left;intro x dxx nx ndx nex;have sM:ai H1 (upd (upd H1 dxx (.own x)) x (.ins t.a_ai dxx [])):=(ai.new ndx).later nx;refine ⟨x,dxx,l,l1,s,cs',rs',rfl,af,sM _ _ (s1 _ _ hl),sM _ _ q1,by omega,by omega,?_⟩;rcases z with ⟨l39,z⟩ | ⟨l39,z⟩
   ·refine .inr (.inr ⟨⟨l39,lr⟩,by unfold eC; rw [sb,ab,br.all]; rfl,fun H4 kp hC=>⟨rfl,?_⟩⟩);exact z x H4 (s1.trans (jr (c:=0) (r:=0) nx ndx kp)) hC
   ·exact .inl ⟨fun q=>l39 q.1,z _ (s1.trans sM)⟩
  ·rw [bI u3];apply ax e1 (nl (by decide +kernel)) ?_;apply ⟨p,s,_,rs,rfl,hc,?_⟩;apply ax e1 (nl (by decide +kernel)) ?_;apply ⟨p,s,_,rs,rfl,hc,fun l1 n1=>?_⟩;have s1:=ai.new (o:=HO.lst (cs'.map V.int)) n1;have q1:=af (H:=H) (a:=l1) (o:=HO.lst (cs'.map V.int));generalize upd H l1 (HO.lst (cs'.map V.int))=H1 at s1 q1 ⊢;left;intro x dxx nx ndx nex;have sM:ai H1 (upd (upd H1 dxx (.own x)) x (.ins t.a_ai dxx [])):=(ai.new ndx).later nx;refine ⟨x,dxx,l1,l,s,cs',rs',rfl,af,sM _ _ q1,sM _ _ (s1 _ _ hl),by omega,by omega,?_⟩;rcases z with ⟨l39,z⟩ | ⟨l39,z⟩
   ·refine .inr (.inr ⟨⟨lc,l39⟩,by unfold eC; rw [sb,ab,bc.all]; rfl,fun H4 kp hC=>⟨rfl,?_⟩⟩);exact z x H4 (s1.trans (jr (c:=0) (r:=0) nx ndx kp)) hC
   ·exact .inl ⟨fun q=>l39 q.2,z _ (s1.trans sM)⟩
theorem mU.of {w:Str} {cs rs bs:List Int} (h:fw w cs rs bs) (ns:List Int):∃ cs' rs',mU w cs rs ns cs' rs':=by
 rcases h with ⟨rfl,_⟩ | ⟨rfl,_⟩
 ·exact ⟨ns,rs,.inl ⟨rfl,rfl,rfl⟩⟩
 ·exact ⟨cs,ns,.inr ⟨rfl,rfl,rfl⟩⟩
theorem fw.bits {w:Str} {cs rs bs:List Int} (h:fw w cs rs bs) (bc:bA cs) (br:bA rs):bA bs:=by
 rcases h with ⟨_,rfl⟩ | ⟨_,rfl⟩
 ·exact bc
 ·exact br
noncomputable def mZ (bs:List Int) (k:Nat):List Int:=bs.set k (1 - bs.getD k 0)
theorem qe {bs:List Int} {k:Nat} (h:bA bs) (hk:k<bs.length):bA (mZ bs k):=by
 unfold mZ;refine ⟨by rw [NI]; exact h.1,fun z hz=>?_⟩;rcases Np hz with q | rfl
 ·exact h.2 z q
 ·rcases vI h hk with q | q<;>rw [q]<;>decide
def wM (C NL:ς):Sp:=fun vs H Q E=>∃ (p:ς) (wy:Str) (k s:Int) (cs rs:List Int),vs=[.ref p,.str wy,.int k]/\aO C H p s cs rs/\(s=0\/s=1)/\bA cs/\bA rs /\
 ((∃ bs cs' rs',fw wy cs rs bs/\0<=k/\k<bs.length/\mU wy cs rs (mZ bs k.toNat) cs' rs'/\∀ x H',ai H H'->aO C H' x s cs' rs'->Q (.ref x) H')\/(tW wy k cs rs/\E (.ref NL) none H))
theorem okx_bq (T:Txt K mg t):aR P w K mg base (CX1 P w) 9 t.f_bq t.d_bq ["cloth","way","k"] (wM t.a_ai t.a_ae):=by
 refine T.F_bq.ok1 sc_bq (by walk_at "l") (fun _ _ _ s H vs Q E hr h=>?_)
 ·obtain ⟨p,wy,k,s,cs,rs,rfl,hc,sh,bc,br,h⟩:=h;obtain ⟨dx,a,b,e1,e2,e3⟩:=hc.ob;have nl:∀ {w h:Int} {m:Str},NoF m->(cfl s a b w h).lookup m=none:=fun x=>dj _ _ _ x;refine aF (aI 3 sc_bq.nd (ay fE ag (bH (pv 0) T.cl_ai T.m_aK (okx_aK T) (rmo hr) T.b_aK .nil aP (aa (pv 1) (aa (pv 2) ae))))) fun _ _=>aF (aI 4 sc_bq.nd (aW (fA K rfl) rfl T.no_list (by rfl) (aa (bH (pv 0) T.cl_ai T.m_am (okx_am T) (rmo hr) T.b_am .nil aP (aa (pv 1) ae)) ae))) fun _ _=>aF (nR (pv 3) (EL (pv 4) (pv 2) Br)) fun _ _=>cH (az (aD (okx_aU T) (rmo hr) rfl T.mg_aU T.F_aU.kp T.b_aU .nil aP (aa (pv 0) (aa (pv 1) (aa (pv 4) ae))))) fun _ _=>?_;apply ax e1 (nl (by decide +kernel)) ?_;left;rcases h with ⟨bs,cs',rs',hw,h0,h1,w2,z⟩ | ⟨n,q⟩
  ·have bb:=hw.bits bc br;have lb:=bb.1;refine ⟨p,wy,k,s,cs,rs,rfl,hc,.inl ⟨bs,hw,h0,h1,?_⟩⟩;apply ax e1 (nl (by decide +kernel)) ?_;apply ⟨p,wy,s,cs,rs,rfl,hc,.inl ⟨bs,hw,fun ta hta=>?_⟩⟩;apply iN hta fun l1 n1=>?_;have s1:=ai.new (o:=HO.lst (bs.map V.int)) n1;left;have ik:ixN (bs.map V.int).length k=some k.toNat:=by unfold ixN; rw [if_pos h0,ξ,if_pos h1]
   refine Dm af ik ?_;left;have e4:(bs.map V.int).set k.toNat (V.int (1 - bs.getD k.toNat 0))=(mZ bs k.toNat).map V.int:=by unfold mZ; rw [List.map_set]
   rw [mP,e4];have s2:=ai.new (o:=HO.lst ((mZ bs k.toNat).map V.int)) n1;have fb:=qe (k:=k.toNat) bb (by omega);exact ⟨p,l1,wy,s,cs,rs,_,cs',rs',rfl,hc.mono s2,sh,bc,br,af,by have:=fb.1; omega,fb.2,w2,.inl ⟨fb.1,fun x H' s3 hX=>z x H' (s2.trans s3) hX⟩⟩
  ·exact ⟨p,wy,k,s,cs,rs,rfl,hc,.inr ⟨n,q⟩⟩
noncomputable def fZ (bs:List Int) (k:Nat) (b:Int):List Int:=bs.take k++b::bs.drop k
theorem yS (bs:List Int) (k:Nat) (b:Int) (h:k<=bs.length):(fZ bs k b).length=bs.length+1:=by
 unfold fZ;rw [Av,Hw,HM,IG]; omega
theorem qw {bs:List Int} {k:Nat} {b:Int} (h:∀ z∈bs,z=0\/z=1) (hb:b=0\/b=1):∀ z∈fZ bs k b,z=0\/z=1:=fun z hz=>by
 unfold fZ at hz;rcases Hj.mp hz with q | q
 ·exact h z (IP q)
 ·rcases Ξ.mp q with rfl | q
  ·exact hb
  ·exact h z (JE q)
def DD (C NL BB BS:ς):Sp:=fun vs H Q E=>∃ (p:ς) (wy:Str) (k bt s:Int) (cs rs:List Int),vs=[.ref p,.str wy,.int k,.int bt]/\aO C H p s cs rs/\(s=0\/s=1)/\bA cs/\bA rs /\
  (((¬ wy="col"/\¬ wy="row")/\E (.ref NL) none H)\/∃ bs,fw wy cs rs bs /\
    ((¬ (0<=k/\k<(bs.length:Int)+1)/\∀ H',ai H H'->E (.ref NL) none H')\/((0<=k/\k<(bs.length:Int)+1)/\cv bt=false/\∀ H',ai H H'->E (.ref BB) none H') \/
     ((0<=k/\k<(bs.length:Int)+1)/\cv bt=true/\bs.length=39/\∀ H',ai H H'->E (.ref BS) none H') \/
     ((0<=k/\k<(bs.length:Int)+1)/\cv bt=true/\bs.length<39/\∃ cs' rs',mU wy cs rs (fZ bs k.toNat bt) cs' rs'/\∀ x H',ai H H'->aO C H' x s cs' rs'->Q (.ref x) H')))
theorem uy {b:Int} (h:cv b=true):b=0\/b=1:=by
 unfold cv at h;rw [Hy,decide_eq_true_eq,decide_eq_true_eq] at h;omega
theorem CA (T:Txt K mg t):aR P w K mg base (CX1 P w) 9 t.f_put t.d_put ["cloth","way","k","bit"] (DD t.a_ai t.a_ae t.a_ag t.a_ac):=by
 refine T.F_put.ok1 Bq (by walk_at "l") (fun _ _ _ s H vs Q E hr h=>?_)
 ·obtain ⟨p,wy,k,bt,s,cs,rs,rfl,hc,sh,bc,br,h⟩:=h;obtain ⟨dx,a,b,e1,e2,e3⟩:=hc.ob;have nl:∀ {w h:Int} {m:Str},NoF m->(cfl s a b w h).lookup m=none:=fun x=>dj _ _ _ x;refine aF (aI 4 Bq.nd (aW (fA K rfl) rfl T.no_list (by rfl) (aa (bH (pv 0) T.cl_ai T.m_am (okx_am T) (rmo hr) T.b_am .nil aP (aa (pv 1) ae)) ae))) fun _ _=>aF (aK (dR (cm (aD (ok_aH T).up (rmo hr) rfl T.mg_aH T.F_aH.kp T.b_aH .nil aP (aa (pv 2) (aa (ay bf (av (bJ K rfl) rfl T.no_len (by rfl) (aa (pv 4) ae)) ag) ae))))) (aj (b7 T.mg_ae T.x_ae BF rfl rfl (fun _ _ _ _ _ _ _ _ I m q=>gu I m q) (aa ao ae))) aB) fun _ _=>aF (aK (dR (cm (aD (ok_bt T).up (rmo hr) rfl T.mg_bt T.F_bt.kp T.b_bt .nil aP (aa (pv 3) ae)))) (aj (b7 T.mg_ag T.x_ag BF rfl rfl (fun _ _ _ _ _ _ _ _ I m q=>gu I m q) (aa ao ae))) aB) fun _ _=>aF (aZ (cQ HV PySem.F.slot_list_insert PySem.F.type_list_insert yF (pv 4) (aa (pv 2) (aa (pv 3) ae)))) fun _ _=>cH (az (aD (okx_aU T) (rmo hr) rfl T.mg_aU T.F_aU.kp T.b_aU .nil aP (aa (pv 0) (aa (pv 1) (aa (pv 4) ae))))) fun _ _=>?_;apply ax e1 (nl (by decide +kernel)) ?_;left;rcases h with ⟨n,q⟩ | ⟨bs,hw,h⟩
  ·exact ⟨p,wy,s,cs,rs,rfl,hc,.inr ⟨n.1,n.2,q⟩⟩
  ·have bb:=hw.bits bc br;have lb:=bb.1;refine ⟨p,wy,s,cs,rs,rfl,hc,.inl ⟨bs,hw,fun ta hta=>?_⟩⟩;apply iN hta fun l1 n1=>?_;have s1:=ai.new (o:=HO.lst (bs.map V.int)) n1;apply bM af ?_;rw [ξ];apply ⟨k,_,rfl,?_⟩;rcases h with ⟨n,q⟩ | ⟨hk,nb,q⟩ | ⟨hk,nb,l39,q⟩ | ⟨hk,nb,l39,cs',rs',w2,z⟩
   ·rw [qK n];left;exact ⟨by show 1<=BC; decide,q _ s1⟩
   ·rw [mv hk];apply ⟨bt,rfl,?_⟩;rw [nb];left;exact ⟨by show 1<=BC; decide,q _ s1⟩
   all_goals
    rw [mv hk];apply ⟨bt,rfl,?_⟩;rw [nb];apply cV af ?_;left;obtain ⟨j,rfl⟩:∃ j:Nat,k=(j:Int):=⟨k.toNat,by omega⟩
    refine yW af (by rw [ξ]; omega) (by rw [ξ]; omega) ?_;have e4:(bs.map V.int).take j++V.int bt::(bs.map V.int).drop j=(fZ bs j bt).map V.int:=by unfold fZ; rw [HN,MR,Ho,MS]
    rw [mP,e4];left;have s2:=ai.new (o:=HO.lst ((fZ bs j bt).map V.int)) n1;have pl:=yS bs j bt (by omega)
   ·obtain ⟨cs',rs',w2⟩:=mU.of hw (fZ bs j bt);exact ⟨p,l1,wy,s,cs,rs,_,cs',rs',rfl,hc.mono s2,sh,bc,br,af,by omega,qw bb.2 (uy nb),w2,.inr ⟨by omega,fun H' s3=>q H' (s2.trans s3)⟩⟩
   ·exact ⟨p,l1,wy,s,cs,rs,_,cs',rs',rfl,hc.mono s2,sh,bc,br,af,by omega,qw bb.2 (uy nb),w2,.inl ⟨by omega,fun x H' s3 hX=>z x H' (s2.trans s3) hX⟩⟩
def DB (C NL:ς):Sp:=fun vs H Q E=>∃ (p:ς) (wy:Str) (k s:Int) (cs rs:List Int),vs=[.ref p,.str wy,.int k]/\aO C H p s cs rs/\(s=0\/s=1)/\bA cs/\bA rs /\
 ((∃ bs cs' rs',fw wy cs rs bs/\0<=k/\k<bs.length/\mU wy cs rs (bs.eraseIdx k.toNat) cs' rs'/\∀ x H',ai H H'->aO C H' x s cs' rs'->Q (.ref x) H')\/(tW wy k cs rs/\E (.ref NL) none H))
theorem Cz (T:Txt K mg t):aR P w K mg base (CX1 P w) 9 t.f_cut t.d_cut ["cloth","way","k"] (DB t.a_ai t.a_ae):=by
 refine T.F_cut.ok1 Bo (by walk_at "l") (fun _ _ _ s H vs Q E hr h=>?_)
 ·obtain ⟨p,wy,k,s,cs,rs,rfl,hc,sh,bc,br,h⟩:=h;obtain ⟨dx,a,b,e1,e2,e3⟩:=hc.ob;have nl:∀ {w h:Int} {m:Str},NoF m->(cfl s a b w h).lookup m=none:=fun x=>dj _ _ _ x;refine aF (aZ (bH (pv 0) T.cl_ai T.m_aK (okx_aK T) (rmo hr) T.b_aK .nil aP (aa (pv 1) (aa (pv 2) ae)))) fun _ _=>aF (aI 3 Bo.nd (aW (fA K rfl) rfl T.no_list (by rfl) (aa (bH (pv 0) T.cl_ai T.m_am (okx_am T) (rmo hr) T.b_am .nil aP (aa (pv 1) ae)) ae))) fun _ _=>aF (aZ (cQ HV PySem.F.slot_list_pop PySem.F.type_list_pop Ap (pv 3) (aa (pv 2) ae))) fun _ _=>cH (az (aD (okx_aU T) (rmo hr) rfl T.mg_aU T.F_aU.kp T.b_aU .nil aP (aa (pv 0) (aa (pv 1) (aa (pv 3) ae))))) fun _ _=>?_;apply ax e1 (nl (by decide +kernel)) ?_;left;rcases h with ⟨bs,cs',rs',hw,h0,h1,w2,z⟩ | ⟨n,q⟩
  ·have bb:=hw.bits bc br;have lb:=bb.1;refine ⟨p,wy,k,s,cs,rs,rfl,hc,.inl ⟨bs,hw,h0,h1,?_⟩⟩;apply ax e1 (nl (by decide +kernel)) ?_;apply ⟨p,wy,s,cs,rs,rfl,hc,.inl ⟨bs,hw,fun ta hta=>?_⟩⟩;apply iN hta fun l1 n1=>?_;apply cV af ?_;left;obtain ⟨j,rfl⟩:∃ j:Nat,k=(j:Int):=⟨k.toNat,by omega⟩
   have hj:j<bs.length:=by omega
   refine Ba af (y:=V.int bs[j]) (by rw [BD,E_ hj]; rfl) (by rw [ξ]; omega) ?_;have e4:(bs.map V.int).eraseIdx j=(bs.eraseIdx j).map V.int:=(by rw [Kd,Kd,HN,MR,MS])
   rw [mP,e4];left;have s2:=ai.new (o:=HO.lst ((bs.eraseIdx j).map V.int)) n1;have le:(bs.eraseIdx j).length<=bs.length:=N7 ..;have lb2:∀ z∈bs.eraseIdx j,z=0\/z=1:=fun z hz=>bb.2 z (Nz hz);exact ⟨p,l1,wy,s,cs,rs,_,cs',rs',rfl,hc.mono s2,sh,bc,br,af,by omega,lb2,w2,.inl ⟨by omega,fun x H' s3 hX=>z x H' (s2.trans s3) hX⟩⟩
  ·exact ⟨p,wy,k,s,cs,rs,rfl,hc,.inr ⟨n,q⟩⟩
def sp_aW (C:ς):Sp:=fun vs H Q _=>∃ (p:ς) (k:Nat) (s:Int) (cs rs:List Int),vs=[.ref p,.int k]/\aO C H p s cs rs/\(s=0\/s=1)/\bA cs/\bA rs/\k<cs.length /\
 ∀ tp x y H',ai H H'->H' tp=some (.tup [.ref x,.ref y])->aO C H' x s (cs.take k) rs->aO C H' y (fS s cs rs ((k+1:Nat):Int) 0) (cs.drop (k+1)) (shl rs ((k+1:Nat):Int))->Q (.ref tp) H'
theorem ok_aW (T:Txt K mg t):aR P w K mg base CX0 9 t.f_aW t.d_aW ["cloth","k"] (sp_aW t.a_ai):=by
 refine T.F_aW.ok sc_aW (by walk_at "l") (fun _ _ _ s H vs Q E hr h=>?_)
 ·obtain ⟨p,k,s,cs,rs,rfl,hc,sh,bc,br,hk,z⟩:=h;have lc:=bc.1;have lr:=br.1;obtain ⟨dx,a,b,e1,e2,e3⟩:=hc.ob;have nl:∀ {w h:Int} {m:Str},NoF m->(cfl s a b w h).lookup m=none:=fun x=>dj _ _ _ x;refine aF (aI 2 sc_aW.nd (ay bf (pv 1) ag)) fun _ _=>aF (aI 3 sc_aW.nd (jt T.mk_ai (ok_aq T) (rmo hr) rfl T.mg_ai T.b_aq .nil aV (aa (aT (pv 0) T.cl_ai T.m_ap (ok_ap T) (rmo hr) T.b_ap .nil aV) (aa (aU (bE K rfl) (aT (pv 0) T.cl_ai T.m_au (ok_au T) (rmo hr) T.b_au .nil aV) bu (bz (pv 1))) (aa (aT (pv 0) T.cl_ai T.m_ar (ok_ar T) (rmo hr) T.b_ar .nil aV) ae))))) fun _ _=>aF (aI 4 sc_aW.nd (jt T.mk_ai (ok_aq T) (rmo hr) rfl T.mg_ai T.b_aq .nil aV (aa (bH (pv 0) T.cl_ai T.m_at (ok_at T) (rmo hr) T.b_at .nil aV (aa (pv 2) (aa ag ae))) (aa (aU (bE K rfl) (aT (pv 0) T.cl_ai T.m_au (ok_au T) (rmo hr) T.b_au .nil aV) (bz (pv 2)) bu) (aa (aD (ok_bg T) (rmo hr) rfl T.mg_bg T.F_bg.kp T.b_bg .nil aV (aa (aT (pv 0) T.cl_ai T.m_ar (ok_ar T) (rmo hr) T.b_ar .nil aV) (aa (pv 2) ae))) ae))))) fun _ _=>cH (az (bh (aa (pv 3) (aa (pv 4) ae)))) fun _ _=>?_;left;rw [show ((k:Int)+1)=((k+1:Nat):Int) by omega];refine ax e1 (nl (by decide +kernel)) ?_;apply ⟨p,s,cs,rs,rfl,hc,?_⟩;apply ax e1 (nl (by decide +kernel)) ?_;apply ⟨p,s,cs,rs,rfl,hc,fun l1 n1=>?_⟩;have s1:=ai.new (o:=HO.lst (cs.map V.int)) n1;apply eG af fun l2 n2=>?_;rw [dW (by omega:(0:Int)<=(k:Int)),G_];have s2:=ai.new (o:=HO.lst ((cs.take k).map V.int)) n2;have s12:=s1.trans s2;have q2:=af (H:=upd H l1 (HO.lst (cs.map V.int))) (a:=l2) (o:=HO.lst ((cs.take k).map V.int));generalize upd (upd H l1 (HO.lst (cs.map V.int))) l2 (HO.lst ((cs.take k).map V.int))=H2 at s12 q2 ⊢;apply ax (s12 _ _ e1) (nl (by decide +kernel)) ?_;apply ⟨p,s,cs,rs,rfl,hc.mono s12,fun l3 n3=>?_⟩;have s3:=ai.new (o:=HO.lst (rs.map V.int)) n3;left;intro x dxx nx ndx nex;have sM:ai (upd H2 l3 (HO.lst (rs.map V.int))) (upd (upd (upd H2 l3 (HO.lst (rs.map V.int))) dxx (.own x)) x (.ins t.a_ai dxx [])):=(ai.new ndx).later nx;refine ⟨x,dxx,l2,l3,s,cs.take k,rs,rfl,af,sM _ _ (s3 _ _ q2),sM _ _ af,sh,jm bc k,br,fun H4 kp hX=>⟨rfl,?_⟩⟩;have s4:ai H H4:=s12.trans (s3.trans (jr (c:=0) (r:=0) nx ndx kp));have hc4:=hc.mono s4;clear s1 s2 s12 s3 sM q2 kp nx ndx n1 n2 n3;left;have e14:=s4 _ _ e1;refine ax e14 (nl (by decide +kernel)) ?_;apply ⟨p,_,0,s,cs,rs,rfl,hc4,bc,br,by omega,by omega,by decide,by omega,fun H5 s5=>?_⟩;left;have s45:=s4.trans s5;refine ax (s5 _ _ e14) (nl (by decide +kernel)) ?_;apply ⟨p,s,cs,rs,rfl,hc4.mono s5,fun l5 n5=>?_⟩;have s6:=ai.new (o:=HO.lst (cs.map V.int)) n5;apply eG af fun l6 n6=>?_;rw [dq];have s7:=ai.new (o:=HO.lst ((cs.drop (k+1)).map V.int)) n6;have s67:=s6.trans s7;have q6:=af (H:=upd H5 l5 (HO.lst (cs.map V.int))) (a:=l6) (o:=HO.lst ((cs.drop (k+1)).map V.int));generalize upd (upd H5 l5 (HO.lst (cs.map V.int))) l6 (HO.lst ((cs.drop (k+1)).map V.int))=H7 at s67 q6 ⊢;apply ax (s67 _ _ (s5 _ _ e14)) (nl (by decide +kernel)) ?_;apply ⟨p,s,cs,rs,rfl,(hc4.mono s5).mono s67,fun l8 n8=>?_⟩;have s8:=ai.new (o:=HO.lst (rs.map V.int)) n8;apply ⟨l8,_,rs,rfl,af,by omega,fun l9 H9 s9 n9 q9=>?_⟩;left;intro y dy ny ndy ney;have sN:ai H9 (upd (upd H9 dy (.own y)) y (.ins t.a_ai dy [])):=(ai.new ndy).later ny;refine ⟨y,dy,l6,l9,_,cs.drop (k+1),shl rs ((k+1:Nat):Int),rfl,af,sN _ _ (s9 _ _ (s8 _ _ q6)),sN _ _ q9,kn _ _ _ _ _,jl bc (k+1),kU br _,fun HA kp hY=>⟨rfl,?_⟩⟩;have sA:ai H4 HA:=s5.trans (s67.trans (s8.trans (s9.trans (jr (c:=0) (r:=0) ny ndy kp))));apply ⟨by show 2<=BC; decide,fun tp ntp=>?_⟩;have sB:=ai.new (o:=HO.tup [V.ref x,V.ref y]) ntp;exact z tp x y _ (s4.trans (sA.trans sB)) af (hX.mono (sA.trans sB)) (hY.mono sB)
def wL (C NL:ς):Sp:=fun vs H Q E=>∃ (p:ς) (wy:Str) (k s:Int) (cs rs:List Int),vs=[.ref p,.str wy,.int k]/\aO C H p s cs rs/\(s=0\/s=1)/\bA cs/\bA rs /\
 ((∃ bs,fw wy cs rs bs/\0<=k/\k<bs.length/\∀ tp x y H',ai H H'->H' tp=some (.tup [.ref x,.ref y])->(wy="col"->aO C H' x s (cs.take k.toNat) rs/\aO C H' y (fS s cs rs (k+1) 0) (cs.drop (k.toNat+1)) (shl rs (k+1)))->(wy="row"->aO C H' x s cs (rs.take k.toNat)/\aO C H' y (fS s rs cs (k+1) 0) (shl cs (k+1)) (rs.drop (k.toNat+1)))->Q (.ref tp) H')\/(tW wy k cs rs/\E (.ref NL) none H))
theorem okx_br (T:Txt K mg t):aR P w K mg base (CX1 P w) 10 t.f_br t.d_br ["cloth","way","k"] (wL t.a_ai t.a_ae):=by
 refine T.F_br.ok1 sc_br (by walk_at "l") (fun _ _ _ s H vs Q E hr h=>?_)
 ·obtain ⟨p,wy,k,s,cs,rs,rfl,hc,sh,bc,br,h⟩:=h;obtain ⟨dx,a,b,e1,e2,e3⟩:=hc.ob;refine aF (aZ (bH (pv 0) T.cl_ai T.m_aK (okx_aK T) (rmo hr) T.b_aK .nil aP (aa (pv 1) (aa (pv 2) ae)))) fun _ _=>aF (aK (aN bD (pv 1) ao) (aj (az (aD (ok_aW T).up (rmo hr) rfl T.mg_aW T.F_aW.kp T.b_aW .nil aP (aa (pv 0) (aa (pv 2) ae))))) aB) fun _ _=>aF (aI 3 sc_br.nd (aD (ok_aW T).up (rmo hr) rfl T.mg_aW T.F_aW.kp T.b_aW .nil aP (aa (aD (ok_as T).up (rmo hr) rfl T.mg_as T.F_as.kp T.b_as .nil aP (aa (pv 0) ae)) (aa (pv 2) ae)))) fun _ _=>cH (az (bh (aa (aD (ok_as T).up (rmo hr) rfl T.mg_as T.F_as.kp T.b_as .nil aP (aa (aw (au K rfl) (pv 3) ag) ae)) (aa (aD (ok_as T).up (rmo hr) rfl T.mg_as T.F_as.kp T.b_as .nil aP (aa (aw (au K rfl) (pv 3) ag) ae)) ae)))) fun _ _=>?_;apply ax e1 (dj _ _ _ (by decide +kernel)) ?_;left;rcases h with ⟨bs,hw,h0,h1,z⟩ | ⟨n,q⟩
  ·refine ⟨p,wy,k,s,cs,rs,rfl,hc,.inl ⟨bs,hw,h0,h1,?_⟩⟩;obtain ⟨j,rfl⟩:∃ j:Nat,k=(j:Int):=⟨k.toNat,by omega⟩
   left;rcases hw with ⟨rfl,rfl⟩ | ⟨rfl,rfl⟩
   ·rw [aX (rfl:("col":Str)="col")];left;exact ⟨p,j,s,_,rs,rfl,hc,sh,bc,br,by omega,fun tp x y H' s1 et hx hy=>z tp x y H' s1 et (fun _=>⟨hx,hy⟩) fun e=>absurd e.symm u3⟩
   ·rw [bI u3];apply ⟨p,s,cs,_,rfl,hc,sh,bc,br,fun q H1 s1 hq=>?_⟩;apply ⟨q,j,s,_,cs,rfl,hq,sh,br,bc,by omega,fun tp x y H2 s2 et hx hy=>?_⟩;apply aq (SqT.of et) (v:=.ref x) rfl ?_;apply ⟨x,s,_,cs,rfl,hx,sh,jm br j,bc,fun x' H3 s3 hx'=>?_⟩;apply aq (SqT.of (s3 _ _ et)) (v:=.ref y) rfl ?_;apply ⟨y,_,_,_,rfl,hy.mono s3,kn _ _ _ _ _,jl br (j+1),kU bc _,fun y' H4 s4 hy'=>?_⟩;apply ⟨by show 2<=BC; decide,fun tq ntq=>?_⟩;have s5:=ai.new (o:=HO.tup [V.ref x',V.ref y']) ntq;exact z tq x' y' _ (s1.trans (s2.trans (s3.trans (s4.trans s5)))) af (fun e=>absurd e u3) fun _=>⟨hx'.mono (s4.trans s5),hy'.mono s5⟩
  ·exact ⟨p,wy,k,s,cs,rs,rfl,hc,.inr ⟨n,q⟩⟩
def sp_bc (C:ς):Sp:=fun vs H Q _=>∃ (e:ς) (n:Nat),vs=[.ref e,.int (n:Int)]/\n<100/\H e=some (gg e C none) /\
 ∀ d,H d=none->d≠e->Q .non (upd (upd H d (XdO d [("at",.int (n:Int))])) e (gg e C (some d)))
theorem ok_bc (T:Txt K mg t):aR P w K mg base CX0 1 t.f_bc t.d_bc ["self","at"] (sp_bc t.a_ah):=by
 refine T.F_bc.ok sc_bc (by walk_at "l") (fun _ _ _ s H vs Q E hr h=>?_)
 ·obtain ⟨e,n,rfl,hn,he,k⟩:=h;refine ⟨_,(aH (aZ (AH rfl T.mg_a5 T.bi_a5 (aa (pv 0) (aa (CF (PEs.cons ao (PEs.cons (EJ (pv 1)) (PEs.cons ao PEs.nil))) (by decide)) ae)))) (aj (CJ (pv 0) (pv 1) rfl))),?_⟩;apply A4 ?_;apply C6 ?_;refine ⟨_,rfl,by decide,?_⟩;refine Fe ?_;apply ⟨n,rfl,hn,fun x1 l1=>⟨x1,rfl,l1,?_⟩⟩;refine ⟨_,rfl,by decide,fun x2=>?_⟩;apply ⟨e,t.a_ah,none,_,rfl,he,T.mx_ah.ei,?_⟩;apply A1 ?_;left;exact ⟨e,t.a_ah,rfl,T.mx_ah.ei,T.nx_Unfit_at,.inl ⟨he,fun d hd ne=>k d hd ne⟩⟩
noncomputable def ir (rs rs2:List Int) (n:Int) (k:Nat):Bool:=decide ((rs.getD k 0+n+rs2.getD k 0)%2=1)
theorem Ce {rs rs2:List Int} {n:Int} {k:Nat} (b1:bA rs) (b2:bA rs2) (h1:k<rs.length) (h2:k<rs2.length):ir rs rs2 n k=!decide (rs2.getD k 0=(shl rs n).getD k 0):=by
 unfold ir;rw [Dx h1];have p:=vI b1 h1;have q:=vI b2 h2;generalize rs.getD k 0=x at p ⊢;generalize rs2.getD k 0=y at q ⊢;rw [<- decide_not];exact decide_eq_decide.mpr (by omega)
def Eh (cs rs cs2 rs2:List Int):Prop:=rs.length=rs2.length/\cs.length+cs2.length+1<=39
theorem qa {cs cs2:List Int} {b:Int} (h:bA cs) (h2:bA cs2) (hb:b=0\/b=1) (hl:cs.length+cs2.length+1<=39):bA (cs++b::cs2):=⟨by rw [Av,HM]; omega,fun z hz=>by
 rcases Hj.mp hz with q | q
 ·exact h.2 z q
 ·rcases Ξ.mp q with rfl | q
  ·exact hb
  ·exact h2.2 z q⟩
def mS (BS UF:ς) (s:Int) (cs rs:List Int) (s2:Int) (cs2 rs2:List Int) (H:Hp) (Q:List Int->Hp->ς->Prop) (E:XK):Prop :=
 (¬ Eh cs rs cs2 rs2->∀ H',ai H H'->E (.ref BS) none H') /\
 (Eh cs rs cs2 rs2->∀ k:Nat,k<rs.length->ir rs rs2 ((cs.length:Int)+1) k=true->(∀ j:Nat,j<k->ir rs rs2 ((cs.length:Int)+1) j=false)->∀ d H',ai H H'->H' d=some (XdO d [("at",.int (k:Int))])->E (.ref UF) (some d) H') /\
 (Eh cs rs cs2 rs2->(∀ j:Nat,j<rs.length->ir rs rs2 ((cs.length:Int)+1) j=false)->∀ x H',ai H H'->Q (cs++(fS s cs rs (cs.length:Nat) 0+s2)%2::cs2) H' x)
def oP (C BS UF:ς):Sp:=fun vs H Q E=>∃ (p q:ς) (s s2:Int) (cs rs cs2 rs2:List Int),vs=[.ref p,.ref q]/\aO C H p s cs rs/\aO C H q s2 cs2 rs2/\(s=0\/s=1)/\bA cs/\bA rs/\bA cs2/\bA rs2 /\
 mS BS UF s cs rs s2 cs2 rs2 H (fun cs' H' x=>aO C H' x s cs' rs->Q (.ref x) H') E
theorem okx_aA (T:Txt K mg t):aR P w K mg base (CX1 P w) 9 t.f_aA t.d_aA ["one","other"] (oP t.a_ai t.a_ac t.a_ah):=by
  have GX_aq:=(okx_aq (P:=P) (w:=w) (base:=base) T).one;refine T.F_aA.ok1 sc_aA (fun vs H Q E h=>?_) (fun cdv A outer s H vs Q E hr h=>?_)
  · obtain ⟨p,q,s,s2,cs,rs,cs2,rs2,rfl,_⟩:=h; rfl
  · obtain ⟨p,q,s,s2,cs,rs,cs2,rs2,rfl,hp,hq,sh,bc,br,bc2,br2,zs,zu,z⟩:=h
    have lc:=bc.1;have lr:=br.1;have lc2:=bc2.1;have lr2:=br2.1;obtain ⟨dx,a,b,e1,e2,e3⟩:=hp.ob;obtain ⟨dx',a',b',f1,f2,f3⟩:=hq.ob;have nl:∀ {s:Int} {a b:ς} {w h:Int} {m:Str},NoF m->(cfl s a b w h).lookup m=none:=fun x=>dj _ _ _ x;refine aF (aK (PW.pt (fK (aN gG (aT (pv 0) T.cl_ai T.m_aF (ok_aF T).up (rmo hr) T.b_aF .nil aP) (aT (pv 1) T.cl_ai T.m_aF (ok_aF T).up (rmo hr) T.b_aF .nil aP)) (eF (dR (cm (aD (ok_bi T).up (rmo hr) rfl T.mg_bi T.F_bi.kp T.b_bi .nil aP (aa (ay bf (aT (pv 0) T.cl_ai T.m_ax (ok_ax T).up (rmo hr) T.b_ax .nil aP) (aT (pv 1) T.cl_ai T.m_ax (ok_ax T).up (rmo hr) T.b_ax .nil aP)) ae))))))) (aj (b7 T.mg_ac T.x_ac BF rfl rfl (fun _ _ _ _ _ _ _ _ I m q=>gu I m q) (aa ao ae))) aB) fun _ _=>aF (aI 2 sc_aA.nd (aD (ok_bg T).up (rmo hr) rfl T.mg_bg T.F_bg.kp T.b_bg .nil aP (aa (aT (pv 0) T.cl_ai T.m_ar (ok_ar T).up (rmo hr) T.b_ar .nil aP) (aa (aT (pv 0) T.cl_ai T.m_ax (ok_ax T).up (rmo hr) T.b_ax .nil aP) ae)))) fun _ _=>aF (fG N9 rfl (CG rfl T.no_bB (aa (aT (pv 1) T.cl_ai T.m_ar (ok_ar T).up (rmo hr) T.b_ar .nil aP) ae)) (ju (n:=2) K rfl rfl (cZ (aY (i:=3) sc_aA.nd rfl (IQ rfl)) (cZ (aY (i:=4) sc_aA.nd rfl (IQ rfl)) jv))) (aj (aK (aN gG (pv 4) (aw (aG K rfl) (pv 2) (pv 3))) (aj (yR T.mx_ah (ok_bc T) (rmo hr) rfl T.mg_ah T.b_bc rfl rfl (fun _ _ _ _ _ _ _ _ I a b c d e f g h=>x6 I a b c d e f g h) (aa (pv 3) ae))) aB))) fun _ _=>aF (aI 5 sc_aA.nd (ay bB (ay bf (bH (pv 0) T.cl_ai T.m_at (okx_at T) (rmo hr) T.b_at .nil aP (aa (ay fE (aT (pv 0) T.cl_ai T.m_ax (ok_ax T).up (rmo hr) T.b_ax .nil aP) ag) (aa ag ae))) (aT (pv 1) T.cl_ai T.m_ap (ok_ap T).up (rmo hr) T.b_ap .nil aP)) ag)) fun _ _=>cH (az (jt T.mk_ai GX_aq (rmo hr) rfl T.mg_ai T.b_aq .nil aP (aa (aT (pv 0) T.cl_ai T.m_ap (ok_ap T).up (rmo hr) T.b_ap .nil aP) (aa (ay cP (ay cP (aT (pv 0) T.cl_ai T.m_au (ok_au T).up (rmo hr) T.b_au .nil aP) (bO (aa (pv 5) ae))) (aT (pv 1) T.cl_ai T.m_au (ok_au T).up (rmo hr) T.b_au .nil aP)) (aa (aT (pv 0) T.cl_ai T.m_ar (ok_ar T).up (rmo hr) T.b_ar .nil aP) ae))))) fun _ _=>?_;apply ax e1 (nl (by decide +kernel)) ?_;apply ⟨p,s,cs,rs,rfl,hp,?_⟩;apply ax f1 (nl (by decide +kernel)) ?_;apply ⟨q,s2,cs2,_,rfl,hq,?_⟩;left;by_cases hr2:rs.length=rs2.length
    rotate_left
    · rw [bI (by omega:¬ ((rs.length:Int)+1=(rs2.length:Int)+1))]
      left;exact ⟨by show 1<=BC; decide,zs (fun x=>hr2 x.1) _ (ai.refl _)⟩
    rw [aX (by omega:((rs.length:Int)+1=(rs2.length:Int)+1))];apply ax e1 (nl (by decide +kernel)) ?_;apply ⟨p,s,cs,rs,rfl,hp,?_⟩;apply ax f1 (nl (by decide +kernel)) ?_;apply ⟨q,s2,cs2,_,rfl,hq,?_⟩;apply ⟨_,rfl,?_⟩;by_cases lj:cs.length+cs2.length+1<=39
    rotate_left
    · have es:fC ((cs.length:Int)+1+((cs2.length:Int)+1))=false:=by
        unfold fC;rw [bI (by omega:¬ (cs.length:Int)+1+((cs2.length:Int)+1)<41),LA]
      rw [es];left;exact ⟨by show 1<=BC; decide,zs (fun x=>lj x.2) _ (ai.refl _)⟩
    have zu:=zu ⟨hr2,lj⟩;have z:=z ⟨hr2,lj⟩;clear zs
    have es:fC ((cs.length:Int)+1+((cs2.length:Int)+1))=true:=by
      unfold fC;rw [aX (by omega),aX (by omega)]; rfl
    rw [es];apply ax e1 (nl (by decide +kernel)) ?_;apply ⟨p,s,cs,rs,rfl,hp,fun l1 n1=>?_⟩;have s1:=ai.new (o:=HO.lst (rs.map V.int)) n1;apply ax (s1 _ _ e1) (nl (by decide +kernel)) ?_;apply ⟨p,s,cs,rs,rfl,hp.mono s1,?_⟩;apply ⟨l1,_,rs,rfl,af,by omega,fun l2 H2 s2' n2 q2=>?_⟩;have s12:=s1.trans s2';clear s1 s2' n1 n2;left
    first | refine u5 ?_ | skip
    apply ax (s12 _ _ f1) (nl (by decide +kernel)) ?_;apply ⟨q,_,cs2,_,rfl,hq.mono s12,fun l3 n3=>?_⟩;have s3:=ai.new (o:=HO.lst (rs2.map V.int)) n3;have q3:=af (H:=H2) (a:=l3) (o:=HO.lst (rs2.map V.int));generalize upd H2 l3 (HO.lst (rs2.map V.int))=H3 at s3 q3 ⊢;apply ⟨l3,rfl,⟨_,SqL.of q3⟩,?_⟩;have s13:=s12.trans s3;have q2:=s3 _ _ q2;refine yo (K:=K) (a:=l3) (xs:=rs2.map V.int) (fun i σ' H'=>∃ (o3 o4:Option V),σ'=[some (.ref p),some (.ref q),some (.ref l2),o3,o4,none]/\ai H3 H'/\∀ j:Nat,j<i->ir rs rs2 ((cs.length:Int)+1) j=false)
      ⟨none,none,rfl,ai.refl _,fun j hj=>absurd hj (Nat.not_lt_zero _)⟩ (fun i σ' H' _ ⟨_,_,_,s6,_⟩=>SqL.of (s6 _ _ q3)) ?_ ?_
    · rintro i x σ' H4 t4 hx ⟨o3,o4,rfl,s4,nb⟩ n4
      have hi:i<rs2.length:=by have:=(F_.mp hx).1; rwa [ξ] at this
      have ex:x=V.int (rs2.getD i 0):=by
        rw [BD,E_ hi] at hx;rw [Hl,E_ hi];exact (IT hx).symm
      subst ex;have s5:=ai.new (o:=HO.tup [V.int (i:Nat),V.int (rs2.getD i 0)]) n4;refine gZ af rfl ?_;apply aS (SqL.of (s5 _ _ (s4 _ _ q2))) (cN (i:=(i:Nat)) (by omega) (by rw [xQ]; omega)) ?_;rw [G_];left;have bi:decide (rs2.getD i 0=(shl rs ((cs.length:Int)+1)).getD i 0)=!ir rs rs2 ((cs.length:Int)+1) i:=by rw [Ce br br2 (by omega) hi,Bool.not_not]
      rw [bi]
      cases hb:ir rs rs2 ((cs.length:Int)+1) i with
      | false =>
        apply ⟨_,_,rfl,s4.trans s5,fun j hj=>?_⟩;by_cases h:j=i
        · rw [h]; exact hb
        · exact nb j (by omega)
      | true =>
        apply yZ ?_;apply ⟨by show 1<=BC; decide,fun e he=>⟨e,i,rfl,by omega,af,fun d hd ne=>⟨rfl,some d,af,?_⟩⟩⟩;rw [zU (C:=t.a_ah) he ne];have hd':upd H4 t4 (HO.tup [V.int (i:Nat),V.int (rs2.getD i 0)]) d=none:=by rw [aE ne] at hd; exact hd
        exact zu i (by omega) hb nb d _ (s13.trans (s4.trans (s5.trans (ai.new hd')))) af
    · rintro σ' H4 ⟨o3,o4,rfl,s4,nb⟩
      have z:=z (fun j hj=>nb j (by rw [ξ]; omega));clear nb zu;have s14:=s13.trans s4;clear s12 s13 s3 s4 q2 q3 n3;have hp4:=hp.mono s14;have hq4:=hq.mono s14;have e14:=s14 _ _ e1;have f14:=s14 _ _ f1;apply ax e14 (nl (by decide +kernel)) ?_;apply ax e14 (nl (by decide +kernel)) ?_;apply ⟨p,s,cs,rs,rfl,hp4,?_⟩;left;rw [show ((cs.length:Int)+1 - 1)=(cs.length:Nat) by omega];refine ⟨p,_,0,s,cs,rs,rfl,hp4,bc,br,.inl ⟨⟨⟨by omega,by omega⟩,by decide,by omega⟩,fun H5 s5=>?_⟩⟩;apply ax (s5 _ _ f14) (nl (by decide +kernel)) ?_;apply ⟨q,s2,cs2,_,rfl,hq4.mono s5,?_⟩;apply bV (by decide) ?_;have hb:(fS s cs rs (cs.length:Nat) 0+s2)%2=0\/(fS s cs rs (cs.length:Nat) 0+s2)%2=1:=by omega
      generalize (fS s cs rs (cs.length:Nat) 0+s2)%2=bw at hb z ⊢;have s15:=s14.trans s5;clear s14 hp4 hq4 e14 f14 s5;apply ax (s15 _ _ e1) (nl (by decide +kernel)) ?_;apply ⟨p,s,cs,rs,rfl,hp.mono s15,?_⟩;apply ax (s15 _ _ e1) (nl (by decide +kernel)) ?_;apply ⟨p,s,cs,rs,rfl,hp.mono s15,fun l4 n4=>?_⟩;have t4:=ai.new (o:=HO.lst (cs.map V.int)) n4;have q4:=af (H:=H5) (a:=l4) (o:=HO.lst (cs.map V.int));generalize upd H5 l4 (HO.lst (cs.map V.int))=H6 at t4 q4 ⊢;apply ⟨by show 1<=BC; decide,fun l5 n5=>?_⟩;have t5:=ai.new (o:=HO.lst [V.int bw]) n5;have q5:=af (H:=H6) (a:=l5) (o:=HO.lst [V.int bw]);generalize upd H6 l5 (HO.lst [V.int bw])=H7 at t5 q5 ⊢;have small:∀ n:Nat,n<=100->n<=sizeLine:=fun n hn=>Mz (aQ (by omega));refine wu (t5 _ _ q4) q5 (small _ (by rw [ξ]; show _+1<=100; omega)) fun l6 n6=>?_;have t6:=ai.new (o:=HO.lst (cs.map V.int++[V.int bw])) n6;have q6:=af (H:=H7) (a:=l6) (o:=HO.lst (cs.map V.int++[V.int bw]));generalize upd H7 l6 (HO.lst (cs.map V.int++[V.int bw]))=H8 at t6 q6 ⊢;have s18:=s15.trans (t4.trans (t5.trans t6));clear t4 t5 t6 q4 q5 n4 n5 n6 s15;apply ax (s18 _ _ f1) (nl (by decide +kernel)) ?_;apply ⟨q,s2,cs2,_,rfl,hq.mono s18,fun l7 n7=>?_⟩;have t7:=ai.new (o:=HO.lst (cs2.map V.int)) n7;have q7:=af (H:=H8) (a:=l7) (o:=HO.lst (cs2.map V.int));generalize upd H8 l7 (HO.lst (cs2.map V.int))=H9 at t7 q7 ⊢;refine wu (t7 _ _ q6) q7 (small _ (by rw [Av,ξ,ξ]; show _+1+_<=100; omega)) fun l8 n8=>?_;rw [show cs.map V.int++[V.int bw]++cs2.map V.int=(cs++bw::cs2).map V.int by rw [HN,Ho,Iw]; rfl];have t8:=ai.new (o:=HO.lst ((cs++bw::cs2).map V.int)) n8;have q8:=af (H:=H9) (a:=l8) (o:=HO.lst ((cs++bw::cs2).map V.int));generalize upd H9 l8 (HO.lst ((cs++bw::cs2).map V.int))=HA at t8 q8 ⊢;have s1A:=s18.trans (t7.trans t8);apply ax (s1A _ _ e1) (nl (by decide +kernel)) ?_;apply ⟨p,s,cs,rs,rfl,hp.mono s1A,fun l9 n9=>?_⟩;have t9:=ai.new (o:=HO.lst (rs.map V.int)) n9;have q9:=af (H:=HA) (a:=l9) (o:=HO.lst (rs.map V.int));generalize upd HA l9 (HO.lst (rs.map V.int))=HB at t9 q9 ⊢;left;intro x dxx nx ndx nex;have sM:ai HB (upd (upd HB dxx (.own x)) x (.ins t.a_ai dxx [])):=(ai.new ndx).later nx;have bj:=qa bc bc2 hb lj;refine ⟨x,dxx,l8,l9,s,cs++bw::cs2,rs,rfl,af,sM _ _ (t9 _ _ q8),sM _ _ q9,by have:=bj.1; omega,by omega,.inr (.inr ⟨⟨bj.1,br.1⟩,bA.ok sh bj br,fun HC kp hX=>⟨rfl,?_⟩⟩)⟩;exact z x HC (s1A.trans (t9.trans (jr (c:=0) (r:=0) nx ndx kp))) hX
def Meets (wy:Str) (cs rs as bs:List Int):Prop:=(wy="col"/\as=rs/\bs=cs)\/(wy="row"/\as=cs/\bs=rs)
def lQ (C BS UF NL:ς):Sp:=fun vs H Q E=>∃ (p q:ς) (wy:Str) (s s2:Int) (cs rs cs2 rs2:List Int),vs=[.ref p,.ref q,.str wy]/\aO C H p s cs rs/\aO C H q s2 cs2 rs2/\(s=0\/s=1)/\(s2=0\/s2=1)/\bA cs/\bA rs/\bA cs2/\bA rs2 /\
 (wy="col"->mS BS UF s cs rs s2 cs2 rs2 H (fun cs' H' x=>aO C H' x s cs' rs->Q (.ref x) H') E) /\
 (wy="row"->mS BS UF s rs cs s2 rs2 cs2 H (fun rs' H' x=>aO C H' x s cs rs'->Q (.ref x) H') E) /\
 (¬ wy="col"->¬ wy="row"->E (.ref NL) none H)
theorem okx_az (T:Txt K mg t):aR P w K mg base (CX1 P w) 10 t.f_az t.d_az ["one","other","way"] (lQ t.a_ai t.a_ac t.a_ah t.a_ae):=by
 refine T.F_az.ok1 sc_az (by walk_at "l") (fun _ _ _ s H vs Q E hr h=>?_)
 ·obtain ⟨p,q,wy,s,s2,cs,rs,cs2,rs2,rfl,hp,hq,sh,sh2,bc,br,bc2,br2,hc,hrw,hn⟩:=h;refine aF (aK (aN bD (pv 2) ao) (aj (az (aD (okx_aA T) (rmo hr) rfl T.mg_aA T.F_aA.kp T.b_aA .nil aP (aa (pv 0) (aa (pv 1) ae))))) aB) fun _ _=>aF (aK (aN bD (pv 2) ao) (aj (az (aD (ok_as T).up (rmo hr) rfl T.mg_as T.F_as.kp T.b_as .nil aP (aa (aD (okx_aA T) (rmo hr) rfl T.mg_aA T.F_aA.kp T.b_aA .nil aP (aa (aD (ok_as T).up (rmo hr) rfl T.mg_as T.F_as.kp T.b_as .nil aP (aa (pv 0) ae)) (aa (aD (ok_as T).up (rmo hr) rfl T.mg_as T.F_as.kp T.b_as .nil aP (aa (pv 1) ae)) ae))) ae)))) aB) fun _ _=>cH (b7 T.mg_ae T.x_ae BF rfl rfl (fun _ _ _ _ _ _ _ _ I m q=>gu I m q) (aa ao ae)) fun _ _=>?_;apply fT (fun h0=>?_) (fun h0=>?_)
  ·left;exact ⟨p,q,s,s2,cs,rs,cs2,rs2,rfl,hp,hq,sh,bc,br,bc2,br2,hc (of_decide_eq_true h0)⟩
  ·apply fT (fun h1=>?_) (fun h1=>?_)
   ·have ⟨zs,zu,z⟩:=hrw (of_decide_eq_true h1);apply ⟨p,s,cs,rs,rfl,hp,sh,bc,br,fun x1 H1 s1 hx1=>?_⟩;apply ⟨q,s2,cs2,rs2,rfl,hq.mono s1,sh2,bc2,br2,fun x2 H2 s2' hx2=>?_⟩;left;have s12:=s1.trans s2';refine ⟨x1,x2,s,s2,rs,cs,rs2,cs2,rfl,hx1.mono s2',hx2,sh,br,bc,br2,bc2,fun n H3 s3=>zs n H3 (s12.trans s3),fun o k hk b1 b2 d H3 s3 e3=>zu o k hk b1 b2 d H3 (s12.trans s3) e3,fun o nb x H3 s3 hx=>?_⟩;left;have bj:=qa br br2 (by omega:(fS s rs cs (rs.length:Nat) 0+s2)%2=0\/(fS s rs cs (rs.length:Nat) 0+s2)%2=1) o.2;exact ⟨x,s,_,cs,rfl,hx,sh,bj,bc,fun y H4 s4 hy=>z o nb y H4 (s12.trans (s3.trans s4)) hy⟩
   ·left;exact ⟨by show 1<=BC; decide,hn (fun x=>h0 (aX x)) fun x=>h1 (aX x)⟩
noncomputable def oE (c:Nat):Bool:=!decide ((sgn c).cps.toList<(("a":Str)).cps.toList)&&!decide ((("z":Str)).cps.toList<(sgn c).cps.toList)
noncomputable def bR (x:Str):Bool:=decide (0<x.cps.size)&&decide (x.cps.size<=12)&&x.cps.toList.all oE
def sp_bs:Sp:=fun vs H Q _=>∃ x:Str,vs=[.str x]/\x.cps.size<=4000/\∀ H',ai H H'->Q (.bl (bR x)) H'
theorem ok_bs (T:Txt K mg t):aR P w K mg base CX0 1 t.f_bs t.d_bs ["name"] sp_bs:=by
 refine T.F_bs.ok sc_bs (by walk_at "l") (fun _ _ _ s H vs Q E hr h=>?_)
 ·obtain ⟨x,rfl,hz,k⟩:=h;refine ⟨_,(aj (az (jR (nO nN DU ag (av gM rfl T.no_len (by rfl) (aa (pv 0) ae)) (dv (v:=.int 12) rfl T.mg_LONGEST_NAME ⟨_,rfl⟩)) (jS (av (gL K rfl rfl) rfl T.no_all (by rfl) (aa (cT (N:=["sign"]) (cap:=[none]) rfl ⟨rfl,rfl,rfl,rfl,rfl,rfl⟩ (jw (pv 0)) (fun _ _ _=>(aY (i:=0) (show (["sign"]:List Str).Nodup by decide +kernel) rfl (IQ rfl))) (fun _ _ _=>cD) (fun _ _ _=>(nO Ay Ay ao (pv 0) ao))) ae)))))),?_⟩;have hz':x.length<=sizeLine:=BA hz (by decide);apply hG hz' ?_;left
  have e0:bR x=(decide ((0:Int)<(x.length:Nat))&&(decide (((x.length:Nat):Int)<=12)&&x.cps.toList.all oE)):=by
   have a1:decide (0<x.cps.size)=decide ((0:Int)<(x.length:Nat)):=decide_eq_decide.mpr (by show 0<x.cps.size↔(0:Int)<(x.cps.size:Nat); omega);have a2:decide (x.cps.size<=12)=decide (((x.length:Nat):Int)<=12):=decide_eq_decide.mpr (by show x.cps.size<=12↔((x.cps.size:Nat):Int)<=12; omega);unfold bR;rw [a1,a2,Bool.and_assoc]
  rw [e0] at k;generalize decide ((0:Int)<(x.length:Nat))=u1 at k ⊢
  cases u1 with
  | false =>
   left;exact k _ (ai.refl _)
  | true =>
   left;generalize decide (((x.length:Nat):Int)<=12)=u2 at k ⊢
   cases u2 with
   | false =>
    left;exact k _ (ai.refl _)
   | true =>
    apply ⟨x,rfl,fun l nl=>?_⟩;refine dU ((x.cps.toList.map oE).map V.bl) (by rw [ξ,ξ,HK]) hz nl (fun i c y o H' Q' hc hy s5 q=>?_) (fun H1 s1 e1=>?_)
    ·rw [BD,BD,IK,hc] at hy
     cases hy;left;unfold oE at q;generalize decide ((sgn c).cps.toList<(("a":Str)).cps.toList)=v1 at q ⊢
     cases v1 with
     | true =>
      left;exact q _ (ai.refl _)
     | false =>
      left;exact q _ (ai.refl _)
    ·apply iL e1 ?_;left;rw [K1];exact k H1 s1
noncomputable abbrev Clo:=Int×List Int×List Int
noncomputable abbrev Bk:=List (Str×Clo)
def NoT (H:Hp) (S:List ς):Prop:=∀ x∈S,∀ xs,H x≠some (.tup xs)
theorem w4 {S:List ς} {H H':Hp} (m:bX S H H') (n:NoT H S) {b:ς} {xs:List V} (e:H b=some (.tup xs)):H' b=some (.tup xs):=m b _ e fun z=>n b z xs e
def iq (C:ς) (H:Hp) (v:V) (c:Clo):Prop:=∃ x,v=.ref x/\aO C H x c.1 c.2.1 c.2.2/\(c.1=0\/c.1=1)/\bA c.2.1/\bA c.2.2
def PwB (C:ς) (H:Hp) (kvs:List (Key×V)) (bk:Bk):Prop:=Paired (fun (kv:Key×V) (nc:Str×Clo)=>kv.1=Bm nc.1/\iq C H kv.2 nc.2) kvs bk
def oV (C:ς) (H:Hp) (d:ς) (bk:Bk):Prop:=∃ kvs,H d=some (.dK kvs)/\PwB C H kvs bk
def PwD (C:ς) (H:Hp) (ds:List ς) (bks:List Bk):Prop:=ds.length=bks.length/\∀ (i:Nat) d bk,ds[i]?=some d->bks[i]?=some bk->oV C H d bk
abbrev GZ (m:Str):Prop:=(¬ m="cloths")/\(¬ m="ahead_of_deeds")/\¬ m="behind_undone"
structure CL (fs:List (Str×V)) (d la lb:ς):Prop where
 c:fs.lookup ("cloths":Str)=some (.ref d)
 a:fs.lookup ("ahead_of_deeds":Str)=some (.ref la)
 b:fs.lookup ("behind_undone":Str)=some (.ref lb)
 no:∀ m,GZ m->fs.lookup m=none
 len:fs.length<=3
structure dF (C CH:ς) (H:Hp) (p la lb:ς) (past:List Bk) (now:Bk) (ahead:List Bk):Prop where
 ob:∃ dx fs d,H p=some (.ins CH dx fs)/\CL fs d la lb/\oV C H d now
 pa:∃ ds,H la=some (.lst (ds.map V.ref))/\PwD C H ds past
 ah:∃ ds,H lb=some (.lst (ds.map V.ref))/\PwD C H ds ahead
 ne:la≠lb
def Apt (C:ς) (H:Hp) (S:List ς):Prop:=∀ x∈S,(∀ xs,H x≠some (.tup xs))/\(∀ kvs,H x≠some (.dK kvs))/\∀ dx s a b w h,H x≠some (.ins C dx (cfl s a b w h))
theorem Apt.not {C:ς} {H:Hp} {S:List ς} (h:Apt C H S):NoT H S:=fun x hx=>(h x hx).1
theorem iq.but {C:ς} {S:List ς} {H H':Hp} {v:V} {c:Clo} (h:iq C H v c) (m:bX S H H') (n:Apt C H S):iq C H' v c:=by
 obtain ⟨x,rfl,hc,b⟩:=h;obtain ⟨dx,a,b',e1,e2,e3⟩:=hc.ob;exact ⟨x,rfl,⟨dx,a,b',m _ _ e1 fun z=>(n x z).2.2 _ _ _ _ _ _ e1,w4 m n.not e2,w4 m n.not e3⟩,b⟩
theorem PwB.but {C:ς} {S:List ς} {H H':Hp} {kvs:List (Key×V)} {bk:Bk} (h:PwB C H kvs bk) (m:bX S H H') (n:Apt C H S):PwB C H' kvs bk:=Paired.mapP h fun _ _ z=>⟨z.1,z.2.but m n⟩
theorem oV.but {C:ς} {S:List ς} {H H':Hp} {d:ς} {bk:Bk} (h:oV C H d bk) (m:bX S H H') (n:Apt C H S):oV C H' d bk:=by
 obtain ⟨kvs,e,p⟩:=h;exact ⟨kvs,m _ _ e fun z=>(n d z).2.1 _ e,p.but m n⟩
theorem PwD.but {C:ς} {S:List ς} {H H':Hp} {ds:List ς} {bks:List Bk} (h:PwD C H ds bks) (m:bX S H H') (n:Apt C H S):PwD C H' ds bks:=⟨h.1,fun i d bk h1 h2=>(h.2 i d bk h1 h2).but m n⟩
theorem Apt.nil {C:ς} {H:Hp}:Apt C H []:=fun x hx=>nomatch hx
theorem oV.mono {C:ς} {H H':Hp} {d:ς} {bk:Bk} (s:ai H H') (h:oV C H d bk):oV C H' d bk:=h.but (s.butL []) Apt.nil
theorem PwD.mono {C:ς} {H H':Hp} {ds:List ς} {bks:List Bk} (s:ai H H') (h:PwD C H ds bks):PwD C H' ds bks:=h.but (s.butL []) Apt.nil
theorem dF.mono {C CH:ς} {H H':Hp} {p la lb:ς} {past ahead:List Bk} {now:Bk} (s:ai H H') (h:dF C CH H p la lb past now ahead):dF C CH H' p la lb past now ahead :=
 ⟨let ⟨dx,fs,d,e1,e2,e3⟩:=h.ob; ⟨dx,fs,d,s _ _ e1,e2,e3.mono s⟩,let ⟨ds,e1,e2⟩:=h.pa; ⟨ds,s _ _ e1,e2.mono s⟩,let ⟨ds,e1,e2⟩:=h.ah; ⟨ds,s _ _ e1,e2.mono s⟩,h.ne⟩
theorem Eo {s w h:Int} {a b:ς}:(cfl s a b w h).lookup ("cloths":Str)=none:=dj _ _ _ (by decide +kernel)
theorem dF.apt {C CH:ς} {H:Hp} {p la lb:ς} {past ahead:List Bk} {now:Bk} (h:dF C CH H p la lb past now ahead):Apt C H [p,la,lb]:=fun x hx=>by
 obtain ⟨dx,fs,d,e1,cl,_⟩:=h.ob;obtain ⟨ds,e2,_⟩:=h.pa;obtain ⟨as,e3,_⟩:=h.ah;symm at hx;rcases hx with rfl | rfl | rfl
 ·rw [e1];refine ⟨fun _ z=>(by cases z),fun _ z=>(by cases z),fun dx' s a b w h z=>?_⟩;injection z with z;injection z with _ _ z;have:=cl.c
  rw [z,Eo] at this
  cases this
 ·rw [e2];exact ⟨fun _ z=>(by cases z),fun _ z=>(by cases z),fun _ _ _ _ _ _ z=>(by cases z)⟩
 ·rw [e3];exact ⟨fun _ z=>(by cases z),fun _ z=>(by cases z),fun _ _ _ _ _ _ z=>(by cases z)⟩
noncomputable def eD (bk:Bk):List V:=bk.map fun nc=>V.str nc.1
theorem PwB.keys {C:ς} {H:Hp} {kvs:List (Key×V)} {bk:Bk} (h:PwB C H kvs bk):kvs.map (·.1)=bk.map fun nc=>Bm nc.1:=by
 induction h with
 | nil=>rfl
 | cons r _ ih=>rw [Ho,Ho,ih,r.1]
def sp_aB (C CH:ς):Sp:=fun vs H Q _=>∃ (p la lb:ς) (past ahead:List Bk) (now:Bk),vs=[.ref p]/\dF C CH H p la lb past now ahead/\∀ l,H l=none->Q (.ref l) (upd H l (.lst (eD now)))
theorem ok_aB (T:Txt K mg t):aR P w K mg base CX0 1 t.f_aB t.d_aB ["self"] (sp_aB t.a_ai t.a_ak):=by
 refine T.F_aB.ok sc_aB (by walk_at "l") (fun _ _ _ s H vs Q E hr h=>?_)
 ·obtain ⟨p,la,lb,past,ahead,now,rfl,hc,q⟩:=h;obtain ⟨dx,fs,d,e1,cl,kvs,e2,pw⟩:=hc.ob;refine ⟨_,(aj (az (aW (jn rfl) rfl T.no_list (by rfl) (aa (cq K rfl (pv 0) rfl) ae)))),?_⟩;apply cu e1 T.cl_ak T.naC_cloths cl.c ?_;apply ⟨d,kvs,rfl,e2,fun l nl=>?_⟩
  have e:(kvs.map fun p=>kV p.1)=eD now:=by
   have:=congrArg (Jp kV) pw.keys
   rw [IV,IV] at this;exact this
  rw [e];left;exact q l nl
noncomputable def aL (bk:Bk) (n:Str):Option Clo:=(bk.find? fun nc=>decide (nc.1=n)).map (·.2)
noncomputable def bG (bk:Bk) (n:Str) (c:Clo):Bk:=if (bk.any fun nc=>decide (nc.1=n))=true then bk.map (fun nc=>if nc.1=n then (nc.1,c) else nc) else bk++[(n,c)]
noncomputable def fz (bk:Bk) (n:Str):Bk:=bk.filter fun nc=>decide (nc.1≠n)
theorem dZ {k:Key} {a n:Str} (h:k=Bm a):k=Bm n↔a=n:=by subst h; exact ⟨fun z=>by injection z,fun z=>by rw [z]⟩
section
variable {C:ς} {H:Hp} {kvs:List (Key×V)} {bk:Bk}
theorem PwB.get (h:PwB C H kvs bk) (n:Str):(eX kvs (Bm n)=none/\aL bk n=none)\/∃ v c,eX kvs (Bm n)=some v/\aL bk n=some c/\iq C H v c:=by
 induction h with
 | nil=>exact .inl ⟨rfl,rfl⟩
 | @cons p nc ps ncs r _ ih =>
  by_cases e:nc.1=n
  ·exact .inr ⟨p.2,nc.2,ji ((dZ r.1).mpr e),by unfold aL; rw [Lq (by simpa using e)]; rfl,r.2⟩
  ·have e1:eX (p::ps) (Bm n)=eX ps (Bm n):=jh fun z=>e ((dZ r.1).mp z);have e2:aL (nc::ncs) n=aL ncs n:=by unfold aL; rw [Lr (by simpa using e)]
   rw [e1,e2]; exact ih
theorem PwB.any (h:PwB C H kvs bk) (n:Str):(kvs.any fun kv=>decide (kv.1=Bm n))=bk.any fun nc=>decide (nc.1=n):=by
 induction h with
 | nil=>rfl
 | cons r _ ih =>
  rw [Jk,Jk,ih]
  congr 1
  exact decide_eq_decide.mpr (dZ r.1)
theorem PwB.set (h:PwB C H kvs bk) {n:Str} {v:V} {c:Clo} (hv:iq C H v c):PwB C H (kvs.map fun kv=>if kv.1=Bm n then (kv.1,v) else kv) (bk.map fun nc=>if nc.1=n then (nc.1,c) else nc):=by
 induction h with
 | nil=>exact .nil
 | cons r _ ih =>
  refine .cons ?_ ih
  rename_i p nc _ _ _;dsimp only;by_cases e:nc.1=n
  ·rw [if_pos ((dZ r.1).mpr e),if_pos e]; exact ⟨r.1,hv⟩
  ·rw [if_neg (fun z=>e ((dZ r.1).mp z)),if_neg e]; exact r
theorem PwB.snoc (h:PwB C H kvs bk) {n:Str} {v:V} {c:Clo} (hv:iq C H v c):PwB C H (kvs++[(Bm n,v)]) (bk++[(n,c)]):=Paired.snoc h ⟨rfl,hv⟩
theorem PwB.put (h:PwB C H kvs bk) (n:Str) {v:V} {c:Clo} (hv:iq C H v c):PwB C H (cJ kvs (Bm n) v) (bG bk n c):=by
 unfold cJ bG;rw [h.any n]
 split
 ·exact h.set hv
 ·exact h.snoc hv
theorem PwB.drop (h:PwB C H kvs bk) (n:Str):PwB C H (fe kvs (Bm n)) (fz bk n):=by
 unfold fe fz
 induction h with
 | nil=>exact .nil
 | cons r _ ih =>
  rename_i p nc _ _ _;by_cases e:nc.1=n
  ·rw [KO (by simpa using (dZ r.1).mpr e),KO (by simpa using e)]; exact ih
  ·rw [KN (by simpa using fun z=>e ((dZ r.1).mp z)),KN (by simpa using e)]; exact .cons r ih
end
def oO (C CH NC:ς):Sp:=fun vs H Q E=>∃ (p la lb:ς) (past ahead:List Bk) (now:Bk) (n:Str),vs=[.ref p,.str n]/\dF C CH H p la lb past now ahead /\
 ((aL now n=none/\E (.ref NC) none H)\/∃ c,aL now n=some c/\∀ v,iq C H v c->Q v H)
theorem okx_an (T:Txt K mg t):aR P w K mg base (CX1 P w) 1 t.f_an t.d_an ["self","name"] (oO t.a_ai t.a_ak t.a_ab):=by
 refine T.F_an.ok1 sc_an (by walk_at "l") (fun _ _ _ s H vs Q E hr h=>?_)
 ·obtain ⟨p,la,lb,past,ahead,now,n,rfl,hc,q⟩:=h;obtain ⟨dx,fs,d,e1,cl,kvs,e2,pw⟩:=hc.ob;refine ⟨_,(aH (aK (iK (gH (cY hr) (pv 1) (cq K rfl (pv 0) rfl))) (aj (b7 T.mg_ab T.x_ab BF rfl rfl (fun _ _ _ _ _ _ _ _ I m q=>gu I m q) (aa ao ae))) aB) (aj (az (gY (cY hr) (cq K rfl (pv 0) rfl) (pv 1) (fun _ _=>rfl))))),?_⟩;apply cu e1 T.cl_ak T.naC_cloths cl.c ?_;apply ⟨d,_,rfl,dP.k (k:=Bm n) e2,?_⟩;rcases pw.get n with ⟨g1,g2⟩ | ⟨v,c,g1,g2,g3⟩
  ·rw [g1,JO];left;rcases q with ⟨_,q⟩ | ⟨c,z,_⟩
   ·exact ⟨by show 1<=BC; decide,q⟩
   ·rw [g2] at z; cases z
  ·rw [g1,JC];apply cu e1 T.cl_ak T.naC_cloths cl.c ?_;left;rcases q with ⟨z,_⟩ | ⟨c',z,q⟩
   ·rw [g2] at z; cases z
   ·rw [g2] at z
    cases z;exact ⟨d,v,rfl,by rw [<- g1]; exact dP.k (k:=Bm n) e2,q v g3⟩
def sp_an (C CH:ς):Sp:=fun vs H Q _=>∃ (p la lb:ς) (past ahead:List Bk) (now:Bk) (n:Str) (c:Clo),vs=[.ref p,.str n]/\dF C CH H p la lb past now ahead/\aL now n=some c/\∀ v,iq C H v c->Q v H
theorem ok_an (T:Txt K mg t):aR P w K mg base CX0 1 t.f_an t.d_an ["self","name"] (sp_an t.a_ai t.a_ak) :=
 (okx_an T).down fun vs H Q E hh=>by
  obtain ⟨p,la,lb,past,ahead,now,n,c,e,hc,g,k⟩:=hh;exact ⟨p,la,lb,past,ahead,now,n,e,hc,.inr ⟨c,g,k⟩⟩
def kY (C CH BN TK:ς):Sp:=fun vs H Q E=>∃ (p la lb:ς) (past ahead:List Bk) (now:Bk) (n:Str),vs=[.ref p,.str n]/\n.cps.size<=4000/\dF C CH H p la lb past now ahead /\
 (bR n=false->∀ H',ai H H'->E (.ref BN) none H')/\(bR n=true->(aL now n).isSome=true->∀ H',ai H H'->E (.ref TK) none H')/\(bR n=true->aL now n=none->∀ H',ai H H'->Q .non H')
theorem okx_ao (T:Txt K mg t):aR P w K mg base (CX2 P w) 2 t.f_ao t.d_ao ["self","name"] (kY t.a_ai t.a_ak t.a_ad t.a_aj):=by
 refine T.F_ao.ok2 sc_ao (by walk_at "l") (fun _ _ _ s H vs Q E hr h=>?_)
 ·obtain ⟨p,la,lb,past,ahead,now,n,rfl,hz,hc,k1,k2,k3⟩:=h;refine ⟨_,(aH (aK (dR (cm (aD (ok_bs T).up2 (rmo hr) rfl T.mg_bs T.F_bs.kp T.b_bs .nil kL (aa (pv 1) ae)))) (aj (b7 T.mg_ad T.x_ad BF rfl rfl (fun _ _ _ _ _ _ _ _ I m q=>kZ I m q) (aa ao ae))) aB) (aj (aK (iK (we (cY hr) (pv 1) (cq K rfl (pv 0) rfl))) (aj (b7 T.mg_aj T.x_aj BF rfl rfl (fun _ _ _ _ _ _ _ _ I m q=>kZ I m q) (aa ao ae))) aB))),?_⟩;apply ⟨n,rfl,hz,fun H1 s1=>?_⟩
  cases hn:bR n with
  | false =>
   left;exact ⟨by show 1<=BC; decide,k1 hn H1 s1⟩
  | true =>
   obtain ⟨dx,fs,d,e1,cl,kvs,e2,pw⟩:=(hc.mono s1).ob;apply cu e1 T.cl_ak T.naC_cloths cl.c ?_;apply ⟨d,_,rfl,dP.k (k:=Bm n) e2,?_⟩;rcases pw.get n with ⟨g1,g2⟩ | ⟨v,c,g1,g2,g3⟩
   ·rw [g1,JO];left;exact k3 hn g2 H1 s1
   ·rw [g1,JC];left;exact ⟨by show 1<=BC; decide,k2 hn (by rw [g2]; rfl) H1 s1⟩
theorem kM {f:Str} {v:V}:∀ {fs:List (Str×V)},(fs.lookup f).isSome=true->(cU f v fs).length=fs.length
 | [],h=>by cases h
 | (g,x)::r,h=>by
  unfold cU;by_cases e:g=f
  ·rw [if_pos e]; rfl
  ·rw [if_neg e,HM,HM,kM (fs:=r) ?_];have hb:(f==g)=false:=beq_eq_false_iff_ne.mpr fun z=>e z.symm
   simpa only [J5,hb] using h
theorem CL.setC {fs:List (Str×V)} {d d' la lb:ς} (h:CL fs d la lb):CL (cU "cloths" (.ref d') fs) d' la lb where
 c:=by rw [aC,if_pos rfl]
 a:=by rw [aC,if_neg (by decide +kernel)]; exact h.a
 b:=by rw [aC,if_neg (by decide +kernel)]; exact h.b
 no:=fun m z=>by rw [aC,if_neg z.1]; exact h.no m z
 len:=by rw [kM (by rw [h.c]; rfl)]; exact h.len
theorem CL.setB {fs:List (Str×V)} {d la lb lb':ς} (h:CL fs d la lb):CL (cU "behind_undone" (.ref lb') fs) d la lb' where
 c:=by rw [aC,if_neg (by decide +kernel)]; exact h.c
 a:=by rw [aC,if_neg (by decide +kernel)]; exact h.a
 b:=by rw [aC,if_pos rfl]
 no:=fun m z=>by rw [aC,if_neg z.2.2]; exact h.no m z
 len:=by rw [kM (by rw [h.b]; rfl)]; exact h.len
theorem PwD.snoc {C:ς} {H:Hp} {ds:List ς} {bks:List Bk} {d:ς} {bk:Bk} (h:PwD C H ds bks) (hd:oV C H d bk):PwD C H (ds++[d]) (bks++[bk]):=by
 refine ⟨by rw [Av,Av,h.1]; rfl,fun i d' bk' h1 h2=>?_⟩;by_cases c:i<ds.length
 ·rw [Je c] at h1;rw [Je (by rw [<- h.1]; exact c)] at h2;exact h.2 i d' bk' h1 h2
 ·rw [Ja (by omega)] at h1;rw [Ja (by rw [<- h.1]; omega),<- h.1] at h2
  have hi:i - ds.length=0:=by
   have:=(F_.mp h1).1
   rw [HU] at this; omega
  rw [hi] at h1 h2
  cases h1
  cases h2;exact hd
theorem PwD.nil {C:ς} {H:Hp}:PwD C H [] []:=⟨rfl,fun i d bk h=>by simp at h⟩
def sp_av (C CH:ς):Sp:=fun vs H Q _=>∃ (p la lb d':ς) (past ahead:List Bk) (now bk':Bk),vs=[.ref p,.ref d']/\dF C CH H p la lb past now ahead/\past.length<=1000/\oV C H d' bk' /\
 ∀ lb' H',bX [p,la] H H'->H lb'=none->dF C CH H' p la lb' (past++[now]) bk' []->Q .non H'
theorem ok_av (T:Txt K mg t):aR P w K mg base CX0 1 t.f_av t.d_av ["self","cloths"] (sp_av t.a_ai t.a_ak):=by
 refine T.F_av.ok sc_av (by walk_at "l") (fun _ _ _ s H vs Q E hr h=>?_)
 ·obtain ⟨p,la,lb,d',past,ahead,now,bk',rfl,hc,hz,hb,k⟩:=h;have ap:=hc.apt;have ap2:Apt t.a_ai H [p,la]:=fun x hx=>ap x (by
   simp only [Ξ,HJ,or_false] at hx ⊢;rcases hx with z | z
   ·exact .inl z
   ·exact .inr (.inl z))
  obtain ⟨dx,fs,d,e1,cl,hd⟩:=hc.ob;obtain ⟨ds,e2,pd⟩:=hc.pa;refine aF (aZ (cQ HV HZ HY bS (cq K rfl (pv 0) rfl) (aa (cq K rfl (pv 0) rfl) ae))) fun _ _=>aF (eV (pv 0) (pv 1) rfl) fun _ _=>cH (eV (pv 0) (bO ae) rfl) fun _ _=>?_;apply cu e1 T.cl_ak T.naC_ahead_of_deeds cl.a ?_;apply cV e2 ?_;apply cu e1 T.cl_ak T.naC_cloths cl.c ?_;apply bT e2 (by rw [ξ,pd.1]; exact aQ (by omega)) ?_;have pla:p≠la:=iD e1 e2 (fun z=>nomatch z);have m1:bX [p,la] H (upd H la (.lst (ds.map V.ref++[.ref d]))):=(bX.refl _ _).upd (Au _ Θ);have f1:upd H la (.lst (ds.map V.ref++[.ref d])) p=some (.ins t.a_ak dx fs):=by rw [aE pla]; exact e1
  have f2:=af (H:=H) (a:=la) (o:=.lst (ds.map V.ref++[.ref d]));generalize upd H la (.lst (ds.map V.ref++[.ref d]))=H1 at m1 f1 f2 ⊢;apply c7 f1 T.cl_ak T.naC_cloths (HX cl.len (by decide)) ?_;have cl2:=cl.setC (d':=d');generalize hfs:cU (JK "cloths") (.ref d') fs=fs2 at cl2 ⊢;have m2:bX [p,la] H (upd H1 p (.ins t.a_ak dx fs2)):=m1.upd Θ;have g1:=af (H:=H1) (a:=p) (o:=.ins t.a_ak dx fs2);have g2:upd H1 p (.ins t.a_ak dx fs2) la=some (.lst (ds.map V.ref++[.ref d])):=by rw [aE (IL pla)]; exact f2
  generalize upd H1 p (.ins t.a_ak dx fs2)=H2 at m2 g1 g2 ⊢;apply ⟨Hs _,fun lb' nl=>?_⟩;have m3:bX [p,la] H (upd H2 lb' (.lst [])):=m2.new nl;have sl:=ai.new (o:=HO.lst []) nl;have j1:=sl _ _ g1;have j2:=sl _ _ g2;have j3:=af (H:=H2) (a:=lb') (o:=HO.lst []);generalize upd H2 lb' (HO.lst [])=H3 at m3 j1 j2 j3 ⊢;apply c7 j1 T.cl_ak T.naC_behind_undone (HX cl2.len (by decide)) ?_;have cl3:=cl2.setB (lb':=lb');generalize hfs3:cU (JK "behind_undone") (.ref lb') fs2=fs3 at cl3 ⊢;have plb:p≠lb':=fun z=>by rw [z,nl] at g1; cases g1
  have lalb:la≠lb':=fun z=>by rw [z,nl] at g2; cases g2
  have m4:bX [p,la] H (upd H3 p (.ins t.a_ak dx fs3)):=m3.upd Θ;have n1:=af (H:=H3) (a:=p) (o:=.ins t.a_ak dx fs3);have n2:upd H3 p (.ins t.a_ak dx fs3) la=some (.lst ((ds++[d]).map V.ref)):=by rw [aE (IL pla),j2,HN]; rfl
  have n3:upd H3 p (.ins t.a_ak dx fs3) lb'=some (.lst (([]:List ς).map V.ref)):=by rw [aE (IL plb),j3]; rfl
  generalize upd H3 p (.ins t.a_ak dx fs3)=H4 at m4 n1 n2 n3 ⊢;left
  have nlb:H lb'=none:=by
   cases z:H lb' with
   | none=>rfl
   | some o =>
    have:=m2 lb' o z (by
     simp only [Ξ,HJ,or_false];intro q;rcases q with q | q
     ·exact plb q.symm
     ·exact lalb q.symm)
    rw [nl] at this; cases this
  exact k lb' H4 m4 nlb ⟨⟨dx,fs3,d',n1,cl3,hb.but m4 ap2⟩,⟨ds++[d],n2,(pd.but m4 ap2).snoc (hd.but m4 ap2)⟩,⟨[],n3,PwD.nil⟩,lalb⟩
def mi (C CH:ς) (H:Hp) (p la:ς) (past:List Bk) (now bk:Bk) (Q:VK):Prop:=∀ lb' H',bX [p,la] H H'->H lb'=none->dF C CH H' p la lb' (past++[now]) bk []->Q .non H'
theorem mi.back {C CH:ς} {H H1:Hp} {p la:ς} {past:List Bk} {now bk:Bk} {Q:VK} (h:mi C CH H p la past now bk Q) (s:ai H H1):mi C CH H1 p la past now bk Q:=fun lb' H' m n c=>h lb' H' ((s.butL _).trans m) (s.free n) c
theorem iq.mono {C:ς} {H H':Hp} {v:V} {c:Clo} (s:ai H H') (h:iq C H v c):iq C H' v c:=h.but (s.butL []) Apt.nil
def sp_al (C CH:ς):Sp:=fun vs H Q _=>∃ (p la lb:ς) (past ahead:List Bk) (now:Bk) (n:Str) (v:V) (c:Clo),vs=[.ref p,.str n,v]/\dF C CH H p la lb past now ahead/\past.length<=1000/\now.length<=1000/\iq C H v c/\mi C CH H p la past now (bG now n c) Q
theorem ok_al (T:Txt K mg t):aR P w K mg base CX0 2 t.f_al t.d_al ["self","name","cloth"] (sp_al t.a_ai t.a_ak):=by
 refine T.F_al.ok sc_al (by walk_at "l") (fun _ _ _ s H vs Q E hr h=>?_)
 ·obtain ⟨p,la,lb,past,ahead,now,n,v,c,rfl,hc,hz,hn,hv,k⟩:=h;obtain ⟨dx,fs,d,e1,cl,kvs,e2,pw⟩:=hc.ob;have lk:kvs.length=now.length:=Paired.length pw;refine aF (aI 3 sc_al.nd (aW km rfl T.no_dict (by rfl) (aa (cq K rfl (pv 0) rfl) ae))) fun _ _=>aF (eN (cY hr) (pv 3) (pv 1) (pv 2) rfl) fun _ _=>cH (aZ (bH (pv 0) T.cl_ak T.m_av (ok_av T) (rmo hr) T.b_av .nil aV (aa (pv 3) ae))) fun _ _=>?_;apply cu e1 T.cl_ak T.naC_cloths cl.c ?_;apply ⟨d,kvs,rfl,e2,fun d2 n2=>?_⟩;have s1:=ai.new (o:=HO.dK kvs) n2;have f2:=af (H:=H) (a:=d2) (o:=HO.dK kvs);generalize upd H d2 (HO.dK kvs)=H1 at s1 f2 ⊢;apply ⟨d2,_,rfl,jJ.k (k:=Bm n) f2 (by rw [lk]; exact aQ (by omega)),?_⟩;have s2:ai H (upd H1 d2 (.dK (cJ kvs (Bm n) v))):=s1.later n2;have g2:=af (H:=H1) (a:=d2) (o:=HO.dK (cJ kvs (Bm n) v));generalize upd H1 d2 (.dK (cJ kvs (Bm n) v))=H2 at s2 g2 ⊢;have hc2:=hc.mono s2;obtain ⟨dx2,fs2,d3,i1,i2,_⟩:=hc2.ob;apply ax i1 (i2.no _ (by decide +kernel)) ?_;apply ⟨p,la,lb,d2,past,ahead,now,bG now n c,rfl,hc2,hz,⟨_,g2,(pw.but (s2.butL []) Apt.nil).put n (hv.mono s2)⟩,fun lb' H3 m3 nl ch=>?_⟩;left;exact k.back s2 lb' H3 m3 nl ch
def tG (C CH BN TK:ς):Sp:=fun vs H Q E=>∃ (p la lb:ς) (past ahead:List Bk) (now:Bk) (n:Str) (v:V) (c:Clo),vs=[.ref p,.str n,v]/\n.cps.size<=4000/\dF C CH H p la lb past now ahead/\past.length<=1000/\now.length<=1000/\iq C H v c /\
 (bR n=false->∀ H',ai H H'->E (.ref BN) none H')/\(bR n=true->(aL now n).isSome=true->∀ H',ai H H'->E (.ref TK) none H')/\(bR n=true->aL now n=none->mi C CH H p la past now (bG now n c) Q)
theorem okx_aJ (T:Txt K mg t):aR P w K mg base (CX2 P w) 3 t.f_aJ t.d_aJ ["self","name","cloth"] (tG t.a_ai t.a_ak t.a_ad t.a_aj):=by
 refine T.F_aJ.ok2 sc_aJ (by walk_at "l") (fun _ _ _ s H vs Q E hr h=>?_)
 ·obtain ⟨p,la,lb,past,ahead,now,n,v,c,rfl,hsz,hc,hz,hn,hv,k1,k2,k3⟩:=h;obtain ⟨dx,fs,d,e1,cl,_⟩:=hc.ob;refine ⟨_,(aH (aZ (bH (pv 0) T.cl_ak T.m_ao (okx_ao T) (rmo hr) T.b_ao .nil kL (aa (pv 1) ae))) (aj (aZ (bH (pv 0) T.cl_ak T.m_al (ok_al T).up2 (rmo hr) T.b_al .nil kL (aa (pv 1) (aa (pv 2) ae)))))),?_⟩;apply ax e1 (cl.no _ (by decide +kernel)) ?_;apply ⟨p,la,lb,past,ahead,now,n,rfl,hsz,hc,k1,k2,fun a1 a2 H1 s1=>?_⟩;apply ax (s1 _ _ e1) (cl.no _ (by decide +kernel)) ?_;apply ⟨p,la,lb,past,ahead,now,n,v,c,rfl,hc.mono s1,hz,hn,hv.mono s1,fun lb' H2 m2 nl ch=>?_⟩;left;exact (k3 a1 a2).back s1 lb' H2 m2 nl ch
def pO (C CH NC:ς):Sp:=fun vs H Q E=>∃ (p la lb:ς) (past ahead:List Bk) (now:Bk) (n:Str),vs=[.ref p,.str n]/\dF C CH H p la lb past now ahead/\past.length<=1000/\now.length<=1000 /\
 ((aL now n=none/\E (.ref NC) none H)\/((aL now n).isSome=true/\mi C CH H p la past now (fz now n) Q))
theorem okx_aL (T:Txt K mg t):aR P w K mg base (CX1 P w) 2 t.f_aL t.d_aL ["self","name"] (pO t.a_ai t.a_ak t.a_ab):=by
 refine T.F_aL.ok1 sc_aL (by walk_at "l") (fun _ _ _ s H vs Q E hr h=>?_)
 ·obtain ⟨p,la,lb,past,ahead,now,n,rfl,hc,hz,hn,k⟩:=h;obtain ⟨dx,fs,d,e1,cl,kvs,e2,pw⟩:=hc.ob;have lk:kvs.length=now.length:=Paired.length pw;refine aF (aZ (bH (pv 0) T.cl_ak T.m_an (okx_an T) (rmo hr) T.b_an .nil aP (aa (pv 1) ae))) fun _ _=>aF (aI 2 sc_aL.nd (aW km rfl T.no_dict (by rfl) (aa (cq K rfl (pv 0) rfl) ae))) fun _ _=>aF (aZ (uU (pv 2) (pv 1) ⟨rfl,rfl,rfl,rfl⟩)) fun _ _=>cH (aZ (bH (pv 0) T.cl_ak T.m_av (ok_av T).up (rmo hr) T.b_av .nil aP (aa (pv 2) ae))) fun _ _=>?_;apply ax e1 (cl.no _ (by decide +kernel)) ?_;left;rcases k with ⟨g,k⟩ | ⟨g,k⟩
  ·exact ⟨p,la,lb,past,ahead,now,n,rfl,hc,.inl ⟨g,k⟩⟩
  ·obtain ⟨c,hg⟩:=Nc.mp g;refine ⟨p,la,lb,past,ahead,now,n,rfl,hc,.inr ⟨c,hg,fun v0 _=>?_⟩⟩;apply cu e1 T.cl_ak T.naC_cloths cl.c ?_;apply ⟨d,kvs,rfl,e2,fun d2 n2=>?_⟩;have s1:=ai.new (o:=HO.dK kvs) n2;have f2:=af (H:=H) (a:=d2) (o:=HO.dK kvs);generalize upd H d2 (HO.dK kvs)=H1 at s1 f2 ⊢;obtain ⟨v,gv⟩:∃ v,eX kvs (Bm n)=some v:=by
    rcases pw.get n with ⟨_,z⟩ | ⟨v,_,z,_⟩
    ·rw [hg] at z; cases z
    ·exact ⟨v,z⟩
   apply ⟨d2,rfl,.inl ⟨kvs,.inl f2⟩,?_⟩;apply ⟨kvs,Bm n,v,f2,rfl,gv,?_⟩;have s2:ai H (upd H1 d2 (.dK (fe kvs (Bm n)))):=s1.later n2;have g2:=af (H:=H1) (a:=d2) (o:=HO.dK (fe kvs (Bm n)));generalize upd H1 d2 (.dK (fe kvs (Bm n)))=H2 at s2 g2 ⊢;apply ax (s2 _ _ e1) (cl.no _ (by decide +kernel)) ?_;apply ⟨p,la,lb,d2,past,ahead,now,fz now n,rfl,hc.mono s2,hz,⟨_,g2,(pw.but (s2.butL []) Apt.nil).drop n⟩,fun lb' H3 m3 nl ch=>?_⟩;left;exact k.back s2 lb' H3 m3 nl ch
def pR (C CH NC NL:ς):Sp:=fun vs H Q E=>∃ (p la lb:ς) (past ahead:List Bk) (now:Bk) (n wy:Str) (k:Int),vs=[.ref p,.str n,.str wy,.int k]/\dF C CH H p la lb past now ahead/\past.length<=1000/\now.length<=1000 /\
 ((aL now n=none/\E (.ref NC) none H)\/∃ s cs rs,aL now n=some (s,cs,rs) /\
  ((tW wy k cs rs/\E (.ref NL) none H)\/∃ bs cs' rs',fw wy cs rs bs/\0<=k/\k<bs.length/\mU wy cs rs (mZ bs k.toNat) cs' rs'/\bA cs'/\bA rs'/\mi C CH H p la past now (bG now n (s,cs',rs')) Q))
theorem okx_aP (T:Txt K mg t):aR P w K mg base (CX1 P w) 10 t.f_aP t.d_aP ["self","name","way","k"] (pR t.a_ai t.a_ak t.a_ab t.a_ae):=by
 refine T.F_aP.ok1 sc_aP (by walk_at "l") (fun _ _ _ s H vs Q E hr h=>?_)
 ·obtain ⟨p,la,lb,past,ahead,now,n,wy,k,rfl,hc,hz,hn,q⟩:=h;obtain ⟨dx,fs,d,e1,cl,_⟩:=hc.ob;refine ⟨_,(aj (aZ (bH (pv 0) T.cl_ak T.m_al (ok_al T).up (rmo hr) T.b_al .nil aP (aa (pv 1) (aa (aD (okx_bq T) (rmo hr) rfl T.mg_bq T.F_bq.kp T.b_bq .nil aP (aa (bH (pv 0) T.cl_ak T.m_an (okx_an T) (rmo hr) T.b_an .nil aP (aa (pv 1) ae)) (aa (pv 2) (aa (pv 3) ae)))) ae))))),?_⟩;apply ax e1 (cl.no _ (by decide +kernel)) ?_;apply ax e1 (cl.no _ (by decide +kernel)) ?_;left;rcases q with ⟨g,q⟩ | ⟨s,cs,rs,g,q⟩
  ·exact ⟨p,la,lb,past,ahead,now,n,rfl,hc,.inl ⟨g,q⟩⟩
  ·refine ⟨p,la,lb,past,ahead,now,n,rfl,hc,.inr ⟨_,g,fun v hv=>?_⟩⟩;obtain ⟨x,rfl,hx,hs,bc,br⟩:=hv;left;rcases q with ⟨a,q⟩ | ⟨bs,cs',rs',a1,a2,a3,a4,bc',br',q⟩
   ·exact ⟨x,wy,k,s,cs,rs,rfl,hx,hs,bc,br,.inr ⟨a,q⟩⟩
   ·refine ⟨x,wy,k,s,cs,rs,rfl,hx,hs,bc,br,.inl ⟨bs,cs',rs',a1,a2,a3,a4,fun x' H1 s1 hx'=>?_⟩⟩;apply ⟨p,la,lb,past,ahead,now,n,.ref x',(s,cs',rs'),rfl,hc.mono s1,hz,hn,⟨x',rfl,hx',hs,bc',br'⟩,fun lb' H2 m2 nl ch=>?_⟩;left;exact q.back s1 lb' H2 m2 nl ch
def pS:Sp:=fun _ _ _ _=>False
theorem okx_a0 (T:Txt K mg t):aR P w K mg base (CX1 P w) 1 t.f_a0 t.d_a0 ["self"] pS:=⟨fun vs H Q E h=>h.elim,fun A outer s H args us vs Q E _ _ _ _ h=>h.elim⟩
def pQ:Sp:=fun _ _ _ _=>False
theorem okx_aZ (T:Txt K mg t):aR P w K mg base (CX1 P w) 1 t.f_aZ t.d_aZ ["self"] pQ:=⟨fun vs H Q E h=>h.elim,fun A outer s H args us vs Q E _ _ _ _ h=>h.elim⟩
def sp_aS (C CH:ς):Sp:=fun vs H Q _=>∃ (p dx:ς),vs=[.ref p]/\H p=some (.ins CH dx [])/\∀ la lb H',bX [p] H H'->H la=none->H lb=none->dF C CH H' p la lb [] [] []->Q .non H'
theorem ua {S:List ς} {H H1:Hp} {a:ς} (m:bX S H H1) (n:H1 a=none) (h:a∉S):H a=none:=by
 cases z:H a with
 | none=>rfl
 | some o=>have:=m a o z h; rw [n] at this; cases this
theorem ok_aS (T:Txt K mg t):aR P w K mg base CX0 1 t.f_aS t.d_aS ["self"] (sp_aS t.a_ai t.a_ak):=by
 refine T.F_aS.ok sc_aS (by walk_at "l") (fun _ _ _ s H vs Q E hr h=>?_)
 ·obtain ⟨p,dx,rfl,hp,k⟩:=h;refine aF (eV (pv 0) uT rfl) fun _ _=>aF (eV (pv 0) (bO ae) rfl) fun _ _=>cH (eV (pv 0) (bO ae) rfl) fun _ _=>?_;apply fun d nd=>?_;have s1:=ai.new (o:=HO.dK []) nd;have e1:=s1 _ _ hp;have d1:=af (H:=H) (a:=d) (o:=HO.dK []);have m1:bX [p] H (upd H d (HO.dK [])):=s1.butL _;generalize upd H d (HO.dK [])=H1 at e1 d1 m1 ⊢;have pd:p≠d:=iD e1 d1 (fun z=>nomatch z);apply c7 e1 T.cl_ak T.naC_cloths (by show 0<1000; decide) ?_;generalize hf1:cU (JK "cloths") (.ref d) []=f1;have e2:=af (H:=H1) (a:=p) (o:=.ins t.a_ak dx f1);have d2:upd H1 p (.ins t.a_ak dx f1) d=some (.dK []):=by rw [aE (IL pd)]; exact d1
  have m2:bX [p] H (upd H1 p (.ins t.a_ak dx f1)):=m1.upd (by simp);generalize upd H1 p (.ins t.a_ak dx f1)=H2 at e2 d2 m2 ⊢;apply ⟨Hs _,fun la na=>?_⟩;have s3:=ai.new (o:=HO.lst []) na;have e3:=s3 _ _ e2;have d3:=s3 _ _ d2;have a3:=af (H:=H2) (a:=la) (o:=HO.lst []);have m3:bX [p] H (upd H2 la (HO.lst [])):=m2.new na;generalize upd H2 la (HO.lst [])=H3 at e3 d3 a3 m3 ⊢;have pla:p≠la:=iD e3 a3 (fun z=>nomatch z);apply c7 e3 T.cl_ak T.naC_ahead_of_deeds (by rw [<- hf1]; exact HX (bC _ _ _) (by show 1<1000; decide)) ?_;generalize hf2:cU (JK "ahead_of_deeds") (.ref la) f1=f2;have l2:f2.length<=2:=by rw [<- hf2,<- hf1]; exact BA (bC _ _ _) (IS (bC _ _ _))
  have e4:=af (H:=H3) (a:=p) (o:=.ins t.a_ak dx f2);have d4:upd H3 p (.ins t.a_ak dx f2) d=some (.dK []):=by rw [aE (IL pd)]; exact d3
  have a4:upd H3 p (.ins t.a_ak dx f2) la=some (.lst []):=by rw [aE (IL pla)]; exact a3
  have m4:bX [p] H (upd H3 p (.ins t.a_ak dx f2)):=m3.upd (by simp);generalize upd H3 p (.ins t.a_ak dx f2)=H4 at e4 d4 a4 m4 ⊢;apply ⟨Hs _,fun lb nb=>?_⟩;have s5:=ai.new (o:=HO.lst []) nb;have e5:=s5 _ _ e4;have d5:=s5 _ _ d4;have a5:=s5 _ _ a4;have b5:=af (H:=H4) (a:=lb) (o:=HO.lst []);have m5:bX [p] H (upd H4 lb (HO.lst [])):=m4.new nb;have plb:p≠lb:=fun z=>by rw [z,nb] at e4; cases e4
  have lab:la≠lb:=fun z=>by rw [z,nb] at a4; cases a4
  generalize upd H4 lb (HO.lst [])=H5 at e5 d5 a5 b5 m5 ⊢;apply c7 e5 T.cl_ak T.naC_behind_undone (by omega) ?_;generalize hf3:cU (JK "behind_undone") (.ref lb) f2=f3;have e6:=af (H:=H5) (a:=p) (o:=.ins t.a_ak dx f3);have d6:upd H5 p (.ins t.a_ak dx f3) d=some (.dK []):=by rw [aE (IL pd)]; exact d5
  have a6:upd H5 p (.ins t.a_ak dx f3) la=some (.lst (([]:List ς).map V.ref)):=by rw [aE (IL pla)]; exact a5
  have b6:upd H5 p (.ins t.a_ak dx f3) lb=some (.lst (([]:List ς).map V.ref)):=by rw [aE (IL plb)]; exact b5
  have m6:bX [p] H (upd H5 p (.ins t.a_ak dx f3)):=m5.upd (by simp);generalize upd H5 p (.ins t.a_ak dx f3)=H6 at e6 d6 a6 b6 m6 ⊢;apply k la lb H6 m6 (ua m2 na (by simpa using IL pla)) (ua m4 nb (by simpa using IL plb)) ⟨⟨dx,f3,d,e6,?_,[],d6,.nil⟩,⟨[],a6,PwD.nil⟩,⟨[],b6,PwD.nil⟩,lab⟩;rw [<- hf3,<- hf2,<- hf1];refine ⟨?_,?_,?_,fun m z=>?_,?_⟩
  ·rw [aC,if_neg (by decide +kernel),aC,if_neg (by decide +kernel),aC,if_pos rfl]
  ·rw [aC,if_neg (by decide +kernel),aC,if_pos rfl]
  ·rw [aC,if_pos rfl]
  ·rw [aC,if_neg z.2.2,aC,if_neg z.2.1,aC,if_neg z.1]; rfl
  ·exact BA (bC _ _ _) (IS (BA (bC _ _ _) (IS (bC _ _ _))))
def tF (C CH NC NL:ς):Sp:=fun vs H Q E=>∃ (p la lb:ς) (past ahead:List Bk) (now:Bk) (n wy:Str) (k:Int),vs=[.ref p,.str n,.str wy,.int k]/\dF C CH H p la lb past now ahead/\past.length<=1000/\now.length<=1000 /\
 ((aL now n=none/\E (.ref NC) none H)\/∃ s cs rs,aL now n=some (s,cs,rs) /\
  ((tW wy k cs rs/\E (.ref NL) none H)\/∃ bs cs' rs',fw wy cs rs bs/\0<=k/\k<bs.length/\mU wy cs rs (bs.eraseIdx k.toNat) cs' rs'/\bA cs'/\bA rs'/\mi C CH H p la past now (bG now n (s,cs',rs')) Q))
theorem okx_a2 (T:Txt K mg t):aR P w K mg base (CX1 P w) 10 t.f_a2 t.d_a2 ["self","name","way","k"] (tF t.a_ai t.a_ak t.a_ab t.a_ae):=by
 refine T.F_a2.ok1 sc_a2 (by walk_at "l") (fun _ _ _ s H vs Q E hr h=>?_)
 ·obtain ⟨p,la,lb,past,ahead,now,n,wy,k,rfl,hc,hz,hn,q⟩:=h;obtain ⟨dx,fs,d,e1,cl,_⟩:=hc.ob;refine ⟨_,(aj (aZ (bH (pv 0) T.cl_ak T.m_al (ok_al T).up (rmo hr) T.b_al .nil aP (aa (pv 1) (aa (aD (Cz T) (rmo hr) rfl T.mg_cutsew T.F_cut.kp T.b_cut .nil aP (aa (bH (pv 0) T.cl_ak T.m_an (okx_an T) (rmo hr) T.b_an .nil aP (aa (pv 1) ae)) (aa (pv 2) (aa (pv 3) ae)))) ae))))),?_⟩;apply ax e1 (cl.no _ (by decide +kernel)) ?_;apply ax e1 (cl.no _ (by decide +kernel)) ?_;left;rcases q with ⟨g,q⟩ | ⟨s,cs,rs,g,q⟩
  ·exact ⟨p,la,lb,past,ahead,now,n,rfl,hc,.inl ⟨g,q⟩⟩
  ·refine ⟨p,la,lb,past,ahead,now,n,rfl,hc,.inr ⟨_,g,fun v hv=>?_⟩⟩;obtain ⟨x,rfl,hx,hs,bc,br⟩:=hv;left;rcases q with ⟨a,q⟩ | ⟨bs,cs',rs',a1,a2,a3,a4,bc',br',q⟩
   ·exact ⟨x,wy,k,s,cs,rs,rfl,hx,hs,bc,br,.inr ⟨a,q⟩⟩
   ·refine ⟨x,wy,k,s,cs,rs,rfl,hx,hs,bc,br,.inl ⟨bs,cs',rs',a1,a2,a3,a4,fun x' H1 s1 hx'=>?_⟩⟩;apply ⟨p,la,lb,past,ahead,now,n,.ref x',(s,cs',rs'),rfl,hc.mono s1,hz,hn,⟨x',rfl,hx',hs,bc',br'⟩,fun lb' H2 m2 nl ch=>?_⟩;left;exact q.back s1 lb' H2 m2 nl ch
def tH (C CH NC NL BB BS:ς):Sp:=fun vs H Q E=>∃ (p la lb:ς) (past ahead:List Bk) (now:Bk) (n wy:Str) (k bt:Int),vs=[.ref p,.str n,.str wy,.int k,.int bt]/\dF C CH H p la lb past now ahead/\past.length<=1000/\now.length<=1000 /\
  ((aL now n=none/\E (.ref NC) none H)\/∃ s cs rs,aL now n=some (s,cs,rs) /\
    (((¬ wy="col"/\¬ wy="row")/\E (.ref NL) none H)\/∃ bs,fw wy cs rs bs /\
     ((¬ (0<=k/\k<(bs.length:Int)+1)/\∀ H',ai H H'->E (.ref NL) none H')\/((0<=k/\k<(bs.length:Int)+1)/\cv bt=false/\∀ H',ai H H'->E (.ref BB) none H') \/
      ((0<=k/\k<(bs.length:Int)+1)/\cv bt=true/\bs.length=39/\∀ H',ai H H'->E (.ref BS) none H') \/
      ((0<=k/\k<(bs.length:Int)+1)/\cv bt=true/\bs.length<39/\∃ cs' rs',mU wy cs rs (fZ bs k.toNat bt) cs' rs'/\bA cs'/\bA rs'/\mi C CH H p la past now (bG now n (s,cs',rs')) Q))))
theorem okx_a3 (T:Txt K mg t):aR P w K mg base (CX1 P w) 10 t.f_a3 t.d_a3 ["self","name","way","k","bit"] (tH t.a_ai t.a_ak t.a_ab t.a_ae t.a_ag t.a_ac):=by
 refine T.F_a3.ok1 sc_a3 (by walk_at "l") (fun _ _ _ s H vs Q E hr h=>?_)
 ·obtain ⟨p,la,lb,past,ahead,now,n,wy,k,bt,rfl,hc,hz,hn,q⟩:=h;obtain ⟨dx,fs,d,e1,cl,_⟩:=hc.ob;refine ⟨_,(aj (aZ (bH (pv 0) T.cl_ak T.m_al (ok_al T).up (rmo hr) T.b_al .nil aP (aa (pv 1) (aa (aD (CA T) (rmo hr) rfl T.mg_putsew T.F_put.kp T.b_put .nil aP (aa (bH (pv 0) T.cl_ak T.m_an (okx_an T) (rmo hr) T.b_an .nil aP (aa (pv 1) ae)) (aa (pv 2) (aa (pv 3) (aa (pv 4) ae))))) ae))))),?_⟩;apply ax e1 (cl.no _ (by decide +kernel)) ?_;apply ax e1 (cl.no _ (by decide +kernel)) ?_;left;rcases q with ⟨g,q⟩ | ⟨s,cs,rs,g,q⟩
  ·exact ⟨p,la,lb,past,ahead,now,n,rfl,hc,.inl ⟨g,q⟩⟩
  ·refine ⟨p,la,lb,past,ahead,now,n,rfl,hc,.inr ⟨_,g,fun v hv=>?_⟩⟩;obtain ⟨x,rfl,hx,hs,bc,br⟩:=hv;apply ⟨x,wy,k,bt,s,cs,rs,rfl,hx,hs,bc,br,?_⟩;rcases q with q | ⟨bs,a1,q⟩
   ·exact .inl q
   refine .inr ⟨bs,a1,?_⟩;rcases q with q | q | q | ⟨a2,a3,a4,cs',rs',a5,bc',br',q⟩
   ·exact .inl q
   ·exact .inr (.inl q)
   ·exact .inr (.inr (.inl q))
   ·refine .inr (.inr (.inr ⟨a2,a3,a4,cs',rs',a5,fun x' H1 s1 hx'=>?_⟩));apply ⟨p,la,lb,past,ahead,now,n,.ref x',(s,cs',rs'),rfl,hc.mono s1,hz,hn,⟨x',rfl,hx',hs,bc',br'⟩,fun lb' H2 m2 nl ch=>?_⟩;left;exact q.back s1 lb' H2 m2 nl ch
theorem mS.back {BS UF:ς} {s:Int} {cs rs:List Int} {s2:Int} {cs2 rs2:List Int} {H H1:Hp} {Q Q':List Int->Hp->ς->Prop} {E:XK} (h:mS BS UF s cs rs s2 cs2 rs2 H Q E) (s1:ai H H1) (hq:∀ c H' x,ai H1 H'->Q c H' x->Q' c H' x):mS BS UF s cs rs s2 cs2 rs2 H1 Q' E :=
 ⟨fun a H' z=>h.1 a H' (s1.trans z),fun a k hk b c d H' z e=>h.2.1 a k hk b c d H' (s1.trans z) e,fun a b x H' z=>hq _ H' x z (h.2.2 a b x H' (s1.trans z))⟩
def tI (C CH BN TK NC BS UF NL:ς):Sp:=fun vs H Q E=>∃ (p la lb:ς) (past ahead:List Bk) (now:Bk) (n o1 o2 wy:Str),vs=[.ref p,.str n,.str o1,.str o2,.str wy]/\n.cps.size<=4000/\dF C CH H p la lb past now ahead/\past.length<=1000/\now.length<=1000 /\
 (bR n=false->∀ H',ai H H'->E (.ref BN) none H')/\(bR n=true->(aL now n).isSome=true->∀ H',ai H H'->E (.ref TK) none H') /\
 (bR n=true->aL now n=none->(aL now o1=none->∀ H',ai H H'->E (.ref NC) none H')/\(∀ c1,aL now o1=some c1->aL now o2=none->∀ H',ai H H'->E (.ref NC) none H') /\
  ∀ c1 c2,aL now o1=some c1->aL now o2=some c2 ->
   (wy="col"->mS BS UF c1.1 c1.2.1 c1.2.2 c2.1 c2.2.1 c2.2.2 H (fun cs' _ _=>bA cs'/\mi C CH H p la past now (bG now n (c1.1,cs',c1.2.2)) Q) E) /\
   (wy="row"->mS BS UF c1.1 c1.2.2 c1.2.1 c2.1 c2.2.2 c2.2.1 H (fun rs' _ _=>bA rs'/\mi C CH H p la past now (bG now n (c1.1,c1.2.1,rs')) Q) E) /\
   (¬ wy="col"->¬ wy="row"->∀ H',ai H H'->E (.ref NL) none H'))
theorem okx_a4 (T:Txt K mg t):aR P w K mg base (CX1 P w) 11 t.f_a4 t.d_a4 ["self","name","one","other","way"] (tI t.a_ai t.a_ak t.a_ad t.a_aj t.a_ab t.a_ac t.a_ah t.a_ae):=by
 have GX_ao:=(okx_ao (P:=P) (w:=w) (base:=base) T).one;refine T.F_a4.ok1 sc_a4 (by walk_at "l") (fun _ _ _ s H vs Q E hr h=>?_)
 ·obtain ⟨p,la,lb,past,ahead,now,n,o1,o2,wy,rfl,hsz,hc,hz,hn,k1,k2,k3⟩:=h;obtain ⟨dx,fs,d,e1,cl,_⟩:=hc.ob;refine ⟨_,(aH (aZ (bH (pv 0) T.cl_ak T.m_ao GX_ao (rmo hr) T.b_ao .nil aP (aa (pv 1) ae))) (aj (aZ (bH (pv 0) T.cl_ak T.m_al (ok_al T).up (rmo hr) T.b_al .nil aP (aa (pv 1) (aa (aD (okx_az T) (rmo hr) rfl T.mg_az T.F_az.kp T.b_az .nil aP (aa (bH (pv 0) T.cl_ak T.m_an (okx_an T) (rmo hr) T.b_an .nil aP (aa (pv 2) ae)) (aa (bH (pv 0) T.cl_ak T.m_an (okx_an T) (rmo hr) T.b_an .nil aP (aa (pv 3) ae)) (aa (pv 4) ae)))) ae)))))),?_⟩;apply ax e1 (cl.no _ (by decide +kernel)) ?_;apply ⟨p,la,lb,past,ahead,now,n,rfl,hsz,hc,k1,k2,fun a1 a2 H1 s1=>?_⟩;obtain ⟨k4,k5,k6⟩:=k3 a1 a2;have hc1:=hc.mono s1;have e1':=s1 _ _ e1;apply ax e1' (cl.no _ (by decide +kernel)) ?_;apply ax e1' (cl.no _ (by decide +kernel)) ?_;left
  cases g1:aL now o1 with
  | none => exact ⟨p, la, lb, past, ahead, now, o1, rfl, hc1, .inl ⟨g1, k4 g1 H1 s1⟩⟩
  | some c1 =>
   refine ⟨p,la,lb,past,ahead,now,o1,rfl,hc1,.inr ⟨c1,g1,fun v1 hv1=>?_⟩⟩;obtain ⟨x1,rfl,hx1,hs1,bc1,br1⟩:=hv1;apply ax e1' (cl.no _ (by decide +kernel)) ?_;left
   cases g2:aL now o2 with
   | none=>exact ⟨p,la,lb,past,ahead,now,o2,rfl,hc1,.inl ⟨g2,k5 c1 g1 g2 H1 s1⟩⟩
   | some c2 =>
    refine ⟨p,la,lb,past,ahead,now,o2,rfl,hc1,.inr ⟨c2,g2,fun v2 hv2=>?_⟩⟩;obtain ⟨x2,rfl,hx2,hs2,bc2,br2⟩:=hv2;obtain ⟨k7,k8,k9⟩:=k6 c1 c2 g1 g2;apply ⟨x1,x2,wy,c1.1,c2.1,c1.2.1,c1.2.2,c2.2.1,c2.2.2,rfl,hx1,hx2,hs1,hs2,bc1,br1,bc2,br2,fun z=>(k7 z).back s1 fun cs' H2 x s2 q hx=>?_,fun z=>(k8 z).back s1 fun rs' H2 x s2 q hx=>?_,fun z1 z2=>k9 z1 z2 H1 s1⟩
    ·obtain ⟨bc',q⟩:=q;apply ⟨p,la,lb,past,ahead,now,n,.ref x,(c1.1,cs',c1.2.2),rfl,hc1.mono s2,hz,hn,⟨x,rfl,hx,hs1,bc',br1⟩,fun lb' H3 m3 nl ch=>?_⟩;left;exact q.back (s1.trans s2) lb' H3 m3 nl ch
    ·obtain ⟨br',q⟩:=q;apply ⟨p,la,lb,past,ahead,now,n,.ref x,(c1.1,c1.2.1,rs'),rfl,hc1.mono s2,hz,hn,⟨x,rfl,hx,hs1,bc1,br'⟩,fun lb' H3 m3 nl ch=>?_⟩;left;exact q.back (s1.trans s2) lb' H3 m3 nl ch
def pP (C CH NC BN TK NL:ς):Sp:=fun vs H Q E=>∃ (p la lb:ς) (past ahead:List Bk) (now:Bk) (n wy:Str) (k:Int) (o:Str),vs=[.ref p,.str n,.str wy,.int k,.str o]/\o.cps.size<=4000/\dF C CH H p la lb past now ahead/\past.length<=1000/\now.length<=900 /\
 ((aL now n=none/\E (.ref NC) none H)\/∃ c,aL now n=some c/\((bR o=false/\∀ H',ai H H'->E (.ref BN) none H')\/(bR o=true/\(aL now o).isSome=true/\∀ H',ai H H'->E (.ref TK) none H')\/(bR o=true/\aL now o=none/\tW wy k c.2.1 c.2.2/\∀ H',ai H H'->E (.ref NL) none H') \/
  (bR o=true/\aL now o=none/\∃ bs,fw wy c.2.1 c.2.2 bs/\0<=k/\k<bs.length/\∃ c1 c2:Clo,
   ((wy="col"/\c1=(c.1,c.2.1.take k.toNat,c.2.2)/\c2=(fS c.1 c.2.1 c.2.2 (k+1) 0,c.2.1.drop (k.toNat+1),shl c.2.2 (k+1)))\/(wy="row"/\c1=(c.1,c.2.1,c.2.2.take k.toNat)/\c2=(fS c.1 c.2.2 c.2.1 (k+1) 0,shl c.2.1 (k+1),c.2.2.drop (k.toNat+1)))) /\
   mi C CH H p la past now (bG (bG now n c1) o c2) Q)))
theorem c9 {bk:Bk} {n:Str} {c:Clo}:(bG bk n c).length<=bk.length+1:=by
 unfold bG
 split
 ·rw [ξ]; omega
 ·rw [Av]; exact Ω _
theorem okx_aG (T:Txt K mg t):aR P w K mg base (CX1 P w) 11 t.f_aG t.d_aG ["self","name","way","k","other"] (pP t.a_ai t.a_ak t.a_ab t.a_ad t.a_aj t.a_ae):=by
 have GX_ao:=(okx_ao (P:=P) (w:=w) (base:=base) T).one;refine T.F_aG.ok1 sc_aG (by walk_at "l") (fun _ _ _ s H vs Q E hr h=>?_)
 ·obtain ⟨p,la,lb,past,ahead,now,n,wy,k,o,rfl,hsz,hc,hz,hn,q⟩:=h;obtain ⟨dx,fs,d,e1,cl,_⟩:=hc.ob;refine aF (aI 5 sc_aG.nd (bH (pv 0) T.cl_ak T.m_an (okx_an T) (rmo hr) T.b_an .nil aP (aa (pv 1) ae))) fun _ _=>aF (aZ (bH (pv 0) T.cl_ak T.m_ao GX_ao (rmo hr) T.b_ao .nil aP (aa (pv 4) ae))) fun _ _=>aF (aI 6 sc_aG.nd (aD (okx_br T) (rmo hr) rfl T.mg_br T.F_br.kp T.b_br .nil aP (aa (pv 5) (aa (pv 2) (aa (pv 3) ae))))) fun _ _=>aF (aI 7 sc_aG.nd (aW km rfl T.no_dict (by rfl) (aa (cq K rfl (pv 0) rfl) ae))) fun _ _=>aF (eN (cY hr) (pv 7) (pv 1) (aw (au K rfl) (pv 6) ag) rfl) fun _ _=>aF (eN (cY hr) (pv 7) (pv 4) (aw (au K rfl) (pv 6) ag) rfl) fun _ _=>cH (aZ (bH (pv 0) T.cl_ak T.m_av (ok_av T).up (rmo hr) T.b_av .nil aP (aa (pv 7) ae))) fun _ _=>?_;apply ax e1 (cl.no _ (by decide +kernel)) ?_;left;rcases q with ⟨g,q⟩ | ⟨c,g,q⟩
  ·exact ⟨p,la,lb,past,ahead,now,n,rfl,hc,.inl ⟨g,q⟩⟩
  ·refine ⟨p,la,lb,past,ahead,now,n,rfl,hc,.inr ⟨c,g,fun v hv=>?_⟩⟩;obtain ⟨x,rfl,hx,hs,bc,br⟩:=hv;apply ax e1 (cl.no _ (by decide +kernel)) ?_;left;rcases q with ⟨a,q⟩ | ⟨a,b,q⟩ | ⟨a,b,nl,q⟩ | ⟨a,b,bs,iw,h0,h1,c1,c2,hcc,q⟩
   ·exact ⟨p,la,lb,past,ahead,now,o,rfl,hsz,hc,fun _=>q,fun z=>absurd (z.symm.trans a) (by decide),fun z=>absurd (z.symm.trans a) (by decide)⟩
   ·exact ⟨p,la,lb,past,ahead,now,o,rfl,hsz,hc,fun z=>absurd (z.symm.trans a) (by decide),fun _ _=>q,fun _ z=>by rw [z] at b; cases b⟩
   ·refine ⟨p,la,lb,past,ahead,now,o,rfl,hsz,hc,fun z=>absurd (z.symm.trans a) (by decide),fun _ z=>(by rw [b] at z; cases z),fun _ _ H1 s1=>?_⟩;left;exact ⟨x,wy,k,c.1,c.2.1,c.2.2,rfl,hx.mono s1,hs,bc,br,.inr ⟨nl,q H1 s1⟩⟩
   ·refine ⟨p,la,lb,past,ahead,now,o,rfl,hsz,hc,fun z=>absurd (z.symm.trans a) (by decide),fun _ z=>(by rw [b] at z; cases z),fun _ _ H1 s1=>?_⟩;apply ⟨x,wy,k,c.1,c.2.1,c.2.2,rfl,hx.mono s1,hs,bc,br,.inl ⟨bs,iw,h0,h1,fun tp x1 x2 H2 s2 et gc gr=>?_⟩⟩
    have hv:iq t.a_ai H2 (.ref x1) c1/\iq t.a_ai H2 (.ref x2) c2:=by
     rcases hcc with ⟨rfl,rfl,rfl⟩ | ⟨rfl,rfl,rfl⟩
     ·obtain ⟨y1,y2⟩:=gc rfl;exact ⟨⟨x1,rfl,y1,hs,jm bc _,br⟩,⟨x2,rfl,y2,kn _ _ _ _ _,jl bc _,kU br _⟩⟩
     ·obtain ⟨y1,y2⟩:=gr rfl;exact ⟨⟨x1,rfl,y1,hs,bc,jm br _⟩,⟨x2,rfl,y2,kn _ _ _ _ _,kU bc _,jl br _⟩⟩
    obtain ⟨hv1,hv2⟩:=hv;have s12:=s1.trans s2;have hc2:=hc.mono s12;obtain ⟨dx2,fs2,d2,i1,i2,kvs,e2,pw⟩:=hc2.ob;have lk:kvs.length=now.length:=Paired.length pw;apply cu i1 T.cl_ak T.naC_cloths i2.c ?_;apply ⟨d2,kvs,rfl,e2,fun d3 n3=>?_⟩;have s3:=ai.new (o:=HO.dK kvs) n3;have f3:=af (H:=H2) (a:=d3) (o:=HO.dK kvs);generalize upd H2 d3 (HO.dK kvs)=H3 at s3 f3 ⊢;apply aq (SqT.of (s3 _ _ et)) rfl ?_;apply ⟨d3,_,rfl,jJ.k (k:=Bm n) f3 (by rw [lk]; exact aQ (by omega)),?_⟩;have s4:ai H2 (upd H3 d3 (.dK (cJ kvs (Bm n) (.ref x1)))):=s3.later n3;have f4:=af (H:=H3) (a:=d3) (o:=HO.dK (cJ kvs (Bm n) (.ref x1)));have p4:=(pw.but (s4.butL []) Apt.nil).put n (hv1.mono s4)
    have l4:(cJ kvs (Bm n) (.ref x1)).length<=now.length+1:=by
     rw [Paired.length p4]; exact c9
    generalize hk4:cJ kvs (Bm n) (.ref x1)=kvs4 at f4 p4 l4 s4 ⊢;generalize upd H3 d3 (.dK kvs4)=H4 at s4 f4 p4 ⊢;apply aq (SqT.of (s4 _ _ et)) rfl ?_;apply ⟨d3,_,rfl,jJ.k (k:=Bm o) f4 (aQ (by omega)),?_⟩;have s5:ai H2 (upd H4 d3 (.dK (cJ kvs4 (Bm o) (.ref x2)))):=s4.later n3;have f5:=af (H:=H4) (a:=d3) (o:=HO.dK (cJ kvs4 (Bm o) (.ref x2)));have p5:=((pw.but (s5.butL []) Apt.nil).put n (hv1.mono s5)).put o (hv2.mono s5);rw [hk4] at p5;generalize upd H4 d3 (.dK (cJ kvs4 (Bm o) (.ref x2)))=H5 at s5 f5 p5 ⊢;apply ax (s5 _ _ i1) (i2.no _ (by decide +kernel)) ?_;apply ⟨p,la,lb,d3,past,ahead,now,_,rfl,hc2.mono s5,hz,⟨_,f5,p5⟩,fun lb' H6 m6 nl ch=>?_⟩;left;exact q.back (s12.trans s5) lb' H6 m6 nl ch
noncomputable def kg (wd W:Str) (l:List V):List V:=if decide (wd=W)=true then l++[V.str W] else l
theorem iB {wd W:Str} {l:List V} {n:Nat} (h:l.length<=n):(kg wd W l).length<=n+1:=by
 unfold kg
 split
 ·rw [Av,HU]; omega
 ·omega
structure oW (K:A_) (t:Ad) (C:ς) (wd:Str) (ws:List Str):Prop where
 xi:eY K C
 k1:IF K (.ref C) (.ref t.a_ad)=some (decide (wd="name"))
 k2:IF K (.ref C) (.ref t.a_aj)=some (decide (wd="taken"))
 k3:IF K (.ref C) (.ref t.a_ab)=some (decide (wd="cloth"))
 k4:IF K (.ref C) (.ref t.a_ae)=some (decide (wd="line"))
 k5:IF K (.ref C) (.ref t.a_ag)=some (decide (wd="bit"))
 k6:IF K (.ref C) (.ref t.a_ac)=some (decide (wd="size"))
 k7:IF K (.ref C) (.ref t.a_ah)=some (decide (wd="unfit"))
 k8:IF K (.ref C) (.ref t.a_aa)=some (decide (wd="left"))
 fin:(kg wd "left" (kg wd "unfit" (kg wd "size" (kg wd "bit" (kg wd "line" (kg wd "cloth" (kg wd "taken" (kg wd "name" []))))))))=ws.map V.str
theorem Txt.c8_BadName (T:Txt K mg t):oW K t t.a_ad "name" ["name"]:=⟨T.xi_ad,T.kt_ad_ad,T.kt_ad_aj,T.kt_ad_ab,T.kt_ad_ae,T.kt_ad_ag,T.kt_ad_ac,T.kt_ad_ah,T.kt_ad_aa,by decide +kernel⟩
theorem Txt.c8_Taken (T:Txt K mg t):oW K t t.a_aj "taken" ["taken"]:=⟨T.xi_aj,T.kt_aj_ad,T.kt_aj_aj,T.kt_aj_ab,T.kt_aj_ae,T.kt_aj_ag,T.kt_aj_ac,T.kt_aj_ah,T.kt_aj_aa,by decide +kernel⟩
theorem Txt.c8_NoCloth (T:Txt K mg t):oW K t t.a_ab "cloth" ["cloth"]:=⟨T.xi_ab,T.kt_ab_ad,T.kt_ab_aj,T.kt_ab_ab,T.kt_ab_ae,T.kt_ab_ag,T.kt_ab_ac,T.kt_ab_ah,T.kt_ab_aa,by decide +kernel⟩
theorem Txt.c8_NoLine (T:Txt K mg t):oW K t t.a_ae "line" ["line"]:=⟨T.xi_ae,T.kt_ae_ad,T.kt_ae_aj,T.kt_ae_ab,T.kt_ae_ae,T.kt_ae_ag,T.kt_ae_ac,T.kt_ae_ah,T.kt_ae_aa,by decide +kernel⟩
theorem Txt.c8_BadBit (T:Txt K mg t):oW K t t.a_ag "bit" ["bit"]:=⟨T.xi_ag,T.kt_ag_ad,T.kt_ag_aj,T.kt_ag_ab,T.kt_ag_ae,T.kt_ag_ag,T.kt_ag_ac,T.kt_ag_ah,T.kt_ag_aa,by decide +kernel⟩
theorem Txt.c8_BadSize (T:Txt K mg t):oW K t t.a_ac "size" ["size"]:=⟨T.xi_ac,T.kt_ac_ad,T.kt_ac_aj,T.kt_ac_ab,T.kt_ac_ae,T.kt_ac_ag,T.kt_ac_ac,T.kt_ac_ah,T.kt_ac_aa,by decide +kernel⟩
theorem Txt.c8_Unfit (T:Txt K mg t):oW K t t.a_ah "unfit" ["unfit"]:=⟨T.xi_ah,T.kt_ah_ad,T.kt_ah_aj,T.kt_ah_ab,T.kt_ah_ae,T.kt_ah_ag,T.kt_ah_ac,T.kt_ah_ah,T.kt_ah_aa,by decide +kernel⟩
theorem Txt.c8_BadText (T:Txt K mg t):oW K t t.a_af "text" []:=⟨T.xi_af,T.kt_af_ad,T.kt_af_aj,T.kt_af_ab,T.kt_af_ae,T.kt_af_ag,T.kt_af_ac,T.kt_af_ah,T.kt_af_aa,by decide +kernel⟩
def sp_bv (K:A_) (t:Ad):Sp:=fun vs H Q _=>∃ (e C:ς) (xo:Option ς) (wd:Str) (ws:List Str),vs=[.ref e]/\H e=some (tU e C xo)/\oW K t C wd ws/\∀ l H',ai H H'->H l=none->H' l=some (.lst (ws.map V.str))->Q (.ref l) H'
theorem qu (T:Txt K mg t):zA P w K mg base 1 t.f_bv t.d_bv ["_law_e"] (sp_bv K t):=by
 refine T.F_bv.okQ sc_bv (by walk_at "l") (fun _ _ _ s H vs Q E hr h=>?_)
 ·obtain ⟨e,C,xo,wd,ws,rfl,he,c,k⟩:=h;refine aF (aI 1 sc_bv.nd (bO ae)) fun _ _=>aF (dw (aK (cm (av (cB K rfl) rfl T.no_bp (by rfl) (aa (pv 0) (aa (dv (v:=.ref _) rfl T.mg_ad rfl) ae)))) (aj (aZ (iH K rfl HV HZ HY bS (pv 1) (aa ao ae)))) aB)) fun _ _=>aF (dw (aK (cm (av (cB K rfl) rfl T.no_bp (by rfl) (aa (pv 0) (aa (dv (v:=.ref _) rfl T.mg_aj rfl) ae)))) (aj (aZ (iH K rfl HV HZ HY bS (pv 1) (aa ao ae)))) aB)) fun _ _=>aF (dw (aK (cm (av (cB K rfl) rfl T.no_bp (by rfl) (aa (pv 0) (aa (dv (v:=.ref _) rfl T.mg_ab rfl) ae)))) (aj (aZ (iH K rfl HV HZ HY bS (pv 1) (aa ao ae)))) aB)) fun _ _=>aF (dw (aK (cm (av (cB K rfl) rfl T.no_bp (by rfl) (aa (pv 0) (aa (dv (v:=.ref _) rfl T.mg_ae rfl) ae)))) (aj (aZ (iH K rfl HV HZ HY bS (pv 1) (aa ao ae)))) aB)) fun _ _=>aF (dw (aK (cm (av (cB K rfl) rfl T.no_bp (by rfl) (aa (pv 0) (aa (dv (v:=.ref _) rfl T.mg_ag rfl) ae)))) (aj (aZ (iH K rfl HV HZ HY bS (pv 1) (aa ao ae)))) aB)) fun _ _=>aF (dw (aK (cm (av (cB K rfl) rfl T.no_bp (by rfl) (aa (pv 0) (aa (dv (v:=.ref _) rfl T.mg_ac rfl) ae)))) (aj (aZ (iH K rfl HV HZ HY bS (pv 1) (aa ao ae)))) aB)) fun _ _=>aF (dw (aK (cm (av (cB K rfl) rfl T.no_bp (by rfl) (aa (pv 0) (aa (dv (v:=.ref _) rfl T.mg_ah rfl) ae)))) (aj (aZ (iH K rfl HV HZ HY bS (pv 1) (aa ao ae)))) aB)) fun _ _=>aF (dw (aK (cm (av (cB K rfl) rfl T.no_bp (by rfl) (aa (pv 0) (aa (dv (v:=.ref _) rfl T.mg_aa rfl) ae)))) (aj (aZ (iH K rfl HV HZ HY bS (pv 1) (aa ao ae)))) aB)) fun _ _=>cH (az (pv 1)) fun _ _=>?_;apply ⟨Hs _,fun l nl=>?_⟩;have s0:ai H (upd H l (.lst [])):=ai.new nl;have f0:=af (H:=H) (a:=l) (o:=HO.lst []);have z0:([]:List V).length<=0:=Ω _;generalize upd H l (HO.lst [])=H0 at s0 f0 ⊢;apply dz (fun σ' H'=>σ'=[some (.ref e),some (.ref l)]/\ai H H'/\H' l=some (.lst (kg wd "name" []))) ?_ ?_
  ·apply fj (s0 _ _ he) c.xi c.k1 ?_;left
   cases hd:decide (wd="name") with
   | false =>
    left;exact ⟨rfl,s0,by unfold kg; rw [hd]; exact f0⟩
   | true =>
    apply cV f0 ?_;apply bT f0 (aQ (by omega)) ?_;left;exact ⟨rfl,s0.later nl,by rw [af]; unfold kg; rw [hd]; rfl⟩
  rintro σ1 H1 ⟨rfl,s1,f1⟩;have z1:=iB (wd:=wd) (W:="name") z0;apply dz (fun σ' H'=>σ'=[some (.ref e),some (.ref l)]/\ai H H'/\H' l=some (.lst (kg wd "taken" (kg wd "name" [])))) ?_ ?_
  ·apply fj (s1 _ _ he) c.xi c.k2 ?_;left
   cases hd:decide (wd="taken") with
   | false =>
    left;exact ⟨rfl,s1,by unfold kg; rw [hd]; exact f1⟩
   | true =>
    apply cV f1 ?_;apply bT f1 (aQ (by omega)) ?_;left;exact ⟨rfl,s1.later nl,by rw [af]; unfold kg; rw [hd]; rfl⟩
  rintro σ2 H2 ⟨rfl,s2,f2⟩;have z2:=iB (wd:=wd) (W:="taken") z1;apply dz (fun σ' H'=>σ'=[some (.ref e),some (.ref l)]/\ai H H'/\H' l=some (.lst (kg wd "cloth" (kg wd "taken" (kg wd "name" []))))) ?_ ?_
  ·apply fj (s2 _ _ he) c.xi c.k3 ?_;left
   cases hd:decide (wd="cloth") with
   | false =>
    left;exact ⟨rfl,s2,by unfold kg; rw [hd]; exact f2⟩
   | true =>
    apply cV f2 ?_;apply bT f2 (aQ (by omega)) ?_;left;exact ⟨rfl,s2.later nl,by rw [af]; unfold kg; rw [hd]; rfl⟩
  rintro σ3 H3 ⟨rfl,s3,f3⟩;have z3:=iB (wd:=wd) (W:="cloth") z2;apply dz (fun σ' H'=>σ'=[some (.ref e),some (.ref l)]/\ai H H'/\H' l=some (.lst (kg wd "line" (kg wd "cloth" (kg wd "taken" (kg wd "name" [])))))) ?_ ?_
  ·apply fj (s3 _ _ he) c.xi c.k4 ?_;left
   cases hd:decide (wd="line") with
   | false =>
    left;exact ⟨rfl,s3,by unfold kg; rw [hd]; exact f3⟩
   | true =>
    apply cV f3 ?_;apply bT f3 (aQ (by omega)) ?_;left;exact ⟨rfl,s3.later nl,by rw [af]; unfold kg; rw [hd]; rfl⟩
  rintro σ4 H4 ⟨rfl,s4,f4⟩;have z4:=iB (wd:=wd) (W:="line") z3;apply dz (fun σ' H'=>σ'=[some (.ref e),some (.ref l)]/\ai H H'/\H' l=some (.lst (kg wd "bit" (kg wd "line" (kg wd "cloth" (kg wd "taken" (kg wd "name" []))))))) ?_ ?_
  ·apply fj (s4 _ _ he) c.xi c.k5 ?_;left
   cases hd:decide (wd="bit") with
   | false =>
    left;exact ⟨rfl,s4,by unfold kg; rw [hd]; exact f4⟩
   | true =>
    apply cV f4 ?_;apply bT f4 (aQ (by omega)) ?_;left;exact ⟨rfl,s4.later nl,by rw [af]; unfold kg; rw [hd]; rfl⟩
  rintro σ5 H5 ⟨rfl,s5,f5⟩;have z5:=iB (wd:=wd) (W:="bit") z4;apply dz (fun σ' H'=>σ'=[some (.ref e),some (.ref l)]/\ai H H'/\H' l=some (.lst (kg wd "size" (kg wd "bit" (kg wd "line" (kg wd "cloth" (kg wd "taken" (kg wd "name" [])))))))) ?_ ?_
  ·apply fj (s5 _ _ he) c.xi c.k6 ?_;left
   cases hd:decide (wd="size") with
   | false =>
    left;exact ⟨rfl,s5,by unfold kg; rw [hd]; exact f5⟩
   | true =>
    apply cV f5 ?_;apply bT f5 (aQ (by omega)) ?_;left;exact ⟨rfl,s5.later nl,by rw [af]; unfold kg; rw [hd]; rfl⟩
  rintro σ6 H6 ⟨rfl,s6,f6⟩;have z6:=iB (wd:=wd) (W:="size") z5;apply dz (fun σ' H'=>σ'=[some (.ref e),some (.ref l)]/\ai H H'/\H' l=some (.lst (kg wd "unfit" (kg wd "size" (kg wd "bit" (kg wd "line" (kg wd "cloth" (kg wd "taken" (kg wd "name" []))))))))) ?_ ?_
  ·apply fj (s6 _ _ he) c.xi c.k7 ?_;left
   cases hd:decide (wd="unfit") with
   | false =>
    left;exact ⟨rfl,s6,by unfold kg; rw [hd]; exact f6⟩
   | true =>
    apply cV f6 ?_;apply bT f6 (aQ (by omega)) ?_;left;exact ⟨rfl,s6.later nl,by rw [af]; unfold kg; rw [hd]; rfl⟩
  rintro σ7 H7 ⟨rfl,s7,f7⟩;have z7:=iB (wd:=wd) (W:="unfit") z6;apply dz (fun σ' H'=>σ'=[some (.ref e),some (.ref l)]/\ai H H'/\H' l=some (.lst (kg wd "left" (kg wd "unfit" (kg wd "size" (kg wd "bit" (kg wd "line" (kg wd "cloth" (kg wd "taken" (kg wd "name" [])))))))))) ?_ ?_
  ·apply fj (s7 _ _ he) c.xi c.k8 ?_;left
   cases hd:decide (wd="left") with
   | false =>
    left;exact ⟨rfl,s7,by unfold kg; rw [hd]; exact f7⟩
   | true =>
    apply cV f7 ?_;apply bT f7 (aQ (by omega)) ?_;left;exact ⟨rfl,s7.later nl,by rw [af]; unfold kg; rw [hd]; rfl⟩
  rintro σ8 H8 ⟨rfl,s8,f8⟩;have z8:=iB (wd:=wd) (W:="left") z7;left;rw [c.fin] at f8;exact k l H8 s8 nl f8
def sp_by (C:ς):Sp:=fun vs H Q _=>∃ (p:ς) (s:Int) (cs rs:List Int),vs=[.ref p]/\aO C H p s cs rs/\∀ tp c r H',ai H H'->H c=none->H r=none->H' tp=some (.tup [.int s,.ref c,.ref r])->H' c=some (.lst (cs.map V.int))->H' r=some (.lst (rs.map V.int))->Q (.ref tp) H'
theorem ok_by (T:Txt K mg t):aR P w K mg base CX0 2 t.f_by t.d_by ["_law_cloth"] (sp_by t.a_ai):=by
 refine T.F_by.ok sc_by (by walk_at "l") (fun _ _ _ s H vs Q E hr h=>?_)
 ·obtain ⟨p,s,cs,rs,rfl,hc,z⟩:=h;obtain ⟨dx,a,b,e1,e2,e3⟩:=hc.ob;refine ⟨_,(aj (az (bh (aa (aT (pv 0) T.cl_ai T.m_ap (ok_ap T) (rmo hr) T.b_ap .nil aV) (aa (aT (pv 0) T.cl_ai T.m_au (ok_au T) (rmo hr) T.b_au .nil aV) (aa (aT (pv 0) T.cl_ai T.m_ar (ok_ar T) (rmo hr) T.b_ar .nil aV) ae)))))),?_⟩;apply ax e1 (dj _ _ _ (by decide +kernel)) ?_;apply ⟨p,s,cs,rs,rfl,hc,?_⟩;apply ax e1 (dj _ _ _ (by decide +kernel)) ?_;apply ⟨p,s,cs,rs,rfl,hc,fun l1 n1=>?_⟩;have s1:=ai.new (o:=HO.lst (cs.map V.int)) n1;apply ax (s1 _ _ e1) (dj _ _ _ (by decide +kernel)) ?_;apply ⟨p,s,cs,rs,rfl,hc.mono s1,fun l2 n2=>?_⟩;have s2:=ai.new (o:=HO.lst (rs.map V.int)) n2;apply ⟨by show 3<=BC; decide,fun tp ntp=>?_⟩;have s3:=ai.new (o:=HO.tup [V.int s,V.ref l1,V.ref l2]) ntp;exact z tp l1 l2 _ (s1.trans (s2.trans s3)) n1 (s1.free n2) af (s3 _ _ (s2 _ _ af)) (s3 _ _ af)
noncomputable def xB (s:Int) (cs rs:List Int):PyData:=.tuple [.int s,.list (cs.map J0),.list (rs.map J0)]
theorem AK {s:Int} {cs rs:List Int} (bc:bA cs) (br:bA rs):Ok3 (xB s cs rs):=by
 refine .inr (.inr ⟨_,rfl,by show 3<=1000; decide,fun e he=>?_⟩);symm at he;rcases he with rfl | rfl | rfl
 ·exact xy _
 ·exact uM (by have:=bc.1; omega)
 ·exact uM (by have:=br.1; omega)
theorem yO {H:Hp} {tp c r:ς} {s:Int} {cs rs:List Int} (h:H tp=some (.tup [.int s,.ref c,.ref r])) (hc:H c=some (.lst (cs.map V.int))) (hr:H r=some (.lst (rs.map V.int))):Rep H (xB s cs rs) (.ref tp):=by
 have r1:=kO hc;have r2:=kO hr;simp only [xB,Rep,RepL] at r1 r2 ⊢;exact ⟨tp,_,rfl,h,_,_,rfl,rfl,_,_,rfl,r1,_,_,rfl,r2,rfl⟩
end
section
variable {X:Cx}
theorem CK {e:II} {t1 t2:TT} (h1:PT X e t1) (h2:PT X e t2):PT X e (fun σ H Q=>t1 σ H Q\/t2 σ H Q):=fun pins s σ H Q I h=>h.elim (h1 pins s σ H Q I) (h2 pins s σ H Q I)
theorem x9 (bk:Bk) (n:Str):decide (n∈bk.map (·.1))=(aL bk n).isSome:=by
 unfold aL
 induction bk with
 | nil=>rfl
 | cons nc bk ih =>
  rw [Ho,Jf];by_cases e:nc.1=n
  ·rw [aX e,aX (by rw [e]; exact Θ)]; rfl
  ·rw [bI e]
   show _=(Option.map _ (List.find? _ bk)).isSome
   rw [<- ih];exact decide_eq_decide.mpr ⟨fun h=>(Ξ.mp h).resolve_left fun z=>e z.symm,Au _⟩
theorem kP {H:Hp} {l:ς} {ns:List Str} (e:H l=some (.lst (ns.map V.str))):Rep H (.list (ns.map KH)) (.ref l):=by
 simp only [Rep];refine ⟨l,_,rfl,e,?_⟩;clear e
 induction ns with
 | nil=>simp [RepL]
 | cons a r ih=>simp only [Ho,RepL]; exact ⟨_,_,rfl,rfl,ih⟩
theorem nA {xs:List Str} (h:∀ x∈xs,Bp x=true):Ju (xs.map KH)=true:=by
 induction xs with
 | nil=>rfl
 | cons x xs ih =>
  rw [Ho];simp only [Ju,Lz,h x Θ,LV];exact ih fun y hy=>h y (Au _ hy)
theorem yV {H:Hp} {Q:VK} {l:ς} {xs:List Str} {n:Str} (e:H l=some (.lst (xs.map V.str))) (ho:∀ x∈xs,Bp x=true) (hn:Bp n=true) (q:Q (.bl (decide (n∈xs))) H):Gi (.str n) (.ref l) H Q:=by
 refine ⟨xs.map KH,.str n,kP e,by rw [Rep],nA ho,hn,by show 0<=60; decide,?_⟩;have:((xs.map KH).any fun y=>JS y (.str n))=decide (n∈xs):=by
  clear e ho q
  induction xs with
  | nil => rfl
  | cons x xs ih =>
   rw [Ho,Jk,ih,show JS (.str x) (.str n)=(x==n) from rfl];by_cases e:x=n
   ·rw [e,aX (Θ),beq_self_eq_true,Bool.true_or]
   ·rw [beq_eq_false_iff_ne.mpr e,N4];exact decide_eq_decide.mpr ⟨Au _,fun h=>(Ξ.mp h).resolve_left fun z=>e z.symm⟩
 rw [this];exact q
end
section
variable {P:HS} {w:ID} {K:A_} {mg:Str->Option η} {base:IC} {t:Ad}
def dY (H:Hp) (q:ς) (c:Clo):Prop:=∃ a b,H q=some (.tup [.int c.1,.ref a,.ref b])/\H a=some (.lst (c.2.1.map V.int))/\H b=some (.lst (c.2.2.map V.int))
theorem dY.mono {H H':Hp} {q:ς} {c:Clo} (s:ai H H') (h:dY H q c):dY H' q c:=by
 obtain ⟨a,b,h1,h2,h3⟩:=h;exact ⟨a,b,s _ _ h1,s _ _ h2,s _ _ h3⟩
def dX (c:Clo):Prop:=(c.1=0\/c.1=1)/\bA c.2.1/\bA c.2.2
theorem bQ {c:Bool} {α β:Prop} (h:c=false) (q:β):if c=true then α else β:=by subst h; exact q
theorem bY {c:Bool} {α β:Prop} (h:c=true) (q:α):if c=true then α else β:=by subst h; exact q
def PwL (H:Hp) (kvs:List (Key×V)) (bk:Bk):Prop:=Paired (fun (kv:Key×V) (nc:Str×Clo)=>kv.1=Bm nc.1/\∃ q,kv.2=.ref q/\dY H q nc.2) kvs bk
def LB (H:Hp) (b:ς) (bk:Bk):Prop:=∃ kvs,H b=some (.dK kvs)/\PwL H kvs bk
theorem LB.mono {H H':Hp} {b:ς} {bk:Bk} (s:ai H H') (h:LB H b bk):LB H' b bk:=by
 obtain ⟨kvs,e,p⟩:=h;exact ⟨kvs,s _ _ e,Paired.mapP p fun _ _ ⟨z,q,e,r⟩=>⟨z,q,e,r.mono s⟩⟩
theorem PwL.get {H:Hp} {kvs:List (Key×V)} {bk:Bk} (h:PwL H kvs bk) (n:Str):(eX kvs (Bm n)=none/\aL bk n=none)\/∃ q c,eX kvs (Bm n)=some (.ref q)/\aL bk n=some c/\dY H q c:=by
 induction h with
 | nil=>exact .inl ⟨rfl,rfl⟩
 | @cons p nc ps ncs r _ ih =>
  by_cases e:nc.1=n
  ·obtain ⟨r1,q,r2,r3⟩:=r;exact .inr ⟨q,nc.2,by rw [ji ((dZ r1).mpr e),r2],by unfold aL; rw [Lq (by simpa using e)]; rfl,r3⟩
  ·have e1:eX (p::ps) (Bm n)=eX ps (Bm n):=jh fun z=>e ((dZ r.1).mp z);have e2:aL (nc::ncs) n=aL ncs n:=by unfold aL; rw [Lr (by simpa using e)]
   rw [e1,e2]; exact ih
noncomputable def cO (bk:Bk) (n:Str):Str:=if bR n=true then (if (aL bk n).isSome=true then "taken" else "") else "name"
noncomputable def aM (wy:Str) (c:Clo):List Int:=if wy="row" then c.2.2 else c.2.1
noncomputable def cG (c:Clo) (wy:Str) (k more:Int):Str:=if ("col"=wy\/"row"=wy)/\0<=k/\k<(aM wy c).length+more then "" else "line"
noncomputable def cf (c:Clo) (wy:Str) (bs:List Int):Clo:=if wy="col" then (c.1,bs,c.2.2) else (c.1,c.2.1,bs)
noncomputable def bZ (wy:Str) (c:Clo):List Int:=if wy="row" then c.2.1 else c.2.2
noncomputable def sdI (wy:Str):Int:=1+(if decide (wy="row")=true then 1 else 0)
theorem dY.side {H:Hp} {q:ς} {c:Clo} (h:dY H q c) (wy:Str):∃ a b x y,H q=some (.tup [.int c.1,.ref a,.ref b])/\H a=some (.lst (c.2.1.map V.int))/\H b=some (.lst (c.2.2.map V.int))/\atI [V.int c.1,V.ref a,V.ref b] (sdI wy)=some (.ref x)/\H x=some (.lst ((aM wy c).map V.int))/\atI [V.int c.1,V.ref a,V.ref b] (3 - sdI wy)=some (.ref y)/\H y=some (.lst ((bZ wy c).map V.int)):=by
 obtain ⟨a,b,h1,h2,h3⟩:=h;unfold sdI aM bZ;by_cases e:wy="row"
 ·rw [aX e,if_pos rfl,if_pos e,if_pos e];exact ⟨a,b,b,a,h1,h2,h3,rfl,h3,rfl,h2⟩
 ·rw [bI e,if_neg (by decide),if_neg e,if_neg e];exact ⟨a,b,a,b,h1,h2,h3,rfl,h2,rfl,h3⟩
def sp_bl:Sp:=fun vs H Q _=>∃ (q l:ς) (wy:Str) (c:Clo) (bs:List Int),vs=[.ref q,.str wy,.ref l]/\dY H q c/\H l=some (.lst (bs.map V.int))/\∀ r H',ai H H'->dY H' r (cf c wy bs)->Q (.ref r) H'
theorem ok_bl (T:Txt K mg t):aR P w K mg base CX0 1 t.f_bl t.d_bl ["_law_plan","_law_way","_law_bits_here"] sp_bl:=by
 refine T.F_bl.ok sc_bl (by walk_at "l") (fun _ _ _ s H vs Q E hr h=>?_)
 ·obtain ⟨q,l,wy,c,bs,rfl,⟨a,b,hq,ha,hb⟩,hl,k⟩:=h;refine ⟨_,(aH (aK (aN bD (pv 1) ao) (aj (az (bh (aa (aw (au K rfl) (pv 0) ag) (aa (pv 2) (aa (aw (au K rfl) (pv 0) ag) ae)))))) aB) (aj (az (bh (aa (aw (au K rfl) (pv 0) ag) (aa (aw (au K rfl) (pv 0) ag) (aa (pv 2) ae))))))),?_⟩;unfold cf at k;left;by_cases hw:wy="col"
  ·refine bY (aX hw) ?_;rw [if_pos hw] at k;apply aq (SqT.of hq) rfl ?_;apply aq (SqT.of hq) rfl ?_;apply nwT fun r H1 sr nr er=>?_;exact k r H1 sr ⟨l,b,er,sr _ _ hl,sr _ _ hb⟩
  ·refine bQ (bI hw) ?_;rw [if_neg hw] at k;apply aq (SqT.of hq) rfl ?_;apply aq (SqT.of hq) rfl ?_;apply nwT fun r H1 sr nr er=>?_;exact k r H1 sr ⟨a,l,er,sr _ _ ha,sr _ _ hl⟩
def sp_a1:Sp:=fun vs H Q _=>∃ (q:ς) (wy:Str) (k m:Int) (c:Clo),vs=[.ref q,.str wy,.int k,.int m]/\dY H q c/\Bp wy=true/\∀ H',ai H H'->Q (.str (cG c wy k m)) H'
theorem ok_a1 (T:Txt K mg t):aR P w K mg base CX0 1 t.f_a1 t.d_a1 ["_law_plan","_law_way","_law_k","_law_more"] sp_a1:=by
 refine T.F_a1.ok sc_a1 (by walk_at "l") (fun _ _ _ s H vs Q E hr h=>?_)
 ·obtain ⟨q,wy,k,m,c,rfl,⟨a,b,hq,ha,hb⟩,ow,z⟩:=h;refine aF (aK (fh (js hr.units) (pv 1) (bh (aa ao (aa ao ae))) rfl) (aj (az ao)) aB) fun _ _=>aF (aK (PW.pt (fK (aN nN (pv 2) ag) (eF (aN Gb (pv 2) (ay bf (av (bJ K rfl) rfl T.no_len (by rfl) (aa (aw (au K rfl) (pv 0) (ay bf ag (aW lh rfl T.no_int (by rfl) (aa (iI bD (pv 1) ao) ae)))) ae)) (pv 3)))))) (aj (az ao)) aB) fun _ _=>cH (az ao) fun _ _=>?_;apply nwT fun r H1 sr nr er=>?_;refine iO er (by decide +kernel) (by decide +kernel) ow ?_;by_cases hw:"col"=wy\/"row"=wy
  rotate_left
  ·have h1:decide (("col":Str)=wy)=false:=bI fun e=>hw (.inl e);have h2:decide (("row":Str)=wy)=false:=bI fun e=>hw (.inr e);rw [h1,h2];left;have:=z H1 sr
   unfold cG at this;rw [if_neg fun e=>hw e.1] at this;exact this
  have h1:(!(decide (("col":Str)=wy)||decide (("row":Str)=wy)))=false:=by
   rcases hw with e | e
   ·rw [aX e]; rfl
   ·rw [aX e,Ls]; rfl
  rw [h1];left;by_cases h2:k<0
  ·refine bY (aX h2) ?_;left;have:=z H1 sr
   unfold cG at this;rw [if_neg fun e=>by have:=e.2.1; omega] at this;exact this
  refine bQ (bI h2) ?_;obtain ⟨a',b',x,y,g1,_,_,i1,gx,_,_⟩:=(dY.mono sr ⟨a,b,hq,ha,hb⟩).side wy;apply aq (SqT.of g1) i1 ?_;apply bM gx ?_;rw [ξ];left;have z:=z H1 sr;unfold cG at z;by_cases h3:k<(aM wy c).length+m
  ·rw [if_pos ⟨hw,by omega,h3⟩] at z;rw [bI (by omega:¬ ((aM wy c).length:Int)+m<=k)];left;exact z
  ·rw [if_neg fun e=>h3 e.2.2] at z;rw [aX (by omega:((aM wy c).length:Int)+m<=k)];left;exact z
theorem vm {c:Nat}:oE c=decide (c∈(("abcdefghijklmnopqrstuvwxyz":Str)).cps.toList):=by
 have el:(("abcdefghijklmnopqrstuvwxyz":Str)).cps.toList=(Io 26).map (97+·):=by decide +kernel
 have ea:(("a":Str)).cps.toList=[97]:=by decide +kernel
 have ez:(("z":Str)).cps.toList=[122]:=by decide +kernel
 have lt1:∀ {c d:Nat},[c]<[d]↔c<d:=fun {c d}=>by
  rw [List.cons_lt_cons_iff];exact ⟨fun h=>h.elim id fun h=>absurd h.2 (by decide),.inl⟩
 unfold oE;rw [ea,ez,el];have e1:decide ((sgn c).cps.toList<[97])=decide (c<97):=decide_eq_decide.mpr lt1;have e2:decide ([122]<(sgn c).cps.toList)=decide (122<c):=decide_eq_decide.mpr lt1;rw [e1,e2];by_cases h:97<=c/\c<=122
 ·rw [bI (by omega:¬ c<97),bI (by omega:¬ 122<c),aX (Hv.mpr ⟨c - 97,MF.mpr (by omega),by omega⟩)]; rfl
 ·rw [bI (p:=c∈_) (fun z=>h (by obtain ⟨i,hi,rfl⟩:=Hv.mp z; have:=MF.mp hi; omega))];by_cases h1:c<97
  ·rw [aX h1]; rfl
  ·rw [aX (by omega:122<c),N3,LA]
def sp_aE:Sp:=fun vs H Q _=>∃ (b:ς) (n:Str) (bk:Bk),vs=[.ref b,.str n]/\(LB H b bk\/(H b=some (.lst (bk.map fun nc=>V.str nc.1))/\(∀ nc∈bk,Bp nc.1=true)/\Bp n=true))/\n.cps.size<=4000/\∀ H',ai H H'->Q (.str (cO bk n)) H'
theorem ok_aE (T:Txt K mg t):aR P w K mg base CX0 1 t.f_aE t.d_aE ["_law_book","_law_name"] sp_aE:=by
 refine T.F_aE.ok sc_aE (by walk_at "l") (fun _ _ _ s H vs Q E hr h=>?_)
 ·obtain ⟨b,n,bk,rfl,hb,hz,k⟩:=h;refine aF (fH (i:=2) sc_aE.nd rfl (L0 rfl) ao) fun _ _=>aF (aK (PW.pt (fK (aN nN (av gM rfl T.no_len (by rfl) (aa (pv 1) ae)) ag) (fK (aN kK (av gM rfl T.no_len (by rfl) (aa (pv 1) ae)) ag) (eF (dR (cm (av (gL K rfl rfl) rfl T.no_all (by rfl) (aa (cT (N:=["_law_sign","_law_letters"]) (cap:=[none,some 2]) rfl ⟨rfl,rfl,rfl,rfl,rfl,rfl⟩ (jw (pv 1)) (fun _ _ _=>(aY (i:=0) (show (["_law_sign","_law_letters"]:List Str).Nodup by decide +kernel) rfl (IQ rfl))) (fun _ _ _=>cD) (fun _ _ _=>(mJ lG (pv 0) (pv 1) rfl))) ae)))))))) (aj (az ao)) aB) fun _ _=>aF (aK (CK (iK (we (cY hr) (pv 1) (pv 0))) (fh (Ax hr.units) (pv 1) (pv 0) rfl)) (aj (az ao)) aB) fun _ _=>cH (az ao) fun _ _=>?_;have hz':n.length<=sizeLine:=BA hz (by decide);have bad:bR n=false->∀ H',ai H H'->Q (.str "name") H':=fun h H' s'=>by
   have:=k H' s'
   unfold cO at this;rw [h,if_neg (by decide)] at this;exact this
  apply hG hz' ?_;left;have en:bR n=(decide (0<n.cps.size)&&decide (n.cps.size<=12)&&n.cps.toList.all oE):=rfl;by_cases h1:((n.length:Nat):Int)<1
  ·refine bY (aX h1) ?_;left;exact bad (by rw [en,bI (by have:n.length=n.cps.size:=rfl; omega:¬ 0<n.cps.size)]; rfl) H (ai.refl _)
  refine bQ (bI h1) ?_;apply hG hz' ?_;left;by_cases h2:(12:Int)<((n.length:Nat):Int)
  ·refine bY (aX h2) ?_;left;exact bad (by rw [en,bI (by have:n.length=n.cps.size:=rfl; omega:¬ n.cps.size<=12),LA]; rfl) H (ai.refl _)
  refine bQ (bI h2) ?_;apply ⟨n,rfl,fun l nl=>?_⟩;refine dU ((n.cps.toList.map oE).map V.bl) (by rw [ξ,ξ,HK]) hz nl (fun i c y o H' Q' hc hy s5 q=>?_) (fun H1 s1 e1=>?_)
  ·rw [BD,BD,IK,hc] at hy
   cases hy;apply ⟨_,_,rfl,rfl,?_⟩;rw [qZ,<- vm];exact q _ (ai.refl _)
  apply iL e1 ?_;rw [K1,show (id∘oE)=oE from rfl];rw [aX (by have:n.length=n.cps.size:=rfl; omega:0<n.cps.size),aX (by have:n.length=n.cps.size:=rfl; omega:n.cps.size<=12),LV,LV] at en;rw [<- en];left
  cases hn:bR n with
  | false =>
   left;exact bad hn H1 s1
  | true =>
   left;have k:=k H1 s1;unfold cO at k;rw [hn,if_pos rfl] at k;rcases hb with hb | ⟨hb,ho,hno⟩
   ·obtain ⟨kvs,g1,pw⟩:=hb.mono s1;refine .inl ?_;apply ⟨b,_,rfl,dP.k (k:=Bm n) g1,?_⟩;rcases pw.get n with ⟨g2,g3⟩ | ⟨v,c,g2,g3,_⟩
    ·rw [g3] at k;rw [g2,JO];left;exact k
    ·rw [g3] at k;rw [g2,JC];left;exact k
   ·refine .inr ?_;left;have e2:H1 b=some (.lst ((bk.map (·.1)).map V.str)):=by rw [IV]; exact s1 _ _ hb
    refine yV e2 (fun x hx=>?_) hno ?_
    ·obtain ⟨nc,hm,rfl⟩:=Hv.mp hx;exact ho nc hm
    ·rw [show decide (n∈bk.map (·.1))=(aL bk n).isSome from x9 bk n];left
     cases hg:(aL bk n).isSome with
     | false =>
      rw [hg,if_neg (by decide)] at k;left;exact k
     | true =>
      rw [hg,if_pos rfl] at k;left;exact k
noncomputable def jB (c:Clo) (wy:Str) (n:Int):List Int:=(bZ wy c).map fun b=>(b+n)%2
noncomputable def oC (c:Clo) (wy:Str) (k:Nat):Clo:=if wy="col" then ((c.1+((aM wy c).take (k+1)).sum)%2,c.2.1.drop (k+1),jB c wy (k+1)) else ((c.1+((aM wy c).take (k+1)).sum)%2,jB c wy (k+1),c.2.2.drop (k+1))
theorem b8 {c:Clo} (h:dX c) (wy:Str):bA (aM wy c):=by
 unfold aM; split
 ·exact h.2.2
 ·exact h.2.1
theorem fW {c:Clo} (h:dX c) (wy:Str):bA (bZ wy c):=by
 unfold bZ; split
 ·exact h.2.1
 ·exact h.2.2
theorem oR {bs:List Int} (h:bA bs) (n:Nat):gA (bs.take n):=jK (fun z hz=>h.2 z (IP hz)) (by rw [Hw]; have:=h.1; omega)
def sp_bo:Sp:=fun vs H Q _=>∃ (q:ς) (wy:Str) (k:Nat) (c:Clo),vs=[.ref q,.str wy,.int (k:Nat)]/\dY H q c/\dX c/\("col"=wy\/"row"=wy)/\k<(aM wy c).length/\∀ tp r1 r2 H',ai H H'->H' tp=some (.tup [.ref r1,.ref r2])->dY H' r1 (cf c wy ((aM wy c).take k))->dY H' r2 (oC c wy k)->Q (.ref tp) H'
theorem ok_bo (T:Txt K mg t):aR P w K mg base CX0 2 t.f_bo t.d_bo ["_law_plan","_law_way","_law_k"] sp_bo:=by
 refine T.F_bo.ok sc_bo (by walk_at "l") (fun _ _ _ s H vs Q E hr h=>?_)
 ·obtain ⟨q,wy,k,c,rfl,hq,ck,hw,hk,z⟩:=h;obtain ⟨a,b,x,y,g1,ga,gb,i1,gx,i2,gy⟩:=hq.side wy;have bs:=b8 ck wy;have bx:=fW ck wy;have lx:=bx.1;refine aF (aI 3 sc_bo.nd (ay bf ag (aW lh rfl T.no_int (by rfl) (aa (iI bD (pv 1) ao) ae)))) fun _ _=>aF (aI 4 sc_bo.nd (ay bB (ay bf (aw (au K rfl) (pv 0) ag) (av (mx K rfl rfl) rfl T.no_sum (by rfl) (aa (aU (bE K rfl) (aw (au K rfl) (pv 0) (pv 3)) bu (bz (ay bf (pv 2) ag))) ae))) ag)) fun _ _=>aF (rM (i:=5) sc_bo.nd rfl (IQ rfl) (N:=["_law_bit","_law_k"]) (cap:=[none,some 2]) rfl ⟨rfl,rfl,rfl,rfl,rfl,rfl⟩ (dh (aw (au K rfl) (pv 0) (ay fE ag (pv 3)))) (fun _ _ _=>(aY (i:=0) (show (["_law_bit","_law_k"]:List Str).Nodup by decide +kernel) rfl (IQ rfl))) (fun _ _ _=>cD) (fun _ _ _=>(ay bB (ay bf (ay bf (pv 0) (pv 1)) ag) ag)) (by rfl)) fun _ _=>aF (aI 6 sc_bo.nd (aD (ok_bl T) (rmo hr) rfl T.mg_bl T.F_bl.kp T.b_bl .nil aV (aa (pv 0) (aa (pv 1) (aa (aU (bE K rfl) (aw (au K rfl) (pv 0) (pv 3)) bu (bz (pv 2))) ae))))) fun _ _=>aF (aK (aN bD (pv 1) ao) (aj (az (bh (aa (pv 6) (aa (bh (aa (pv 4) (aa (aU (bE K rfl) (aw (au K rfl) (pv 0) ag) (bz (ay bf (pv 2) ag)) bu) (aa (pv 5) ae)))) ae))))) aB) fun _ _=>cH (az (bh (aa (pv 6) (aa (bh (aa (pv 4) (aa (pv 5) (aa (aU (bE K rfl) (aw (au K rfl) (pv 0) ag) (bz (ay bf (pv 2) ag)) bu) ae)))) ae)))) fun _ _=>?_;have es:(1+(if decide (wy="row")=true then (1:Int) else 0))=sdI wy:=rfl;left;rw [es];generalize sdI wy=sd at i1 i2;refine aq (SqT.of g1) rfl ?_;apply aq (SqT.of g1) i1 ?_;apply ed gx fun l1 H1 s1 _ e1=>?_;rw [dW (by omega),show ((k:Int)+1).toNat=k+1 by omega] at e1;apply xJ e1 (oR bs _) ?_;apply bV (by decide) ?_;apply aq (SqT.of (s1 _ _ g1)) i2 ?_;apply ⟨⟨_,SqL.of (s1 _ _ gy)⟩,fun l2 n2=>?_⟩;refine iu ((jB c wy (k+1)).map V.int) (by unfold jB; rw [ξ,ξ,ξ]) (SqL.of (s1 _ _ gy)) (by rw [ξ]; omega) n2 (fun i x y o H' Q' hx hy sB q=>?_) (fun H2 s2 e2=>?_)
  ·unfold jB at hy;rw [BD] at hx;rw [BD,BD] at hy
   cases hb:(bZ wy c)[i]? with
   | none=>rw [hb] at hx; cases hx
   | some b =>
    rw [hb] at hx hy
    cases hx
    cases hy;apply bV (by decide) ?_;left;rw [show b+(k:Int)+1=b+((k:Int)+1) by omega];exact q _ (ai.refl _)
  have s12:=s1.trans s2;apply aq (SqT.of (s12 _ _ g1)) i1 ?_;apply ed (s12 _ _ gx) fun l3 H3 s3 _ e3=>?_;rw [dW (by omega),G_] at e3;have s13:=s12.trans s3;apply ⟨q,l3,wy,c,_,rfl,hq.mono s13,e3,fun r1 H4 s4 p1=>?_⟩;have s14:=s13.trans s4;have e2:=s4 _ _ (s3 _ _ e2);left;have hs:oC c wy k=if wy="col" then ((c.1+((aM wy c).take (k+1)).sum)%2,c.2.1.drop (k+1),jB c wy (k+1)) else ((c.1+((aM wy c).take (k+1)).sum)%2,jB c wy (k+1),c.2.2.drop (k+1)):=rfl
  by_cases hc:wy="col"
  ·rw [if_pos hc] at hs;refine bY (aX hc) ?_;apply aq (SqT.of (s14 _ _ g1)) rfl ?_;apply ed (s14 _ _ ga) fun l5 H5 s5 _ e5=>?_;rw [show ((k:Int)+1)=((k+1:Nat):Int) by omega,dq] at e5;apply nwT fun r2 H6 sr2 nr2 er2=>?_;apply nwT fun tp H7 stp ntp etp=>?_;exact z tp r1 r2 H7 (s14.trans (s5.trans (sr2.trans stp))) etp (p1.mono (s5.trans (sr2.trans stp))) (by rw [hs]; exact ⟨l5,l2,stp _ _ er2,(sr2.trans stp) _ _ e5,(s5.trans (sr2.trans stp)) _ _ e2⟩)
  ·rw [if_neg hc] at hs;refine bQ (bI hc) ?_;apply aq (SqT.of (s14 _ _ g1)) rfl ?_;apply ed (s14 _ _ gb) fun l5 H5 s5 _ e5=>?_;rw [show ((k:Int)+1)=((k+1:Nat):Int) by omega,dq] at e5;apply nwT fun r2 H6 sr2 nr2 er2=>?_;apply nwT fun tp H7 stp ntp etp=>?_;exact z tp r1 r2 H7 (s14.trans (s5.trans (sr2.trans stp))) etp (p1.mono (s5.trans (sr2.trans stp))) (by rw [hs]; exact ⟨l2,l5,stp _ _ er2,(s5.trans (sr2.trans stp)) _ _ e2,(sr2.trans stp) _ _ e5⟩)
noncomputable def unW (c1 c2:Clo) (wy:Str):Str:=if "col"=wy\/"row"=wy then (if (bZ wy c1).length=(bZ wy c2).length/\(aM wy c1).length+(aM wy c2).length<=38 then (if jB c1 wy ((aM wy c1).length+1)=bZ wy c2 then "" else "unfit") else "size") else "line"
theorem wY (c1 c2:Clo) (wy:Str):unW c1 c2 wy=if "col"=wy\/"row"=wy then (if (bZ wy c1).length=(bZ wy c2).length/\(aM wy c1).length+(aM wy c2).length<=38 then (if jB c1 wy ((aM wy c1).length+1)=bZ wy c2 then ("":Str) else ("unfit":Str)) else ("size":Str)) else ("line":Str):=by unfold unW; rfl
noncomputable def unB (c1 c2:Clo) (wy:Str):Clo:=cf c1 wy (aM wy c1++[(c1.1+(aM wy c1).sum+c2.1)%2]++aM wy c2)
def sp_bk:Sp:=fun vs H Q _=>∃ (q1 q2:ς) (wy:Str) (c1 c2:Clo),vs=[.ref q1,.ref q2,.str wy]/\dY H q1 c1/\dY H q2 c2/\dX c1/\dX c2/\Bp wy=true/\∀ tp v H',ai H H'->H' tp=some (.tup [.str (unW c1 c2 wy),v])->(unW c1 c2 wy=""->∃ r,v=.ref r/\dY H' r (unB c1 c2 wy))->Q (.ref tp) H'
theorem ok_bk (T:Txt K mg t):aR P w K mg base CX0 2 t.f_bk t.d_bk ["_law_one","_law_other","_law_way"] sp_bk:=by
 refine T.F_bk.ok sc_bk (by walk_at "l") (fun _ _ _ s H vs Q E hr h=>?_)
 ·obtain ⟨q1,q2,wy,c1,c2,rfl,h1,h2,k1,k2,ow,z⟩:=h;obtain ⟨a1,b1,x1,y1,g1,_,_,i1,gx1,j1,gy1⟩:=h1.side wy;obtain ⟨a2,b2,x2,y2,g2,_,_,i2,gx2,j2,gy2⟩:=h2.side wy;have lx1:=(b8 k1 wy).1;have ly1:=(fW k1 wy).1;have lx2:=(b8 k2 wy).1;have ly2:=(fW k2 wy).1;have bs1:=b8 k1 wy;refine aF (aI 3 sc_bk.nd (ay bf ag (aW lh rfl T.no_int (by rfl) (aa (iI bD (pv 2) ao) ae)))) fun _ _=>aF (aK (fh (js hr.units) (pv 2) (bh (aa ao (aa ao ae))) rfl) (aj (az (bh (aa ao (aa eU ae))))) aB) fun _ _=>aF (aK (PW.pt (fK (aN gG (av (bJ K rfl) rfl T.no_len (by rfl) (aa (aw (au K rfl) (pv 0) (ay fE ag (pv 3))) ae)) (av (bJ K rfl) rfl T.no_len (by rfl) (aa (aw (au K rfl) (pv 1) (ay fE ag (pv 3))) ae))) (eF (aN kK (ay bf (av (bJ K rfl) rfl T.no_len (by rfl) (aa (aw (au K rfl) (pv 0) (pv 3)) ae)) (av (bJ K rfl) rfl T.no_len (by rfl) (aa (aw (au K rfl) (pv 1) (pv 3)) ae))) ag)))) (aj (az (bh (aa ao (aa eU ae))))) aB) fun _ _=>aF (fH (i:=4) sc_bk.nd rfl (L0 rfl) (ay bf (av (bJ K rfl) rfl T.no_len (by rfl) (aa (aw (au K rfl) (pv 0) (pv 3)) ae)) ag)) fun _ _=>aF (aK (aN (Az hr.units) (cT (N:=["_law_bit","_law_wide"]) (cap:=[none,some 4]) rfl ⟨rfl,rfl,rfl,rfl,rfl,rfl⟩ (dh (aw (au K rfl) (pv 0) (ay fE ag (pv 3)))) (fun _ _ _=>(aY (i:=0) (show (["_law_bit","_law_wide"]:List Str).Nodup by decide +kernel) rfl (IQ rfl))) (fun _ _ _=>cD) (fun _ _ _=>(ay bB (ay bf (pv 0) (pv 1)) ag))) (aw (au K rfl) (pv 1) (ay fE ag (pv 3)))) (aj (az (bh (aa ao (aa eU ae))))) aB) fun _ _=>aF (aI 5 sc_bk.nd (ay bB (ay bf (ay bf (aw (au K rfl) (pv 0) ag) (av (mx K rfl rfl) rfl T.no_sum (by rfl) (aa (aw (au K rfl) (pv 0) (pv 3)) ae))) (aw (au K rfl) (pv 1) ag)) ag)) fun _ _=>cH (az (bh (aa ao (aa (aD (ok_bl T) (rmo hr) rfl T.mg_bl T.F_bl.kp T.b_bl .nil aV (aa (pv 0) (aa (pv 2) (aa (ay cP (ay cP (aw (au K rfl) (pv 0) (pv 3)) (bO (aa (pv 5) ae))) (aw (au K rfl) (pv 1) (pv 3))) ae)))) ae)))) fun _ _=>?_;have es:(1+(if decide (wy="row")=true then (1:Int) else 0))=sdI wy:=rfl;have ez:=wY c1 c2 wy;left;rw [es];refine nwT fun r H1 sr nr er=>?_;refine iO er (by decide +kernel) (by decide +kernel) ow ?_;by_cases hw:"col"=wy\/"row"=wy
  rotate_left
  ·rw [bI fun e=>hw (.inl e),bI fun e=>hw (.inr e)];rw [if_neg hw] at ez;apply nwT fun tp H2 stp ntp etp=>?_;exact z tp _ H2 (sr.trans stp) (by rw [ez]; exact etp) fun e=>absurd (ez.symm.trans e) (by decide +kernel)
  rw [if_pos hw] at ez
  have hb:(!(decide (("col":Str)=wy)||decide (("row":Str)=wy)))=false:=by
   rcases hw with e | e
   ·rw [aX e]; rfl
   ·rw [aX e,Ls]; rfl
  rw [hb];generalize sdI wy=sd at i1 i2 j1 j2 ⊢;have g1:=sr _ _ g1;have g2:=sr _ _ g2;have gx1:=sr _ _ gx1;have gx2:=sr _ _ gx2;have gy1:=sr _ _ gy1;have gy2:=sr _ _ gy2;have h1:=h1.mono sr;apply aq (SqT.of g1) j1 ?_;apply bM gy1 ?_;rw [ξ];apply aq (SqT.of g2) j2 ?_;apply bM gy2 ?_;rw [ξ];left;by_cases hl:(bZ wy c1).length=(bZ wy c2).length
  rotate_left
  ·rw [if_neg fun e=>hl e.1] at ez;rw [bI (by omega:¬ ((bZ wy c1).length:Int)=(bZ wy c2).length)];apply nwT fun tp H2 stp ntp etp=>?_;exact z tp _ H2 (sr.trans stp) (by rw [ez]; exact etp) fun e=>absurd (ez.symm.trans e) (by decide +kernel)
  rw [aX (by omega:((bZ wy c1).length:Int)=(bZ wy c2).length)];apply aq (SqT.of g1) i1 ?_;apply bM gx1 ?_;rw [ξ];apply aq (SqT.of g2) i2 ?_;apply bM gx2 ?_;rw [ξ];left;by_cases hm:(aM wy c1).length+(aM wy c2).length<=38
  rotate_left
  ·rw [if_neg fun e=>hm e.2] at ez;rw [aX (by omega:(38:Int)<(aM wy c1).length+(aM wy c2).length)];apply nwT fun tp H2 stp ntp etp=>?_;exact z tp _ H2 (sr.trans stp) (by rw [ez]; exact etp) fun e=>absurd (ez.symm.trans e) (by decide +kernel)
  rw [if_pos ⟨hl,hm⟩] at ez;rw [bI (by omega:¬ (38:Int)<(aM wy c1).length+(aM wy c2).length)];apply aq (SqT.of g1) i1 ?_;apply bM gx1 ?_;rw [ξ];apply aq (SqT.of g1) j1 ?_;apply ⟨⟨_,SqL.of gy1⟩,fun l2 n2=>?_⟩;refine iu ((jB c1 wy ((aM wy c1).length+1)).map V.int) (by unfold jB; rw [ξ,ξ,ξ]) (SqL.of gy1) (by rw [ξ]; omega) n2 (fun i x y o H' Q' hx hy sB q=>?_) (fun H2 s2 e2=>?_)
  ·unfold jB at hy;rw [BD] at hx;rw [BD,BD] at hy
   cases hb:(bZ wy c1)[i]? with
   | none=>rw [hb] at hx; cases hx
   | some b =>
    rw [hb] at hx hy
    cases hx
    cases hy;apply bV (by decide) ?_;left;exact q _ (ai.refl _)
  apply aq (SqT.of (s2 _ _ g2)) j2 ?_;apply yX e2 (s2 _ _ gy2) ?_;left;have s02:=sr.trans s2;by_cases ha:jB c1 wy ((aM wy c1).length+1)=bZ wy c2
  rotate_left
  ·rw [if_neg ha] at ez;rw [bI ha];apply nwT fun tp H3 stp ntp etp=>?_;exact z tp _ H3 (s02.trans stp) (by rw [ez]; exact etp) fun e=>absurd (ez.symm.trans e) (by decide +kernel)
  rw [if_pos ha] at ez;rw [aX ha];apply aq (SqT.of (s2 _ _ g1)) rfl ?_;apply aq (SqT.of (s2 _ _ g1)) i1 ?_;apply xJ (s2 _ _ gx1) (by have:=oR bs1 (aM wy c1).length; rw [List.take_length] at this; exact this) ?_;apply aq (SqT.of (s2 _ _ g2)) rfl ?_;apply bV (by decide) ?_;apply aq (SqT.of (s2 _ _ g1)) i1 ?_;apply nwL fun l3 H3 sl3 nl3 el3=>?_;have s23:=s2.trans sl3;refine cA (s23 _ _ gx1) el3 (BA (show (Jp V.int (aM wy c1)).length+1<=1000 by rw [ξ]; omega) (by decide)) fun l4 H4 s4 _ e4=>?_;have s24:=s23.trans s4;apply aq (SqT.of (s24 _ _ g2)) i2 ?_;apply cA e4 (s24 _ _ gx2) (BA (show ((aM wy c1).map V.int++[V.int ((c1.1+(aM wy c1).sum+c2.1)%2)]).length+((aM wy c2).map V.int).length<=1000 by rw [Av,ξ,ξ,HU]; omega) (by decide)) fun l5 H5 s5 _ e5=>?_;have e5:H5 l5=some (.lst ((aM wy c1++[(c1.1+(aM wy c1).sum+c2.1)%2]++aM wy c2).map V.int)):=by rw [e5,HN,HN]; rfl
  have s25:=s24.trans s5;apply ⟨q1,l5,wy,c1,_,rfl,h1.mono s25,e5,fun rr H6 s6 p6=>?_⟩;apply nwT fun tp H7 stp ntp etp=>?_;exact z tp _ H7 (sr.trans (s25.trans (s6.trans stp))) (by rw [ez]; exact etp) fun _=>⟨rr,rfl,p6.mono stp⟩
set_option genInjectivity false in
set_option genSizeOf false in
inductive Dd
 | lay (n:Str) (c:Clo)
 | drop (n:Str)
 | turn (n wy:Str) (k:Int)
 | put (n wy:Str) (k b:Int)
 | cut (n wy:Str) (k:Int)
 | sew (n o1 o2 wy:Str)
 | part (n wy:Str) (k:Int) (o:Str)
def mh (H:Hp) (v:ς):Dd->Prop
 | .lay n c=>∃ q,H v=some (.tup [.str "lay",.str n,.ref q])/\dY H q c
 | .drop n=>H v=some (.tup [.str "drop",.str n])
 | .turn n wy k=>H v=some (.tup [.str "turn",.str n,.str wy,.int k])
 | .put n wy k b=>H v=some (.tup [.str "put",.str n,.str wy,.int k,.int b])
 | .cut n wy k=>H v=some (.tup [.str "cut",.str n,.str wy,.int k])
 | .sew n a b wy=>H v=some (.tup [.str "sew",.str n,.str a,.str b,.str wy])
 | .part n wy k o=>H v=some (.tup [.str "part",.str n,.str wy,.int k,.str o])
theorem mh.mono {H H':Hp} {v:ς} {d:Dd} (s:ai H H') (h:mh H v d):mh H' v d:=by
 cases d with
 | lay n c=>obtain ⟨q,h1,h2⟩:=h; exact ⟨q,s _ _ h1,h2.mono s⟩
 | _=>exact s _ _ h
noncomputable def fR (c:Clo) (wy:Str) (k:Int) (m:Int) (f:List Int->Str×List Int):Str×Clo:=if cG c wy k m="" then ((f (aM wy c)).1,cf c wy (f (aM wy c)).2) else ("line",c)
noncomputable def dH (bk:Bk) (n:Str) (f:Clo->Str×Clo):Str×Bk:=match aL bk n with
 | none=>("cloth",bk)
 | some c=>((f c).1,bG bk n (f c).2)
noncomputable def qA (k:Nat) (bs:List Int):Str×List Int:=("",bs.take k++[1 - bs.getD k 0]++bs.drop (k+1))
noncomputable def yi (k:Nat) (bs:List Int):Str×List Int:=("",bs.take k++bs.drop (k+1))
noncomputable def pC (k:Nat) (b:Int) (bs:List Int):Str×List Int:=if b=0\/b=1 then (if bs.length<=38 then ("",bs.take k++[b]++bs.drop k) else ("size",bs)) else ("bit",bs)
noncomputable def bp (bk:Bk):Dd->Str×Bk
  | .lay n c => (cO bk n, bG bk n c)
  | .drop n => if (aL bk n).isSome = true then ("", fz bk n) else ("cloth", bk)
  | .turn n wy k => dH bk n fun c => fR c wy k 0 (qA k.toNat)
  | .cut n wy k => dH bk n fun c => fR c wy k 0 (yi k.toNat)
  | .put n wy k b => dH bk n fun c => fR c wy k 1 (pC k.toNat b)
  | .sew n o1 o2 wy => if cO bk n = "" then (match aL bk o1, aL bk o2 with
      | some c1,some c2=>(unW c1 c2 wy,bG bk n (unB c1 c2 wy))
      | _,_=>("cloth",bk)) else (cO bk n,bk)
  | .part n wy k o => match aL bk n with
      | none=>("cloth",bk)
      | some c=>if cO bk o="" then (if cG c wy k 0="" then ("",bG (bG bk n (cf c wy ((aM wy c).take k.toNat))) o (oC c wy k.toNat)) else ("line",bk)) else (cO bk o,bk)
theorem fg {c:Clo} {wy:Str} {k m:Int} (h:cG c wy k m=""):("col"=wy\/"row"=wy)/\0<=k/\k<(aM wy c).length+m:=by
 unfold cG at h
 split at h
 ·assumption
 ·exact absurd h (by decide +kernel)
theorem mG {c:Clo} {wy:Str} {k m:Int} (h:¬ cG c wy k m=""):cG c wy k m="line":=by
 unfold cG at h ⊢
 split
 ·rename_i z; rw [if_pos z] at h; exact absurd rfl h
 ·rfl
theorem dY.frz {H H':Hp} {q f:ς} {c:Clo} {kvs:List (Key×V)} (h:dY H q c) (hf:H f=some (.dK kvs)) (m:bX [f] H H'):dY H' q c:=by
 have no:∀ {y:ς} {o:HO},H y=some o->(∀ kvs,o≠.dK kvs)->H' y=some o:=fun {y o} e n=>m _ _ e fun z=>by
  rw [HL.mp z,hf] at e;injection e with e;exact n _ e.symm
 obtain ⟨a,b,h1,h2,h3⟩:=h;exact ⟨a,b,no h1 (fun _ z=>nomatch z),no h2 (fun _ z=>nomatch z),no h3 (fun _ z=>nomatch z)⟩
section
variable {H:Hp} {kvs:List (Key×V)} {bk:Bk}
theorem PwL.but {H':Hp} {f:ς} {kvs':List (Key×V)} (h:PwL H kvs bk) (hf:H f=some (.dK kvs')) (m:bX [f] H H'):PwL H' kvs bk:=Paired.mapP h fun _ _ ⟨z,q,e,r⟩=>⟨z,q,e,r.frz hf m⟩
theorem PwL.any (h:PwL H kvs bk) (n:Str):(kvs.any fun kv=>decide (kv.1=Bm n))=bk.any fun nc=>decide (nc.1=n):=by
 induction h with
 | nil=>rfl
 | cons r _ ih =>
  rw [Jk,Jk,ih]
  congr 1
  exact decide_eq_decide.mpr (dZ r.1)
theorem PwL.set (h:PwL H kvs bk) {n:Str} {q:ς} {c:Clo} (hv:dY H q c):PwL H (kvs.map fun kv=>if kv.1=Bm n then (kv.1,.ref q) else kv) (bk.map fun nc=>if nc.1=n then (nc.1,c) else nc):=by
 induction h with
 | nil=>exact .nil
 | cons r _ ih =>
  refine .cons ?_ ih
  rename_i p nc _ _ _;dsimp only;by_cases e:nc.1=n
  ·rw [if_pos ((dZ r.1).mpr e),if_pos e]; exact ⟨r.1,q,rfl,hv⟩
  ·rw [if_neg (fun z=>e ((dZ r.1).mp z)),if_neg e]; exact r
theorem PwL.put (h:PwL H kvs bk) (n:Str) {q:ς} {c:Clo} (hv:dY H q c):PwL H (cJ kvs (Bm n) (.ref q)) (bG bk n c):=by
 unfold cJ bG;rw [h.any n]
 split
 ·exact h.set hv
 ·exact Paired.snoc h ⟨rfl,q,rfl,hv⟩
theorem PwL.drop (h:PwL H kvs bk) (n:Str):PwL H (fe kvs (Bm n)) (fz bk n):=by
 unfold fe fz
 induction h with
 | nil=>exact .nil
 | cons r _ ih =>
  rename_i p nc _ _ _;by_cases e:nc.1=n
  ·rw [KO (by simpa using (dZ r.1).mpr e),KO (by simpa using e)]; exact ih
  ·rw [KN (by simpa using fun z=>e ((dZ r.1).mp z)),KN (by simpa using e)]; exact .cons r ih
end
theorem LB.put {H:Hp} {f q:ς} {bk:Bk} {n:Str} {c:Clo} (h:LB H f bk) (hq:dY H q c):∃ kvs,H f=some (.dK kvs)/\kvs.length=bk.length/\LB (upd H f (.dK (cJ kvs (Bm n) (.ref q)))) f (bG bk n c):=by
 obtain ⟨kvs,e,p⟩:=h;have m:bX [f] H (upd H f (.dK (cJ kvs (Bm n) (.ref q)))):=(bX.refl _ _).upd Θ;exact ⟨kvs,e,Paired.length p,_,af,(p.but e m).put n (hq.frz e m)⟩
def Chg (bk:Bk) (n:Str):Dd->Prop
 | .drop m=>m=n
 | .turn m wy k=>m=n/\Bp wy=true
 | .cut m wy k=>m=n/\Bp wy=true
 | .put m wy k b=>m=n/\Bp wy=true
 | .part m wy k o=>m=n/\Bp wy=true/\o.cps.size<=4000
 | _=>False
def sp_aX:Sp:=fun vs H Q _=>∃ (f v:ς) (bk:Bk) (dd:Dd) (n:Str) (c:Clo),vs=[.ref f,.ref v]/\LB H f bk/\bk.length<=900/\mh H v dd/\Chg bk n dd/\aL bk n=some c/\dX c /\
 ∀ tp H',bX [f] H H'->H' tp=some (.tup [.str (bp bk dd).1,.ref f])->((bp bk dd).1=""->LB H' f (bp bk dd).2)->Q (.ref tp) H'
theorem ok_aX (T:Txt K mg t):aR P w K mg base CX0 3 t.f_aX t.d_aX ["_law_fresh","_law_deed"] sp_aX:=by
 refine T.F_aX.ok sc_aX (by walk_at "l") (fun _ _ _ s H vs Q E hr h=>?_)
 ·obtain ⟨f,v,bk,dd,n,c,rfl,hf,hl,hd,hg,gc,ck,z⟩:=h;refine aF (aI 2 sc_aX.nd (gY (cY hr) (pv 0) (aw (au K rfl) (pv 1) ag) (fun _ _=>rfl))) fun _ _=>aF (aK (aN bD (aw (au K rfl) (pv 1) ag) ao) (aH (aZ (uU (pv 0) (aw (au K rfl) (pv 1) ag) ⟨rfl,rfl,rfl,rfl⟩)) (aj (az (bh (aa ao (aa (pv 0) ae)))))) aB) fun _ _=>aF (aK (PW.pt (fJ (aN bD (aw (au K rfl) (pv 1) ag) ao) (fi (aN gG (aD (ok_aE T) (rmo hr) rfl T.mg_aE T.F_aE.kp T.b_aE .nil aV (aa (pv 0) (aa (aw (au K rfl) (pv 1) ag) ae))) ao)))) (aj (az (bh (aa (aD (ok_aE T) (rmo hr) rfl T.mg_aE T.F_aE.kp T.b_aE .nil aV (aa (pv 0) (aa (aw (au K rfl) (pv 1) ag) ae))) (aa (pv 0) ae))))) aB) fun _ _=>aF (EO (i:=3) (j:=4) rfl sc_aX.nd rfl rfl (by decide) rfl rfl (aa (aw (au K rfl) (pv 1) ag) (aa (aw (au K rfl) (pv 1) ag) ae)) (by rfl)) fun _ _=>aF (aI 5 sc_aX.nd (aD (ok_a1 T) (rmo hr) rfl T.mg_a1 T.F_a1.kp T.b_a1 .nil aV (aa (pv 2) (aa (pv 3) (aa (pv 4) (aa (aW lh rfl T.no_int (by rfl) (aa (iI bD (aw (au K rfl) (pv 1) ag) ao) ae)) ae)))))) fun _ _=>aF (aK (aN gG (pv 5) ao) (aj (az (bh (aa (pv 5) (aa (pv 0) ae))))) aB) fun _ _=>aF (aI 6 sc_aX.nd (aw (au K rfl) (pv 2) (ay bf ag (aW lh rfl T.no_int (by rfl) (aa (iI bD (pv 3) ao) ae))))) fun _ _=>aF (aK (aN bD (aw (au K rfl) (pv 1) ag) ao) (aH (aK (fh (js hr.units) (aw (au K rfl) (pv 1) ag) (bh (aa ag (aa ag ae))) rfl) (aj (az (bh (aa ao (aa (pv 0) ae))))) aB) (aH (aK (aN kK (av (bJ K rfl) rfl T.no_len (by rfl) (aa (pv 6) ae)) ag) (aj (az (bh (aa ao (aa (pv 0) ae))))) aB) (aj (eN (cY hr) (pv 0) (aw (au K rfl) (pv 1) ag) (aD (ok_bl T) (rmo hr) rfl T.mg_bl T.F_bl.kp T.b_bl .nil aV (aa (pv 2) (aa (pv 3) (aa (ay cP (ay cP (aU (bE K rfl) (pv 6) bu (bz (pv 4))) (bO (aa (aw (au K rfl) (pv 1) ag) ae))) (aU (bE K rfl) (pv 6) (bz (pv 4)) bu)) ae)))) rfl)))) (aj (aK (aN bD (aw (au K rfl) (pv 1) ag) ao) (aj (eN (cY hr) (pv 0) (aw (au K rfl) (pv 1) ag) (aD (ok_bl T) (rmo hr) rfl T.mg_bl T.F_bl.kp T.b_bl .nil aV (aa (pv 2) (aa (pv 3) (aa (ay cP (aU (bE K rfl) (pv 6) bu (bz (pv 4))) (aU (bE K rfl) (pv 6) (bz (ay bf (pv 4) ag)) bu)) ae)))) rfl)) (aj (aK (aN bD (aw (au K rfl) (pv 1) ag) ao) (aj (eN (cY hr) (pv 0) (aw (au K rfl) (pv 1) ag) (aD (ok_bl T) (rmo hr) rfl T.mg_bl T.F_bl.kp T.b_bl .nil aV (aa (pv 2) (aa (pv 3) (aa (ay cP (ay cP (aU (bE K rfl) (pv 6) bu (bz (pv 4))) (bO (aa (ay fE ag (aw (aG K rfl) (pv 6) (pv 4))) ae))) (aU (bE K rfl) (pv 6) (bz (ay bf (pv 4) ag)) bu)) ae)))) rfl)) (aH (nR (aD (ok_bo T) (rmo hr) rfl T.mg_bo T.F_bo.kp T.b_bo .nil aV (aa (pv 2) (aa (pv 3) (aa (pv 4) ae)))) (ju (n:=2) K rfl rfl (cZ (aY (i:=7) sc_aX.nd rfl (IQ rfl)) (cZ (aY (i:=8) sc_aX.nd rfl (IQ rfl)) jv)))) (aH (eN (cY hr) (pv 0) (aw (au K rfl) (pv 1) ag) (pv 7) rfl) (aj (eN (cY hr) (pv 0) (aw (au K rfl) (pv 1) ag) (pv 8) rfl))))))))) fun _ _=>cH (az (bh (aa ao (aa (pv 0) ae)))) fun _ _=>?_;obtain ⟨kvs,ef,pw⟩:=id hf;obtain ⟨q,gv,hq⟩:∃ q,eX kvs (Bm n)=some (.ref q)/\dY H q c:=by
   rcases pw.get n with ⟨_,g⟩ | ⟨q,c',g1,g2,g3⟩
   ·rw [gc] at g; cases g
   ·rw [gc] at g2; cases g2; exact ⟨q,g1,g3⟩
  left
  cases dd with
  | lay => exact hg.elim
  | sew => exact hg.elim
  | drop m =>
   change m=n at hg;subst hg;change H v=some (.tup _) at hd;have en:bp bk (.drop m)=(("":Str),fz bk m):=by show (if _ then _ else _)=_; rw [gc]; rfl
   rw [en] at z;refine aq (SqT.of hd) rfl ?_;apply ⟨f,.ref q,rfl,by rw [<- gv]; exact dP.k (k:=Bm m) ef,?_⟩;apply aq (SqT.of hd) rfl ?_;apply bY (by decide +kernel) ?_;apply ⟨f,rfl,.inl ⟨kvs,.inl ef⟩,?_⟩;apply aq (SqT.of hd) rfl ?_;apply ⟨kvs,Bm m,.ref q,ef,rfl,gv,?_⟩;have mB:bX [f] H (upd H f (.dK (fe kvs (Bm m)))):=(bX.refl _ _).upd Θ;have lb:LB (upd H f (.dK (fe kvs (Bm m)))) f (fz bk m):=⟨_,af,(pw.but ef mB).drop m⟩
   generalize upd H f (.dK (fe kvs (Bm m)))=H1 at mB lb ⊢;apply nwT fun tp H2 stp ntp etp=>?_;exact z tp H2 (mB.trans (stp.butL _)) etp fun _=>lb.mono stp
  | turn m wy k =>
   obtain ⟨rfl,ow⟩:=hg;change H v=some (.tup _) at hd;refine aq (SqT.of hd) rfl ?_;apply ⟨f,.ref q,rfl,by rw [<- gv]; exact dP.k (k:=Bm m) ef,?_⟩;apply aq (SqT.of hd) rfl ?_;apply bQ (by decide +kernel) ?_;apply aq (SqT.of hd) rfl ?_;apply bQ (by decide +kernel) ?_;apply aq (SqT.of hd) rfl ?_;apply aq (SqT.of hd) rfl ?_;apply ⟨_,_,rfl,?_⟩;apply aq (SqT.of hd) rfl ?_;apply ⟨q,wy,k,0,c,rfl,hq,ow,fun H3 s3=>?_⟩;left;have en0:bp bk (.turn m wy k)=((fR c wy k 0 (qA k.toNat)).1,bG bk m (fR c wy k 0 (qA k.toNat)).2):=by show dH bk m _=_; unfold dH; rw [gc]
   refine jT ?_;by_cases hw:cG c wy k 0=""
   rotate_left
   ·rw [bI hw];apply nwT fun tp HR stp ntp etp=>?_;have en:(bp bk (.turn m wy k)).1=cG c wy k 0:=by rw [en0]; unfold fR; rw [if_neg hw,mG hw]
    exact z tp HR ((s3.trans stp).butL _) (by rw [en]; exact etp) fun e=>absurd (by rw [en] at e; exact e) hw
   rw [aX hw];unfold fR at en0;rw [if_pos hw] at en0;obtain ⟨hW,h0,h1⟩:=fg hw;obtain ⟨j,rfl⟩:∃ j:Nat,k=(j:Int):=⟨k.toNat,by omega⟩
   rw [G_] at en0;obtain ⟨a',b',x,y,g1,_,_,i1,gx,_,_⟩:=(hq.mono s3).side wy;have bs:=(b8 ck wy).1;have hd:=s3 _ _ hd;apply aq (SqT.of g1) i1 ?_;apply aq (SqT.of hd) rfl ?_;apply bQ (by decide +kernel) ?_;apply aq (SqT.of hd) rfl ?_;apply bQ (by decide +kernel) ?_;apply aq (SqT.of hd) rfl ?_;apply bY (by decide +kernel) ?_;apply ed gx fun l1 H4 s4 _ e1=>?_;rw [dW (by omega),G_] at e1;apply aS (SqL.of (s4 _ _ gx)) (cN (i:=(j:Int)) (by omega) (by omega)) ?_;rw [G_];apply nwL fun l2 H5 sl2 nl2 el2=>?_;refine cA (sl2 _ _ e1) el2 (BA (show (Jp V.int (M6 j (aM wy c))).length+[V.int (1 - (aM wy c).getD j 0)].length<=1000 by simp only [Av,ξ,Hw,IG,HU]; omega) (by decide)) fun l3 H6 s6 _ e3=>?_;left;have s46:=s4.trans (sl2.trans s6);refine ed (s46 _ _ gx) fun l4 H7 s7 _ e4=>?_;rw [show ((j:Int)+1)=((j+1:Nat):Int) by omega,dq] at e4;apply cA (s7 _ _ e3) e4 (BA (show (Jp V.int (M6 j (aM wy c))++[V.int (1 - (aM wy c).getD j 0)]).length+(Jp V.int (List.drop (j+1) (aM wy c))).length<=1000 by simp only [Av,ξ,Hw,IG,HU]; omega) (by decide)) fun l5 H8 s8 _ e5=>?_;have e5:H8 l5=some (.lst ((qA j (aM wy c)).2.map V.int)):=by rw [e5]; show _=some (HO.lst (Jp V.int (_++[_]++_))); rw [HN,HN]; rfl
   have s36:=s46.trans (s7.trans s8);apply ⟨q,l5,wy,c,_,rfl,hq.mono (s3.trans s36),e5,fun r H9 s9 p9=>?_⟩;have sE:=(s3.trans s36).trans s9;apply aq (SqT.of ((s36.trans s9) _ _ hd)) rfl ?_;left;obtain ⟨kvs2,e9,l9,lb⟩:=(hf.mono sE).put (n:=m) p9;refine ⟨f,_,rfl,jJ.k (k:=Bm m) e9 (by rw [l9]; exact aQ (by omega)),?_⟩;have mB:bX [f] H (upd H9 f (.dK (cJ kvs2 (Bm m) (.ref r)))):=(sE.butL _).upd Θ;generalize upd H9 f (.dK (cJ kvs2 (Bm m) (.ref r)))=HP at mB lb ⊢;apply nwT fun tp HQ stp ntp etp=>?_;exact z tp HQ (mB.trans (stp.butL _)) (by rw [en0]; exact etp) fun _=>by rw [en0]; exact lb.mono stp
  | cut m wy k =>
   obtain ⟨rfl,ow⟩:=hg;change H v=some (.tup _) at hd;refine aq (SqT.of hd) rfl ?_;apply ⟨f,.ref q,rfl,by rw [<- gv]; exact dP.k (k:=Bm m) ef,?_⟩;apply aq (SqT.of hd) rfl ?_;apply bQ (by decide +kernel) ?_;apply aq (SqT.of hd) rfl ?_;apply bQ (by decide +kernel) ?_;apply aq (SqT.of hd) rfl ?_;apply aq (SqT.of hd) rfl ?_;apply ⟨_,_,rfl,?_⟩;apply aq (SqT.of hd) rfl ?_;apply ⟨q,wy,k,0,c,rfl,hq,ow,fun H3 s3=>?_⟩;left;have en0:bp bk (.cut m wy k)=((fR c wy k 0 (yi k.toNat)).1,bG bk m (fR c wy k 0 (yi k.toNat)).2):=by show dH bk m _=_; unfold dH; rw [gc]
   refine jT ?_;by_cases hw:cG c wy k 0=""
   rotate_left
   ·rw [bI hw];apply nwT fun tp HR stp ntp etp=>?_;have en:(bp bk (.cut m wy k)).1=cG c wy k 0:=by rw [en0]; unfold fR; rw [if_neg hw,mG hw]
    exact z tp HR ((s3.trans stp).butL _) (by rw [en]; exact etp) fun e=>absurd (by rw [en] at e; exact e) hw
   rw [aX hw];unfold fR at en0;rw [if_pos hw] at en0;obtain ⟨hW,h0,h1⟩:=fg hw;obtain ⟨j,rfl⟩:∃ j:Nat,k=(j:Int):=⟨k.toNat,by omega⟩
   rw [G_] at en0;obtain ⟨a',b',x,y,g1,_,_,i1,gx,_,_⟩:=(hq.mono s3).side wy;have bs:=(b8 ck wy).1;have hd:=s3 _ _ hd;apply aq (SqT.of g1) i1 ?_;apply aq (SqT.of hd) rfl ?_;apply bQ (by decide +kernel) ?_;apply aq (SqT.of hd) rfl ?_;apply bY (by decide +kernel) ?_;apply ed gx fun l1 H4 s4 _ e1=>?_;rw [dW (by omega),G_] at e1;apply ed (s4 _ _ gx) fun l2 H5 s5 _ e2=>?_;rw [show ((j:Int)+1)=((j+1:Nat):Int) by omega,dq] at e2;apply cA (s5 _ _ e1) e2 (BA (show (Jp V.int (M6 j (aM wy c))).length+(Jp V.int (List.drop (j+1) (aM wy c))).length<=1000 by simp only [Av,ξ,Hw,IG,HU]; omega) (by decide)) fun l3 H6 s6 _ e3=>?_;have e3:H6 l3=some (.lst ((yi j (aM wy c)).2.map V.int)):=by rw [e3,<- HN]; rfl
   have s36:=s4.trans (s5.trans s6);apply ⟨q,l3,wy,c,_,rfl,hq.mono (s3.trans s36),e3,fun r H9 s9 p9=>?_⟩;have sE:=(s3.trans s36).trans s9;apply aq (SqT.of ((s36.trans s9) _ _ hd)) rfl ?_;left;obtain ⟨kvs2,e9,l9,lb⟩:=(hf.mono sE).put (n:=m) p9;refine ⟨f,_,rfl,jJ.k (k:=Bm m) e9 (by rw [l9]; exact aQ (by omega)),?_⟩;have mB:bX [f] H (upd H9 f (.dK (cJ kvs2 (Bm m) (.ref r)))):=(sE.butL _).upd Θ;generalize upd H9 f (.dK (cJ kvs2 (Bm m) (.ref r)))=HP at mB lb ⊢;apply nwT fun tp HQ stp ntp etp=>?_;exact z tp HQ (mB.trans (stp.butL _)) (by rw [en0]; exact etp) fun _=>by rw [en0]; exact lb.mono stp
  | put m wy k b =>
   obtain ⟨rfl,ow⟩:=hg;change H v=some (.tup _) at hd;refine aq (SqT.of hd) rfl ?_;apply ⟨f,.ref q,rfl,by rw [<- gv]; exact dP.k (k:=Bm m) ef,?_⟩;apply aq (SqT.of hd) rfl ?_;apply bQ (by decide +kernel) ?_;apply aq (SqT.of hd) rfl ?_;apply bQ (by decide +kernel) ?_;apply aq (SqT.of hd) rfl ?_;apply aq (SqT.of hd) rfl ?_;apply ⟨_,_,rfl,?_⟩;apply aq (SqT.of hd) rfl ?_;apply ⟨q,wy,k,1,c,rfl,hq,ow,fun H3 s3=>?_⟩;left;have en0:bp bk (.put m wy k b)=((fR c wy k 1 (pC k.toNat b)).1,bG bk m (fR c wy k 1 (pC k.toNat b)).2):=by show dH bk m _=_; unfold dH; rw [gc]
   refine jT ?_;by_cases hw:cG c wy k 1=""
   rotate_left
   ·rw [bI hw];apply nwT fun tp HR stp ntp etp=>?_;have en:(bp bk (.put m wy k b)).1=cG c wy k 1:=by rw [en0]; unfold fR; rw [if_neg hw,mG hw]
    exact z tp HR ((s3.trans stp).butL _) (by rw [en]; exact etp) fun e=>absurd (by rw [en] at e; exact e) hw
   rw [aX hw];unfold fR at en0;rw [if_pos hw] at en0;obtain ⟨hW,h0,h1⟩:=fg hw;obtain ⟨j,rfl⟩:∃ j:Nat,k=(j:Int):=⟨k.toNat,by omega⟩
   rw [G_] at en0;obtain ⟨a',b',x,y,g1,_,_,i1,gx,_,_⟩:=(hq.mono s3).side wy;have bs:=(b8 ck wy).1;have hd:=s3 _ _ hd;apply aq (SqT.of g1) i1 ?_;apply aq (SqT.of hd) rfl ?_;apply bY (by decide +kernel) ?_;apply aq (SqT.of hd) rfl ?_;apply nwT fun p2 H4 sp2 np2 ep2=>?_;refine A9 ep2 ?_;unfold pC at en0;by_cases hb:b=0\/b=1
   rotate_left
   ·rw [bI hb];rw [if_neg hb] at en0;apply nwT fun tp HR stp ntp etp=>?_;exact z tp HR ((s3.trans (sp2.trans stp)).butL _) (by rw [en0]; exact etp) fun e=>absurd (show ("bit":Str)="" from by rw [en0] at e; exact e) (by decide +kernel)
   rw [aX hb];rw [if_pos hb] at en0;have gx:=sp2 _ _ gx;have hd:=sp2 _ _ hd;apply bM gx ?_;rw [ξ];left;by_cases hn:(aM wy c).length<=38
   rotate_left
   ·rw [aX (by omega:(38:Int)<(aM wy c).length)];rw [if_neg hn] at en0;apply nwT fun tp HR stp ntp etp=>?_;exact z tp HR ((s3.trans (sp2.trans stp)).butL _) (by rw [en0]; exact etp) fun e=>absurd (show ("size":Str)="" from by rw [en0] at e; exact e) (by decide +kernel)
   rw [bI (by omega:¬ (38:Int)<(aM wy c).length)];rw [if_pos hn] at en0;apply ed gx fun l1 H5 s5 _ e1=>?_;rw [dW (by omega),G_] at e1;apply aq (SqT.of (s5 _ _ hd)) rfl ?_;apply nwL fun l2 H6 sl2 nl2 el2=>?_;refine cA (sl2 _ _ e1) el2 (BA (show (Jp V.int (M6 j (aM wy c))).length+[V.int b].length<=1000 by simp only [Av,ξ,Hw,IG,HU]; omega) (by decide)) fun l3 H7 s7 _ e3=>?_;left;have s57:=s5.trans (sl2.trans s7);refine ed (s57 _ _ gx) fun l4 H8 s8 _ e4=>?_;rw [dq] at e4;apply cA (s8 _ _ e3) e4 (BA (show (Jp V.int (M6 j (aM wy c))++[V.int b]).length+(Jp V.int (List.drop j (aM wy c))).length<=1000 by simp only [Av,ξ,Hw,IG,HU]; omega) (by decide)) fun l5 HA sA _ e5=>?_;have e5:HA l5=some (.lst (((aM wy c).take j++[b]++(aM wy c).drop j).map V.int)):=by rw [e5,HN,HN]; rfl
   have s36:=s57.trans (s8.trans sA);apply ⟨q,l5,wy,c,_,rfl,hq.mono (s3.trans (sp2.trans s36)),e5,fun r H9 s9 p9=>?_⟩;have sE:=(s3.trans (sp2.trans s36)).trans s9;apply aq (SqT.of ((s36.trans s9) _ _ hd)) rfl ?_;left;obtain ⟨kvs2,e9,l9,lb⟩:=(hf.mono sE).put (n:=m) p9;refine ⟨f,_,rfl,jJ.k (k:=Bm m) e9 (by rw [l9]; exact aQ (by omega)),?_⟩;have mB:bX [f] H (upd H9 f (.dK (cJ kvs2 (Bm m) (.ref r)))):=(sE.butL _).upd Θ;generalize upd H9 f (.dK (cJ kvs2 (Bm m) (.ref r)))=HP at mB lb ⊢;apply nwT fun tp HQ stp ntp etp=>?_;exact z tp HQ (mB.trans (stp.butL _)) (by rw [en0]; exact etp) fun _=>by rw [en0]; exact lb.mono stp
  | part m wy k o =>
   obtain ⟨rfl,ow,oz⟩:=hg;change H v=some (.tup _) at hd;refine aq (SqT.of hd) rfl ?_;apply ⟨f,.ref q,rfl,by rw [<- gv]; exact dP.k (k:=Bm m) ef,?_⟩;apply aq (SqT.of hd) rfl ?_;apply bQ (by decide +kernel) ?_;apply aq (SqT.of hd) rfl ?_;apply bY (by decide +kernel) ?_;apply aq (SqT.of hd) rfl ?_;apply ⟨f,o,bk,rfl,.inl hf,oz,fun H1 s1=>?_⟩;left;have en0:bp bk (.part m wy k o)=if cO bk o="" then (if cG c wy k 0="" then (("":Str),bG (bG bk m (cf c wy ((aM wy c).take k.toNat))) o (oC c wy k.toNat)) else (("line":Str),bk)) else (cO bk o,bk):=by show (match aL bk m with | none=>_ | some c=>_)=_; rw [gc]
   refine jT ?_;by_cases hw0:cO bk o=""
   rotate_left
   ·rw [if_neg hw0] at en0;rw [bI hw0];apply aq (SqT.of (s1 _ _ hd)) rfl ?_;apply ⟨f,o,bk,rfl,.inl (hf.mono s1),oz,fun H2 s2=>?_⟩;apply nwT fun tp HR stp ntp etp=>?_;exact z tp HR ((s1.trans (s2.trans stp)).butL _) (by rw [en0]; exact etp) fun e=>absurd (by rw [en0] at e; exact e) hw0
   rw [if_pos hw0] at en0;rw [aX hw0];have hd:=s1 _ _ hd;have hf:=hf.mono s1;have hq:=hq.mono s1;have z:=fun tp H' (mm:bX [f] H1 H')=>z tp H' ((s1.butL _).trans mm);clear pw ef gv;generalize H1=H0 at hd hf hq z ⊢;clear s1
   rename_i Hold;apply aq (SqT.of hd) rfl ?_;apply aq (SqT.of hd) rfl ?_;apply ⟨_,_,rfl,?_⟩;apply aq (SqT.of hd) rfl ?_;apply ⟨q,wy,k,0,c,rfl,hq,ow,fun H3 s3=>?_⟩;apply jT ?_;by_cases hw:cG c wy k 0=""
   rotate_left
   ·rw [bI hw];apply nwT fun tp HR stp ntp etp=>?_;have en:(bp bk (.part m wy k o)).1=cG c wy k 0:=by rw [en0]; rw [if_neg hw,mG hw]
    exact z tp HR ((s3.trans stp).butL _) (by rw [en]; exact etp) fun e=>absurd (by rw [en] at e; exact e) hw
   rw [aX hw];rw [if_pos hw] at en0;obtain ⟨hW,h0,h1⟩:=fg hw;obtain ⟨j,rfl⟩:∃ j:Nat,k=(j:Int):=⟨k.toNat,by omega⟩
   rw [G_] at en0;obtain ⟨a',b',x,y,g1,_,_,i1,gx,_,_⟩:=(hq.mono s3).side wy;have bs:=(b8 ck wy).1;have hd:=s3 _ _ hd;apply aq (SqT.of g1) i1 ?_;apply aq (SqT.of hd) rfl ?_;apply bQ (by decide +kernel) ?_;apply aq (SqT.of hd) rfl ?_;apply bQ (by decide +kernel) ?_;apply aq (SqT.of hd) rfl ?_;apply bQ (by decide +kernel) ?_;apply ⟨q,wy,j,c,rfl,hq.mono s3,ck,hW,by omega,fun tp r1 r2 H4 s4 et p1 p2=>?_⟩;apply gZ et rfl ?_;apply aq (SqT.of (s4 _ _ hd)) rfl ?_;left;have s34:=s3.trans s4;obtain ⟨kvs2,e9,l9,lb⟩:=(hf.mono s34).put (n:=m) p1;refine ⟨f,_,rfl,jJ.k (k:=Bm m) e9 (by rw [l9]; exact aQ (by omega)),?_⟩;have m4:bX [f] H4 (upd H4 f (.dK (cJ kvs2 (Bm m) (.ref r1)))):=(bX.refl _ _).upd Θ;have p2:=p2.frz e9 m4;have hdP:=m4 _ _ (s4 _ _ hd) fun zz=>by rw [<- HL.mp zz,s4 _ _ hd] at e9; cases e9
   have mB:=(s34.butL [f]).trans m4;generalize upd H4 f (.dK (cJ kvs2 (Bm m) (.ref r1)))=HP at mB lb p2 hdP ⊢;apply aq (SqT.of hdP) rfl ?_;left;obtain ⟨kvs3,e8,l8,lb2⟩:=lb.put (n:=o) p2;have:=c9 (bk:=bk) (n:=m) (c:=cf c wy ((aM wy c).take j))
   refine ⟨f,_,rfl,jJ.k (k:=Bm o) e8 (by rw [l8]; exact aQ (by omega)),?_⟩;have mC:bX [f] H0 (upd HP f (.dK (cJ kvs3 (Bm o) (.ref r2)))):=mB.upd Θ;generalize upd HP f (.dK (cJ kvs3 (Bm o) (.ref r2)))=HW at mC lb2 ⊢;apply nwT fun tq HQ stq ntq etq=>?_;exact z tq HQ (mC.trans (stq.butL _)) (by rw [en0]; exact etq) fun _=>by rw [en0]; exact lb2.mono stq
def qE (bk:Bk):Prop:=∀ nc∈bk,dX nc.2
theorem qE.get {bk:Bk} (h:qE bk) {n:Str} {c:Clo} (g:aL bk n=some c):dX c:=by
 unfold aL at g
 cases e:bk.find? fun nc=>decide (nc.1=n) with
 | none=>rw [e] at g; cases g
 | some nc =>
  rw [e] at g
  cases g;exact h nc (List.mem_of_find?_eq_some e)
def zy:Dd->Prop
 | .lay n c=>n.cps.size<=4000/\dX c
 | .drop _=>True
 | .turn _ wy _=>Bp wy=true
 | .cut _ wy _=>Bp wy=true
 | .put _ wy _ _=>Bp wy=true
 | .sew n _ _ wy=>n.cps.size<=4000/\Bp wy=true
 | .part _ wy _ o=>Bp wy=true/\o.cps.size<=4000
def sp_aM:Sp:=fun vs H Q _=>∃ (b v:ς) (bk:Bk) (dd:Dd),vs=[.ref b,.ref v]/\LB H b bk/\bk.length<=900/\qE bk/\mh H v dd/\zy dd /\
 ∀ tp f H',ai H H'->H' tp=some (.tup [.str (bp bk dd).1,.ref f])->((bp bk dd).1=""->LB H' f (bp bk dd).2)->Q (.ref tp) H'
theorem ok_aM (T:Txt K mg t):aR P w K mg base CX0 4 t.f_aM t.d_aM ["_law_book","_law_deed"] sp_aM:=by
 refine T.F_aM.ok sc_aM (by walk_at "l") (fun _ _ _ s H vs Q E hr h=>?_)
 ·obtain ⟨b,v,bk,dd,rfl,hb,hl,hk,hd,ho,z⟩:=h;refine aF (aI 2 sc_aM.nd (aW km rfl T.no_dict (by rfl) (aa (pv 0) ae))) fun _ _=>aF (aK (aN bD (aw (au K rfl) (pv 1) ag) ao) (aH (aI 3 sc_aM.nd (aD (ok_aE T) (rmo hr) rfl T.mg_aE T.F_aE.kp T.b_aE .nil aV (aa (pv 0) (aa (aw (au K rfl) (pv 1) ag) ae)))) (aH (eN (cY hr) (pv 2) (aw (au K rfl) (pv 1) ag) (aw (au K rfl) (pv 1) ag) rfl) (aj (az (bh (aa (pv 3) (aa (pv 2) ae))))))) aB) fun _ _=>aF (aK (aN bD (aw (au K rfl) (pv 1) ag) ao) (aH (aI 3 sc_aM.nd (aD (ok_aE T) (rmo hr) rfl T.mg_aE T.F_aE.kp T.b_aE .nil aV (aa (pv 0) (aa (aw (au K rfl) (pv 1) ag) ae)))) (aH (aK (aN gG (pv 3) ao) (aj (az (bh (aa (pv 3) (aa (pv 2) ae))))) aB) (aH (aK (PW.pt (fK (iK (gH (cY hr) (aw (au K rfl) (pv 1) ag) (pv 0))) (eF (iK (gH (cY hr) (aw (au K rfl) (pv 1) ag) (pv 0)))))) (aj (az (bh (aa ao (aa (pv 2) ae))))) aB) (aH (nR (aD (ok_bk T) (rmo hr) rfl T.mg_bk T.F_bk.kp T.b_bk .nil aV (aa (gY (cY hr) (pv 0) (aw (au K rfl) (pv 1) ag) (fun _ _=>rfl)) (aa (gY (cY hr) (pv 0) (aw (au K rfl) (pv 1) ag) (fun _ _=>rfl)) (aa (aw (au K rfl) (pv 1) ag) ae)))) (ju (n:=2) K rfl rfl (cZ (aY (i:=3) sc_aM.nd rfl (IQ rfl)) (cZ (aY (i:=4) sc_aM.nd rfl (IQ rfl)) jv)))) (aH (eN (cY hr) (pv 2) (aw (au K rfl) (pv 1) ag) (pv 4) rfl) (aj (az (bh (aa (pv 3) (aa (pv 2) ae)))))))))) aB) fun _ _=>aF (aK (iK (gH (cY hr) (aw (au K rfl) (pv 1) ag) (pv 0))) (aj (az (bh (aa ao (aa (pv 2) ae))))) aB) fun _ _=>cH (az (aD (ok_aX T) (rmo hr) rfl T.mg_aX T.F_aX.kp T.b_aX .nil aV (aa (pv 2) (aa (pv 1) ae)))) fun _ _=>?_;obtain ⟨kvs,eb,pw⟩:=id hb;apply ⟨b,kvs,rfl,eb,fun f nf=>?_⟩;have s1:=ai.new (o:=HO.dK kvs) nf;have hf:LB (upd H f (HO.dK kvs)) f bk:=⟨kvs,af,Paired.mapP pw fun _ _ ⟨x,q,e,r⟩=>⟨x,q,e,r.mono s1⟩⟩
  generalize upd H f (HO.dK kvs)=H1 at s1 hf ⊢;have hd:=hd.mono s1;have hb:=hb.mono s1;by_cases isl:∃ n c,dd=.lay n c
  ·obtain ⟨n,c,rfl⟩:=isl;obtain ⟨q,hv,hq⟩:=hd;apply aq (SqT.of hv) rfl ?_;apply bY (by decide +kernel) ?_;apply aq (SqT.of hv) rfl ?_;apply ⟨b,n,bk,rfl,.inl hb,ho.1,fun H2 s2=>?_⟩;apply aq (SqT.of (s2 _ _ hv)) rfl ?_;apply aq (SqT.of (s2 _ _ hv)) rfl ?_;left;obtain ⟨kvs2,e9,l9,lb⟩:=(hf.mono s2).put (n:=n) (hq.mono s2);refine ⟨f,_,rfl,jJ.k (k:=Bm n) e9 (by rw [l9]; exact aQ (by omega)),?_⟩;have sP:ai H (upd H2 f (.dK (cJ kvs2 (Bm n) (.ref q)))):=(s1.trans s2).later nf;generalize upd H2 f (.dK (cJ kvs2 (Bm n) (.ref q)))=HP at sP lb ⊢;apply nwT fun tp HQ stp ntp etp=>?_;exact z tp f HQ (sP.trans stp) etp fun _=>lb.mono stp
  by_cases iss:∃ n o1 o2 wy,dd=.sew n o1 o2 wy
  ·obtain ⟨n,o1,o2,wy,rfl⟩:=iss;change H1 v=some (.tup _) at hd;apply aq (SqT.of hd) rfl ?_;apply bQ (by decide +kernel) ?_;apply aq (SqT.of hd) rfl ?_;apply bY (by decide +kernel) ?_;apply aq (SqT.of hd) rfl ?_;apply ⟨b,n,bk,rfl,.inl hb,ho.1,fun H2 s2=>?_⟩;have en:bp bk (.sew n o1 o2 wy)=if cO bk n="" then (match aL bk o1,aL bk o2 with
    | some c1,some c2=>(unW c1 c2 wy,bG bk n (unB c1 c2 wy))
    | _,_=>(("cloth":Str),bk)) else (cO bk n,bk):=rfl
   have hd:=s2 _ _ hd;have hb:=hb.mono s2;have hf:=hf.mono s2;have s12:=s1.trans s2;apply jT ?_;by_cases hw:cO bk n=""
   rotate_left
   ·rw [bI hw];rw [if_neg hw] at en;apply nwT fun tp HR stp ntp etp=>?_;exact z tp f HR (s12.trans stp) (by rw [en]; exact etp) fun e=>absurd (by rw [en] at e; exact e) hw
   rw [aX hw];rw [if_pos hw] at en;obtain ⟨kvs2,eb2,pw2⟩:=id hb;apply aq (SqT.of hd) rfl ?_;apply ⟨b,_,rfl,dP.k (k:=Bm o1) eb2,?_⟩;rcases pw2.get o1 with ⟨g1,g2⟩ | ⟨q1,c1,g1,g2,h1⟩
   ·rw [g1,JO];rw [g2] at en;apply nwT fun tp HR stp ntp etp=>?_;exact z tp f HR (s12.trans stp) (by rw [en]; exact etp) fun e=>absurd (show ("cloth":Str)="" from by rw [en] at e; exact e) (by decide +kernel)
   rw [g1,JC];rw [g2] at en;apply aq (SqT.of hd) rfl ?_;apply ⟨b,_,rfl,dP.k (k:=Bm o2) eb2,?_⟩;rcases pw2.get o2 with ⟨g3,g4⟩ | ⟨q2,c2,g3,g4,h2⟩
   ·rw [g3,JO];rw [g4] at en;apply nwT fun tp HR stp ntp etp=>?_;exact z tp f HR (s12.trans stp) (by rw [en]; exact etp) fun e=>absurd (show ("cloth":Str)="" from by rw [en] at e; exact e) (by decide +kernel)
   rw [g3,JC];rw [g4] at en;apply aq (SqT.of hd) rfl ?_;apply ⟨b,.ref q1,rfl,by rw [<- g1]; exact dP.k (k:=Bm o1) eb2,?_⟩;apply aq (SqT.of hd) rfl ?_;apply ⟨b,.ref q2,rfl,by rw [<- g3]; exact dP.k (k:=Bm o2) eb2,?_⟩;apply aq (SqT.of hd) rfl ?_;apply ⟨q1,q2,wy,c1,c2,rfl,h1,h2,hk.get g2,hk.get g4,ho.2,fun tq vv H3 s3 et hu=>?_⟩;apply gZ et rfl ?_;apply aq (SqT.of (s3 _ _ hd)) rfl ?_;left;obtain ⟨kvs3,e3,pw3⟩:=id (hf.mono s3);have l3:kvs3.length=bk.length:=Paired.length pw3;have lbf:unW c1 c2 wy=""->LB (upd H3 f (.dK (cJ kvs3 (Bm n) vv))) f (bG bk n (unB c1 c2 wy)):=fun e=>by
    obtain ⟨r,rfl,p⟩:=hu e;obtain ⟨kvs4,e4,_,lb⟩:=(hf.mono s3).put (n:=n) p;rw [e3] at e4
    cases e4;exact lb
   refine ⟨f,_,rfl,jJ.k (k:=Bm n) e3 (by rw [l3]; exact aQ (by omega)),?_⟩;have sP:ai H (upd H3 f (.dK (cJ kvs3 (Bm n) vv))):=(s12.trans s3).later nf;generalize upd H3 f (.dK (cJ kvs3 (Bm n) vv))=HP at sP lbf ⊢;apply nwT fun tp HQ stp ntp etp=>?_;exact z tp f HQ (sP.trans stp) (by rw [en]; exact etp) fun e=>by
    rw [en] at e ⊢;exact (lbf e).mono stp
  obtain ⟨nm,n,dJ,hv,m1,m2,hcg,hno⟩:∃ nm n dJ,H1 v=some (.tup (.str nm::.str n::dJ))/\(¬ nm="lay")/\(¬ nm="sew")/\Chg bk n dd/\(aL bk n=none->(bp bk dd).1="cloth"):=by
   cases dd with
   | lay n c=>exact absurd ⟨n,c,rfl⟩ isl
   | sew n o1 o2 wy=>exact absurd ⟨n,o1,o2,wy,rfl⟩ iss
   | drop n=>exact ⟨_,n,_,hd,by decide +kernel,by decide +kernel,rfl,fun g=>by show (if _ then _ else _:Str×Bk).1=_; rw [g]; rfl⟩
   | turn n wy k=>exact ⟨_,n,_,hd,by decide +kernel,by decide +kernel,⟨rfl,ho⟩,fun g=>by show (dH bk n _).1=_; unfold dH; rw [g]⟩
   | cut n wy k=>exact ⟨_,n,_,hd,by decide +kernel,by decide +kernel,⟨rfl,ho⟩,fun g=>by show (dH bk n _).1=_; unfold dH; rw [g]⟩
   | put n wy k b=>exact ⟨_,n,_,hd,by decide +kernel,by decide +kernel,⟨rfl,ho⟩,fun g=>by show (dH bk n _).1=_; unfold dH; rw [g]⟩
   | part n wy k o=>exact ⟨_,n,_,hd,by decide +kernel,by decide +kernel,⟨rfl,ho.1,ho.2⟩,fun g=>by simp only [bp]; rw [g]⟩
  apply aq (SqT.of hv) (cK (j:=0) rfl) ?_;apply bQ (bI m1) ?_;apply aq (SqT.of hv) (cK (j:=0) rfl) ?_;apply bQ (bI m2) ?_;obtain ⟨kvs2,eb2,pw2⟩:=id hb;apply aq (SqT.of hv) (cK (j:=1) rfl) ?_;apply ⟨b,_,rfl,dP.k (k:=Bm n) eb2,?_⟩;rcases pw2.get n with ⟨g1,g2⟩ | ⟨q1,c1,g1,g2,h1⟩
  ·rw [g1,JO];have en:=hno g2;apply nwT fun tp HR stp ntp etp=>?_;exact z tp f HR (s1.trans stp) (by rw [en]; exact etp) fun e=>absurd (show ("cloth":Str)="" from by rw [en] at e; exact e) (by decide +kernel)
  rw [g1,JC];left;exact ⟨f,v,bk,dd,n,c1,rfl,hf,hl,hd,hcg,g2,hk.get g2,fun tp H' mB et lb=>z tp f H' (fun a o e=>mB a o (s1 a o e) fun zz=>by rw [HL.mp zz,nf] at e; cases e) et lb⟩
end
section
theorem oS {c:Clo} {wy:Str} (h:"col"=wy\/"row"=wy):fw wy c.2.1 c.2.2 (aM wy c):=by
 rcases h with rfl | rfl
 ·exact .inl ⟨rfl,by unfold aM; rw [if_neg (by decide +kernel)]⟩
 ·exact .inr ⟨rfl,by unfold aM; rw [if_pos rfl]⟩
theorem tP {c:Clo} {wy:Str} (h:"col"=wy\/"row"=wy) (bs:List Int):mU wy c.2.1 c.2.2 bs (cf c wy bs).2.1 (cf c wy bs).2.2:=by
 rcases h with rfl | rfl
 ·exact .inl ⟨rfl,by unfold cf; rw [if_pos rfl],by unfold cf; rw [if_pos rfl]⟩
 ·exact .inr ⟨rfl,by unfold cf; rw [if_neg (by decide +kernel)],by unfold cf; rw [if_neg (by decide +kernel)]⟩
theorem oU {c:Clo} {wy:Str} {bs:List Int}:(c.1,(cf c wy bs).2.1,(cf c wy bs).2.2)=cf c wy bs:=by
 unfold cf; split<;>rfl
theorem lT {c:Clo} {wy:Str} {bs:List Int} (h:dX c) (hb:bA bs):bA (cf c wy bs).2.1/\bA (cf c wy bs).2.2:=by
 unfold cf; split
 ·exact ⟨hb,h.2.2⟩
 ·exact ⟨h.2.1,hb⟩
theorem xx {wy:Str} (h:¬ ("col"=wy\/"row"=wy)):(¬ wy="col")/\¬ wy="row":=⟨fun e=>h (.inl e.symm),fun e=>h (.inr e.symm)⟩
theorem rl {c:Clo} {wy:Str} {k:Int} (h:¬ cG c wy k 0=""):tW wy k c.2.1 c.2.2:=by
 unfold cG at h;by_cases hw:"col"=wy\/"row"=wy
 ·refine .inr ⟨_,oS hw,fun e=>h (by rw [if_pos ⟨hw,e.1,by have:=e.2; omega⟩])⟩
 ·exact .inl (xx hw)
theorem Cn {bs:List Int} {k:Nat} (h:k<bs.length):(qA k bs).2=mZ bs k:=by
 unfold qA mZ;rw [Mg,if_pos h,Iw]; rfl
theorem Er {bs:List Int} {k:Nat}:(yi k bs).2=bs.eraseIdx k:=by
 unfold yi;rw [Kd]
theorem ER {bs:List Int} {k:Nat} {b:Int} (hb:b=0\/b=1) (h:bs.length<=38):pC k b bs=(("":Str),fZ bs k b):=by
 unfold pC fZ;rw [if_pos hb,if_pos h,Iw]; rfl
theorem zE {as bs:List Int} {n:Int} (h:as.map (fun b=>(b+n)%2)=bs) (j:Nat) (hj:j<as.length):ir as bs n j=false:=by
 subst h;unfold ir;rw [Hl,Hl,BD,E_ hj];refine bI ?_
 show ¬ (as[j]+n+(as[j]+n)%2)%2=1
 omega
theorem Cb {as bs:List Int} {n:Int} (hl:as.length=bs.length) (hb:∀ z∈bs,z=0\/z=1) (h:∀ j:Nat,j<as.length->ir as bs n j=false):as.map (fun b=>(b+n)%2)=bs:=by
 refine List.ext_getElem (by rw [ξ,hl]) fun j h1 h2=>?_;rw [ξ] at h1;rw [List.getElem_map];have hj:=of_decide_eq_false (h j h1);rw [Hl,Hl,E_ h1,E_ h2] at hj;have hj:¬ (as[j]+n+bs[j])%2=1:=hj;have:=hb _ (Iq h2)
 omega
theorem btw {s s2:Int} {cs rs:List Int}:(fS s cs rs (cs.length:Nat) 0+s2)%2=(s+cs.sum+s2)%2:=by
 unfold fS;rw [G_,List.take_length]
 show ((s+(cs.sum+(rs.take 0).sum+(cs.length:Int)*0))%2+s2)%2=_
 rw [ME,N_,Int.mul_zero];omega
theorem ue {s:Int} {cs rs:List Int} {k:Nat}:fS s cs rs ((k:Int)+1) 0=(s+(cs.take (k+1)).sum)%2:=by
 unfold fS;rw [show ((k:Int)+1).toNat=k+1 by omega]
 show (s+((cs.take (k+1)).sum+(rs.take 0).sum+((k:Int)+1)*0))%2=_
 rw [ME,N_,Int.mul_zero]
 congr 1; omega
theorem x8 {as bs:List Int} {x:Int} (ha:bA as) (hb:bA bs) (h:as.length+bs.length<=38) (hx:x=0\/x=1):bA (as++x::bs):=by
 refine ⟨by rw [Av,HM]; omega,fun z hz=>?_⟩;rcases Hj.mp hz with h1 | h1
 ·exact ha.2 z h1
 ·rcases Ξ.mp h1 with h1 | h1
  ·rw [h1]; exact hx
  ·exact hb.2 z h1
theorem rh {bk:Bk} {n:Str} (h:bR n=false):cO bk n="name":=by unfold cO; rw [h,if_neg (by decide)]
theorem rk {bk:Bk} {n:Str} (h:bR n=true) (g:(aL bk n).isSome=true):cO bk n="taken":=by unfold cO; rw [h,if_pos rfl,if_pos g]
theorem rj {bk:Bk} {n:Str} (h:bR n=true) (g:aL bk n=none):cO bk n="":=by unfold cO; rw [h,if_pos rfl,g]; rfl
theorem zR {bs:List Int} (h:bA bs) (k:Nat):bA (bs.eraseIdx k):=⟨BA (N7 ..) h.1,fun z hz=>h.2 z (Nz hz)⟩
theorem kW {c:Clo}:aM "col" c=c.2.1:=by unfold aM; rw [if_neg (by decide +kernel)]
theorem kX {c:Clo}:aM "row" c=c.2.2:=by unfold aM; rw [if_pos rfl]
theorem lq {c:Clo}:bZ "col" c=c.2.2:=by unfold bZ; rw [if_neg (by decide +kernel)]
theorem lu {c:Clo}:bZ "row" c=c.2.1:=by unfold bZ; rw [if_pos rfl]
theorem vD {c:Clo} {bs:List Int}:cf c "col" bs=(c.1,bs,c.2.2):=by unfold cf; rw [if_pos rfl]
theorem vE {c:Clo} {bs:List Int}:cf c "row" bs=(c.1,c.2.1,bs):=by unfold cf; rw [if_neg (by decide +kernel)]
theorem ux {b:Int} (h:b=0\/b=1):cv b=true:=by rcases h with rfl | rfl<;>rfl
theorem Ai {b:Int} (h:¬ (b=0\/b=1)):cv b=false:=by
 cases e:cv b with
 | false=>rfl
 | true=>exact absurd (by unfold cv at e; simp only [Hy,decide_eq_true_eq] at e; omega) h
theorem wj {bs:List Int} {k:Nat} {b:Int} (h:bA bs) (hl:bs.length<=38) (hb:b=0\/b=1):bA (fZ bs k b):=by
 unfold fZ;refine ⟨by rw [Av,HM,Hw,IG]; omega,fun z hz=>?_⟩;rcases Hj.mp hz with h1 | h1
 ·exact h.2 z (IP h1)
 ·rcases Ξ.mp h1 with h1 | h1
  ·rw [h1]; exact hb
  ·exact h.2 z (JE h1)
theorem xO {BS UF:ς} {c1 c2:Clo} {wy:Str} {H:Hp} {Q:List Int->Hp->ς->Prop} {E:XK} (hW:"col"=wy\/"row"=wy) (k1:dX c1) (k2:dX c2)
  (h1:unW c1 c2 wy="size"->∀ H',ai H H'->E (.ref BS) none H') (h2:unW c1 c2 wy="unfit"->∀ d H',ai H H'->E (.ref UF) (some d) H')
  (h3:unW c1 c2 wy=""->∀ x H' bs,ai H H'->cf c1 wy bs=unB c1 c2 wy->bA bs->Q bs H' x):mS BS UF c1.1 (aM wy c1) (bZ wy c1) c2.1 (aM wy c2) (bZ wy c2) H Q E:=by
 have en:=wY c1 c2 wy;rw [if_pos hW] at en;refine ⟨fun nz=>h1 (by rw [en,if_neg fun e=>nz ⟨e.1,by have:=e.2; omega⟩]),fun z j hj b _ d H' s' _=>h2 (by rw [en,if_pos ⟨z.1,by have:=z.2; omega⟩,if_neg fun e=>by rw [zE e j hj] at b; cases b]) d H' s',fun z nb x H' s'=>?_⟩;refine h3 (by rw [en,if_pos ⟨z.1,by have:=z.2; omega⟩,if_pos (show jB c1 wy _=bZ wy c2 from Cb z.1 (fW k2 wy).2 nb)]) x H' _ s' ?_ ?_
 ·unfold unB; rw [btw,Iw]; rfl
 ·exact x8 (b8 k1 wy) (b8 k2 wy) (by have:=z.2; omega) (by omega)
theorem Bt {BS UF:ς} {c1 c2:Clo} {H:Hp} {Q:List Int->Hp->ς->Prop} {E:XK} (k1:dX c1) (k2:dX c2) (h1:unW c1 c2 "col"="size"->∀ H',ai H H'->E (.ref BS) none H') (h2:unW c1 c2 "col"="unfit"->∀ d H',ai H H'->E (.ref UF) (some d) H')
  (h3:unW c1 c2 "col"=""->∀ x H' bs,ai H H'->(c1.1,bs,c1.2.2)=unB c1 c2 "col"->bA bs->Q bs H' x):mS BS UF c1.1 c1.2.1 c1.2.2 c2.1 c2.2.1 c2.2.2 H Q E:=by
 have h:=xO (wy:="col") (.inl rfl) k1 k2 h1 h2 fun e x H' bs s' z=>h3 e x H' bs s' (by rw [<- z,vD]);rw [kW,lq,kW,lq] at h;exact h
theorem Bu {BS UF:ς} {c1 c2:Clo} {H:Hp} {Q:List Int->Hp->ς->Prop} {E:XK} (k1:dX c1) (k2:dX c2) (h1:unW c1 c2 "row"="size"->∀ H',ai H H'->E (.ref BS) none H') (h2:unW c1 c2 "row"="unfit"->∀ d H',ai H H'->E (.ref UF) (some d) H')
  (h3:unW c1 c2 "row"=""->∀ x H' bs,ai H H'->(c1.1,c1.2.1,bs)=unB c1 c2 "row"->bA bs->Q bs H' x):mS BS UF c1.1 c1.2.2 c1.2.1 c2.1 c2.2.2 c2.2.1 H Q E:=by
 have h:=xO (wy:="row") (.inr rfl) k1 k2 h1 h2 fun e x H' bs s' z=>h3 e x H' bs s' (by rw [<- z,vE]);rw [kX,lu,kX,lu] at h;exact h
theorem Dt {c:Clo} {k:Nat}:oC c "col" k=(fS c.1 c.2.1 c.2.2 ((k:Int)+1) 0,c.2.1.drop (k+1),shl c.2.2 ((k:Int)+1)):=by
 unfold oC jB shl;rw [if_pos rfl,kW,lq,ue]
theorem Du {c:Clo} {k:Nat}:oC c "row" k=(fS c.1 c.2.2 c.2.1 ((k:Int)+1) 0,shl c.2.1 ((k:Int)+1),c.2.2.drop (k+1)):=by
 unfold oC jB shl;rw [if_neg (by decide +kernel),kX,lu,ue]
end
section
variable {P:HS} {w:ID} {K:A_} {mg:Str->Option η} {base:IC} {t:Ad}
theorem Dp {K:A_} {S:ς} {i:Nat} {tb:(L2.St->XK)->TS} {ts:TS} {D:dn} {σ:L2.St} {H:Hp} (F:(L2.St->XK)->Prop) (h1:F (B8 K S i ts D)) (h2:∀ ET,F ET->tb ET D σ H):Fz K S i tb ts D σ H:=h2 _ h1
def Fx (C CH:ς):Sp:=fun vs H Q _=>∃ (p la lb v:ς) (past ahead:List Bk) (now:Bk) (dd:Dd),vs=[.ref p,.ref v]/\dF C CH H p la lb past now ahead/\past.length<=900/\now.length<=900/\qE now/\mh H v dd/\zy dd /\
 ((¬ (bp now dd).1="")->∀ l H',ai H H'->H' l=some (.lst [.str (bp now dd).1])->Q (.ref l) H') /\
 ((bp now dd).1=""->∀ l lb' H',bX [p,la] H H'->H lb'=none->dF C CH H' p la lb' (past++[now]) (bp now dd).2 []->H' l=some (.lst [])->Q (.ref l) H')
theorem ED (T:Txt K mg t):aR P w K mg base CX0 12 t.f_Ldo t.d_Ldo ["_law_chest","_law_deed"] (Fx t.a_ai t.a_ak):=by
 have GX_aq:=(okx_aq (P:=P) (w:=w) (base:=base) T).one;have GX_aJ:=(okx_aJ (P:=P) (w:=w) (base:=base) T).one;refine T.F_Ldo.ok eK (by walk_at "l") (fun _ _ _ s H vs Q E hr h=>?_)
 ·obtain ⟨p,la,lb,v,past,ahead,now,dd,rfl,hc,hz,hn,bo,hd,ok,z1,D⟩:=h;obtain ⟨dx,fs,d,e1,cl,_⟩:=hc.ob;refine aF (aI 2 eK.nd ao) fun _ _=>aF (AM (i:=4) eK.nd rfl rfl rfl T.mg_a5 (fun _ _=>(aj (aK (aN bD (aw (au K rfl) (pv 1) ag) ao) (aH (aI 3 eK.nd (aw (au K rfl) (pv 1) ag)) (aj (aI 2 eK.nd (eR (pv 0) T.cl_ak T.m_aJ GX_aJ (rmo hr) T.b_aJ .nil iG (aa (aw (au K rfl) (pv 1) ag) (aa (uW T.mk_ai GX_aq (rmo hr) rfl T.mg_ai T.b_aq .nil iG (aa (aw (au K rfl) (pv 3) ag) (aa (aW (fA K rfl) rfl T.no_list (by rfl) (aa (aw (au K rfl) (pv 3) ag) ae)) (aa (aW (fA K rfl) rfl T.no_list (by rfl) (aa (aw (au K rfl) (pv 3) ag) ae)) ae)))) ae)))))) (aj (aK (aN bD (aw (au K rfl) (pv 1) ag) ao) (aj (aI 2 eK.nd (eR (pv 0) T.cl_ak T.m_aL (okx_aL T) (rmo hr) T.b_aL .nil iG (aa (aw (au K rfl) (pv 1) ag) ae)))) (aj (aK (aN bD (aw (au K rfl) (pv 1) ag) ao) (aj (aI 2 eK.nd (eR (pv 0) T.cl_ak T.m_aP (okx_aP T) (rmo hr) T.b_aP .nil iG (aa (aw (au K rfl) (pv 1) ag) (aa (aw (au K rfl) (pv 1) ag) (aa (aw (au K rfl) (pv 1) ag) ae)))))) (aj (aK (aN bD (aw (au K rfl) (pv 1) ag) ao) (aj (aI 2 eK.nd (eR (pv 0) T.cl_ak T.m_a3 (okx_a3 T) (rmo hr) T.b_a3 .nil iG (aa (aw (au K rfl) (pv 1) ag) (aa (aw (au K rfl) (pv 1) ag) (aa (aw (au K rfl) (pv 1) ag) (aa (aw (au K rfl) (pv 1) ag) ae))))))) (aj (aK (aN bD (aw (au K rfl) (pv 1) ag) ao) (aj (aI 2 eK.nd (eR (pv 0) T.cl_ak T.m_a2 (okx_a2 T) (rmo hr) T.b_a2 .nil iG (aa (aw (au K rfl) (pv 1) ag) (aa (aw (au K rfl) (pv 1) ag) (aa (aw (au K rfl) (pv 1) ag) ae)))))) (aj (aK (aN bD (aw (au K rfl) (pv 1) ag) ao) (aj (aI 2 eK.nd (eR (pv 0) T.cl_ak T.m_a4 (okx_a4 T) (rmo hr) T.b_a4 .nil iG (aa (aw (au K rfl) (pv 1) ag) (aa (aw (au K rfl) (pv 1) ag) (aa (aw (au K rfl) (pv 1) ag) (aa (aw (au K rfl) (pv 1) ag) ae))))))) (aj (aK (aN bD (aw (au K rfl) (pv 1) ag) ao) (aj (aI 2 eK.nd (eR (pv 0) T.cl_ak T.m_aG (okx_aG T) (rmo hr) T.b_aG .nil iG (aa (aw (au K rfl) (pv 1) ag) (aa (aw (au K rfl) (pv 1) ag) (aa (aw (au K rfl) (pv 1) ag) (aa (aw (au K rfl) (pv 1) ag) ae))))))) (aj (aK (aN bD (aw (au K rfl) (pv 1) ag) ao) (aj (aI 2 eK.nd (qv (pv 0) T.cl_ak T.m_a0 (okx_a0 T) (rmo hr) T.b_a0 .nil iG))) (aj (aI 2 eK.nd (qv (pv 0) T.cl_ak T.m_aZ (okx_aZ T) (rmo hr) T.b_aZ .nil iG)))))))))))))))))))) (fun _=>(aj (az (uS (qu T) (eP.mark (eP.mono hr.q (by first | decide | omega))) rfl T.mg_bv T.F_bv.kp T.b_bv .nil (aa (pv 4) ae)))))) fun _ _=>aF (aK (aN rJ (pv 2) eU) (aj (az (bO ae))) aB) fun _ _=>cH (az (bO (aa ao ae))) fun _ _=>?_;refine rQ fun _ _=>?_;walk_at "rd1";walk_at "rd1";walk_at "rd1";walk_at "rd1";walk_at "rd1";walk_at "rd1";refine rQ fun _ _=>?_;walk_at "rd1";refine Dp (fun ET=>∀ (a b c d f:Option V) (C:ς) (xo:Option ς) (wd:Str) (H1:Hp),ai H H1->oW K t C wd [wd]->Ik K (.ref C) (.ref t.a_a5)=some true->(∀ l H',ai H H'->H' l=some (.lst [.str wd])->Q (.ref l) H')->ET [a,b,c,d,f] (.ref C) xo H1) (fun a b c d f C xo wd H1 s1 c8 ct kk=>⟨C,rfl,ct,fun e he=>?_⟩) (fun ET fin=>?_)
  ·apply ⟨e,C,xo,wd,[wd],rfl,af,c8,fun l H2 s2 nl el=>?_⟩;left;exact kk l H2 (s1.trans ((ai.new he).trans s2)) el
  have R:∀ wd:Str,(bp now dd).1=wd->(¬ wd="")->∀ l H',ai H H'->H' l=some (.lst [.str wd])->Q (.ref l) H':=fun wd e ne l H' s' el=>z1 (by rw [e]; exact ne) l H' s' (by rw [e]; exact el);left
  cases dd with
  | drop n =>
   change H v=some (.tup _) at hd;refine aq (SqT.of hd) rfl ?_;apply bQ (by decide +kernel) ?_;apply aq (SqT.of hd) rfl ?_;apply bY (by decide +kernel) ?_;apply ax e1 (cl.no _ (by decide +kernel)) ?_;apply aq (SqT.of hd) rfl ?_;left
   cases g:aL now n with
   | none=>exact ⟨p,la,lb,past,ahead,now,n,rfl,hc,by omega,by omega,.inl ⟨g,(fin _ _ _ _ _ _ _ _ _ (ai.refl _) T.c8_NoCloth T.cat_ab (R "cloth" (by simp only [bp]; rw [g]; rfl) (by decide +kernel)))⟩⟩
   | some c =>
    have en:bp now (.drop n)=(("":Str),fz now n):=by simp only [bp]; rw [g]; rfl
    refine ⟨p,la,lb,past,ahead,now,n,rfl,hc,by omega,by omega,.inr ⟨by rw [g]; rfl,?_⟩⟩;intro lb' H5 m5 n5 ch;apply ⟨rfl,_,rfl,bY (aX rfl) ?_⟩;apply ⟨Hs _,fun l nl=>?_⟩;exact D (by rw [en]) l lb' _ (m5.new nl) n5 (by rw [en]; exact ch.mono (ai.new nl)) af
  | turn n wy k =>
   change H v=some (.tup _) at hd;refine aq (SqT.of hd) rfl ?_;apply bQ (by decide +kernel) ?_;apply aq (SqT.of hd) rfl ?_;apply bQ (by decide +kernel) ?_;apply aq (SqT.of hd) rfl ?_;apply bY (by decide +kernel) ?_;apply ax e1 (cl.no _ (by decide +kernel)) ?_;apply aq (SqT.of hd) rfl ?_;apply aq (SqT.of hd) rfl ?_;apply aq (SqT.of hd) rfl ?_;left
   cases g:aL now n with
   | none=>exact ⟨p,la,lb,past,ahead,now,n,wy,k,rfl,hc,by omega,by omega,.inl ⟨g,(fin _ _ _ _ _ _ _ _ _ (ai.refl _) T.c8_NoCloth T.cat_ab (R "cloth" (by simp only [bp,dH]; rw [g]) (by decide +kernel)))⟩⟩
   | some c =>
    have ck:=bo.get g;by_cases hw:cG c wy k 0=""
    rotate_left
    ·exact ⟨p,la,lb,past,ahead,now,n,wy,k,rfl,hc,by omega,by omega,.inr ⟨c.1,c.2.1,c.2.2,g,.inl ⟨rl hw,(fin _ _ _ _ _ _ _ _ _ (ai.refl _) T.c8_NoLine T.cat_ae (R "line" (by simp only [bp,dH,fR]; rw [g]; simp only [hw,if_false]) (by decide +kernel)))⟩⟩⟩
    obtain ⟨hW,h0,h1⟩:=fg hw;obtain ⟨j,rfl⟩:∃ j:Nat,k=(j:Int):=⟨k.toNat,by omega⟩
    have en:bp now (.turn n wy (j:Int))=(("":Str),bG now n (cf c wy (mZ (aM wy c) j))):=by simp only [bp,dH,fR]; rw [g]; simp only [hw,if_true,G_]; rw [Cn (by omega)]; rfl
    have bb:=b8 ck wy;have b2:=lT (wy:=wy) ck (show bA (mZ (aM wy c) j) from qe bb (by omega));refine ⟨p,la,lb,past,ahead,now,n,wy,_,rfl,hc,by omega,by omega,.inr ⟨c.1,c.2.1,c.2.2,g,.inr ⟨_,_,_,oS hW,h0,by omega,by rw [G_]; exact tP hW _,b2.1,b2.2,?_⟩⟩⟩;rw [oU];intro lb' H5 m5 n5 ch;apply ⟨rfl,_,rfl,bY (aX rfl) ?_⟩;apply ⟨Hs _,fun l nl=>?_⟩;exact D (by rw [en]) l lb' _ (m5.new nl) n5 (by rw [en]; exact ch.mono (ai.new nl)) af
  | cut n wy k =>
   change H v=some (.tup _) at hd;refine aq (SqT.of hd) rfl ?_;apply bQ (by decide +kernel) ?_;apply aq (SqT.of hd) rfl ?_;apply bQ (by decide +kernel) ?_;apply aq (SqT.of hd) rfl ?_;apply bQ (by decide +kernel) ?_;apply aq (SqT.of hd) rfl ?_;apply bQ (by decide +kernel) ?_;apply aq (SqT.of hd) rfl ?_;apply bY (by decide +kernel) ?_;apply ax e1 (cl.no _ (by decide +kernel)) ?_;apply aq (SqT.of hd) rfl ?_;apply aq (SqT.of hd) rfl ?_;apply aq (SqT.of hd) rfl ?_;left
   cases g:aL now n with
   | none=>exact ⟨p,la,lb,past,ahead,now,n,wy,k,rfl,hc,by omega,by omega,.inl ⟨g,(fin _ _ _ _ _ _ _ _ _ (ai.refl _) T.c8_NoCloth T.cat_ab (R "cloth" (by simp only [bp,dH]; rw [g]) (by decide +kernel)))⟩⟩
   | some c =>
    have ck:=bo.get g;by_cases hw:cG c wy k 0=""
    rotate_left
    ·exact ⟨p,la,lb,past,ahead,now,n,wy,k,rfl,hc,by omega,by omega,.inr ⟨c.1,c.2.1,c.2.2,g,.inl ⟨rl hw,(fin _ _ _ _ _ _ _ _ _ (ai.refl _) T.c8_NoLine T.cat_ae (R "line" (by simp only [bp,dH,fR]; rw [g]; simp only [hw,if_false]) (by decide +kernel)))⟩⟩⟩
    obtain ⟨hW,h0,h1⟩:=fg hw;obtain ⟨j,rfl⟩:∃ j:Nat,k=(j:Int):=⟨k.toNat,by omega⟩
    have en:bp now (.cut n wy (j:Int))=(("":Str),bG now n (cf c wy ((aM wy c).eraseIdx j))):=by simp only [bp,dH,fR]; rw [g]; simp only [hw,if_true,G_]; rw [Er]; rfl
    have bb:=b8 ck wy;have b2:=lT (wy:=wy) ck (show bA ((aM wy c).eraseIdx j) from zR bb j);refine ⟨p,la,lb,past,ahead,now,n,wy,_,rfl,hc,by omega,by omega,.inr ⟨c.1,c.2.1,c.2.2,g,.inr ⟨_,_,_,oS hW,h0,by omega,by rw [G_]; exact tP hW _,b2.1,b2.2,?_⟩⟩⟩;rw [oU];intro lb' H5 m5 n5 ch;apply ⟨rfl,_,rfl,bY (aX rfl) ?_⟩;apply ⟨Hs _,fun l nl=>?_⟩;exact D (by rw [en]) l lb' _ (m5.new nl) n5 (by rw [en]; exact ch.mono (ai.new nl)) af
  | put n wy k b =>
   change H v=some (.tup _) at hd;refine aq (SqT.of hd) rfl ?_;apply bQ (by decide +kernel) ?_;apply aq (SqT.of hd) rfl ?_;apply bQ (by decide +kernel) ?_;apply aq (SqT.of hd) rfl ?_;apply bQ (by decide +kernel) ?_;apply aq (SqT.of hd) rfl ?_;apply bY (by decide +kernel) ?_;apply ax e1 (cl.no _ (by decide +kernel)) ?_;apply aq (SqT.of hd) rfl ?_;apply aq (SqT.of hd) rfl ?_;apply aq (SqT.of hd) rfl ?_;apply aq (SqT.of hd) rfl ?_;left
   cases g:aL now n with
   | none=>exact ⟨p,la,lb,past,ahead,now,n,wy,k,b,rfl,hc,by omega,by omega,.inl ⟨g,(fin _ _ _ _ _ _ _ _ _ (ai.refl _) T.c8_NoCloth T.cat_ab (R "cloth" (by simp only [bp,dH]; rw [g]) (by decide +kernel)))⟩⟩
   | some c =>
    have ck:=bo.get g;have bb:=b8 ck wy;have en0:bp now (.put n wy k b)=((fR c wy k 1 (pC k.toNat b)).1,bG now n (fR c wy k 1 (pC k.toNat b)).2):=by simp only [bp,dH]; rw [g]
    refine ⟨p,la,lb,past,ahead,now,n,wy,k,b,rfl,hc,by omega,by omega,.inr ⟨c.1,c.2.1,c.2.2,g,?_⟩⟩;unfold fR at en0;by_cases hW:"col"=wy\/"row"=wy
    rotate_left
    ·rw [if_neg fun e=>hW (fg e).1] at en0;exact .inl ⟨xx hW,(fin _ _ _ _ _ _ _ _ _ (ai.refl _) T.c8_NoLine T.cat_ae (R "line" (by rw [en0]) (by decide +kernel)))⟩
    refine .inr ⟨_,oS hW,?_⟩;by_cases hw:cG c wy k 1=""
    rotate_left
    ·rw [if_neg hw] at en0;exact .inl ⟨fun e=>hw (by unfold cG; rw [if_pos ⟨hW,e.1,e.2⟩]),(fun H1 s1=>(fin _ _ _ _ _ _ _ _ _ s1 T.c8_NoLine T.cat_ae (R "line" (by rw [en0]) (by decide +kernel))))⟩
    rw [if_pos hw] at en0;obtain ⟨_,h0,h1⟩:=fg hw;by_cases hb:b=0\/b=1
    rotate_left
    ·unfold pC at en0;rw [if_neg hb] at en0;exact .inr (.inl ⟨⟨h0,h1⟩,Ai hb,(fun H1 s1=>(fin _ _ _ _ _ _ _ _ _ s1 T.c8_BadBit T.cat_ag (R "bit" (by rw [en0]) (by decide +kernel))))⟩)
    by_cases hn:(aM wy c).length<=38
    rotate_left
    ·unfold pC at en0;rw [if_pos hb,if_neg hn] at en0;exact .inr (.inr (.inl ⟨⟨h0,h1⟩,ux hb,by have:=bb.1; omega,(fun H1 s1=>(fin _ _ _ _ _ _ _ _ _ s1 T.c8_BadSize T.cat_ac (R "size" (by rw [en0]) (by decide +kernel))))⟩))
    rw [ER hb hn] at en0;have b2:=lT (wy:=wy) ck (wj (k:=k.toNat) bb hn hb);refine .inr (.inr (.inr ⟨⟨h0,h1⟩,ux hb,by omega,_,_,tP hW _,b2.1,b2.2,?_⟩));rw [oU];intro lb' H5 m5 n5 ch;apply ⟨rfl,_,rfl,bY (aX rfl) ?_⟩;apply ⟨Hs _,fun l nl=>?_⟩;exact D (by rw [en0]) l lb' _ (m5.new nl) n5 (by rw [en0]; exact ch.mono (ai.new nl)) af
  | sew n o1 o2 wy =>
   change H v=some (.tup _) at hd;refine aq (SqT.of hd) rfl ?_;apply bQ (by decide +kernel) ?_;apply aq (SqT.of hd) rfl ?_;apply bQ (by decide +kernel) ?_;apply aq (SqT.of hd) rfl ?_;apply bQ (by decide +kernel) ?_;apply aq (SqT.of hd) rfl ?_;apply bQ (by decide +kernel) ?_;apply aq (SqT.of hd) rfl ?_;apply bQ (by decide +kernel) ?_;apply aq (SqT.of hd) rfl ?_;apply bY (by decide +kernel) ?_;apply ax e1 (cl.no _ (by decide +kernel)) ?_;apply aq (SqT.of hd) rfl ?_;apply aq (SqT.of hd) rfl ?_;apply aq (SqT.of hd) rfl ?_;apply aq (SqT.of hd) rfl ?_;apply ⟨p,la,lb,past,ahead,now,n,o1,o2,wy,rfl,ok.1,hc,by omega,by omega,fun a=>(fun H1 s1=>(fin _ _ _ _ _ _ _ _ _ s1 T.c8_BadName T.cat_ad (R "name" (by simp only [bp]; rw [rh a,if_neg (by decide +kernel)]) (by decide +kernel)))),fun a g=>(fun H1 s1=>(fin _ _ _ _ _ _ _ _ _ s1 T.c8_Taken T.cat_aj (R "taken" (by simp only [bp]; rw [rk a g,if_neg (by decide +kernel)]) (by decide +kernel)))),fun a g=>?_⟩;have nw:=rj a g;refine ⟨fun g1=>(fun H1 s1=>(fin _ _ _ _ _ _ _ _ _ s1 T.c8_NoCloth T.cat_ab (R "cloth" (by simp only [bp]; rw [nw,if_pos rfl,g1]) (by decide +kernel)))),fun c1 g1 g2=>(fun H1 s1=>(fin _ _ _ _ _ _ _ _ _ s1 T.c8_NoCloth T.cat_ab (R "cloth" (by simp only [bp]; rw [nw,if_pos rfl,g1,g2]) (by decide +kernel)))),fun c1 c2 g1 g2=>?_⟩;have en:bp now (.sew n o1 o2 wy)=(unW c1 c2 wy,bG now n (unB c1 c2 wy)):=by simp only [bp]; rw [nw,if_pos rfl,g1,g2]
   have k1:=bo.get g1;have k2:=bo.get g2;refine ⟨fun h=>?_,fun h=>?_,fun h1 h2=>(fun H1 s1=>(fin _ _ _ _ _ _ _ _ _ s1 T.c8_NoLine T.cat_ae (R "line" (by rw [en,wY,if_neg fun e=>e.elim (fun e=>h1 e.symm) fun e=>h2 e.symm]) (by decide +kernel))))⟩
   ·subst h;refine Bt k1 k2 (fun e=>(fun H1 s1=>(fin _ _ _ _ _ _ _ _ _ s1 T.c8_BadSize T.cat_ac (R "size" (by rw [en,e]) (by decide +kernel))))) (fun e d H1 s1=>(fin _ _ _ _ _ _ _ _ _ s1 T.c8_Unfit T.cat_ah (R "unfit" (by rw [en,e]) (by decide +kernel)))) (fun e x H' bs s' eb bb=>⟨bb,?_⟩);rw [eb];intro lb' H5 m5 n5 ch;apply ⟨rfl,_,rfl,bY (aX rfl) ?_⟩;apply ⟨Hs _,fun l nl=>?_⟩;exact D (by rw [en]; exact e) l lb' _ (m5.new nl) n5 (by rw [en]; exact ch.mono (ai.new nl)) af
   ·subst h;refine Bu k1 k2 (fun e=>(fun H1 s1=>(fin _ _ _ _ _ _ _ _ _ s1 T.c8_BadSize T.cat_ac (R "size" (by rw [en,e]) (by decide +kernel))))) (fun e d H1 s1=>(fin _ _ _ _ _ _ _ _ _ s1 T.c8_Unfit T.cat_ah (R "unfit" (by rw [en,e]) (by decide +kernel)))) (fun e x H' bs s' eb bb=>⟨bb,?_⟩);rw [eb];intro lb' H5 m5 n5 ch;apply ⟨rfl,_,rfl,bY (aX rfl) ?_⟩;apply ⟨Hs _,fun l nl=>?_⟩;exact D (by rw [en]; exact e) l lb' _ (m5.new nl) n5 (by rw [en]; exact ch.mono (ai.new nl)) af
  | part n wy k o =>
   change H v=some (.tup _) at hd;refine aq (SqT.of hd) rfl ?_;apply bQ (by decide +kernel) ?_;apply aq (SqT.of hd) rfl ?_;apply bQ (by decide +kernel) ?_;apply aq (SqT.of hd) rfl ?_;apply bQ (by decide +kernel) ?_;apply aq (SqT.of hd) rfl ?_;apply bQ (by decide +kernel) ?_;apply aq (SqT.of hd) rfl ?_;apply bQ (by decide +kernel) ?_;apply aq (SqT.of hd) rfl ?_;apply bQ (by decide +kernel) ?_;apply aq (SqT.of hd) rfl ?_;apply bY (by decide +kernel) ?_;apply ax e1 (cl.no _ (by decide +kernel)) ?_;apply aq (SqT.of hd) rfl ?_;apply aq (SqT.of hd) rfl ?_;apply aq (SqT.of hd) rfl ?_;apply aq (SqT.of hd) rfl ?_;apply ⟨p,la,lb,past,ahead,now,n,wy,k,o,rfl,ok.2,hc,by omega,by omega,?_⟩
   cases g:aL now n with
   | none=>exact .inl ⟨rfl,(fin _ _ _ _ _ _ _ _ _ (ai.refl _) T.c8_NoCloth T.cat_ab (R "cloth" (by simp only [bp]; rw [g]) (by decide +kernel)))⟩
   | some c =>
    refine .inr ⟨c,rfl,?_⟩;have en0:bp now (.part n wy k o)=if cO now o="" then (if cG c wy k 0="" then (("":Str),bG (bG now n (cf c wy ((aM wy c).take k.toNat))) o (oC c wy k.toNat)) else (("line":Str),now)) else (cO now o,now):=by simp only [bp]; rw [g]
    cases hn:bR o with
    | false =>
     rw [rh hn,if_neg (by decide +kernel)] at en0;exact .inl ⟨rfl,(fun H1 s1=>(fin _ _ _ _ _ _ _ _ _ s1 T.c8_BadName T.cat_ad (R "name" (by rw [en0]) (by decide +kernel))))⟩
    | true =>
     cases go:aL now o with
     | some c' =>
      rw [rk hn (by rw [go]; rfl),if_neg (by decide +kernel)] at en0;exact .inr (.inl ⟨rfl,rfl,(fun H1 s1=>(fin _ _ _ _ _ _ _ _ _ s1 T.c8_Taken T.cat_aj (R "taken" (by rw [en0]) (by decide +kernel))))⟩)
     | none =>
      rw [rj hn go,if_pos rfl] at en0;by_cases hw:cG c wy k 0=""
      rotate_left
      ·rw [if_neg hw] at en0;exact .inr (.inr (.inl ⟨rfl,rfl,rl hw,(fun H1 s1=>(fin _ _ _ _ _ _ _ _ _ s1 T.c8_NoLine T.cat_ae (R "line" (by rw [en0]) (by decide +kernel))))⟩))
      rw [if_pos hw] at en0;obtain ⟨hW,h0,h1⟩:=fg hw;refine .inr (.inr (.inr ⟨rfl,rfl,_,oS hW,h0,by omega,cf c wy ((aM wy c).take k.toNat),oC c wy k.toNat,?_,?_⟩))
      ·obtain ⟨j,rfl⟩:∃ j:Nat,k=(j:Int):=⟨k.toNat,by omega⟩
       rcases hW with rfl | rfl
       ·exact .inl ⟨rfl,by rw [vD,kW],by rw [G_,Dt]⟩
       ·exact .inr ⟨rfl,by rw [vE,kX],by rw [G_,Du]⟩
      intro lb' H5 m5 n5 ch;apply ⟨rfl,_,rfl,bY (aX rfl) ?_⟩;apply ⟨Hs _,fun l nl=>?_⟩;exact D (by rw [en0]) l lb' _ (m5.new nl) n5 (by rw [en0]; exact ch.mono (ai.new nl)) af
  | lay n c =>
   obtain ⟨q,hd,a,b,hq,ha,hb⟩:=hd;refine aq (SqT.of hd) rfl ?_;apply bY (by decide +kernel) ?_;apply aq (SqT.of hd) rfl ?_;apply ax e1 (cl.no _ (by decide +kernel)) ?_;apply aq (SqT.of hd) rfl ?_;apply aq (SqT.of hq) rfl ?_;apply aq (SqT.of hq) rfl ?_;apply u6 ha fun l1 n1=>?_;have s1:=ai.new (o:=HO.lst (c.2.1.map V.int)) n1;have q1:=af (H:=H) (a:=l1) (o:=HO.lst (c.2.1.map V.int));generalize upd H l1 (HO.lst (c.2.1.map V.int))=H1 at s1 q1 ⊢;apply aq (SqT.of (s1 _ _ hq)) rfl ?_;apply u6 (s1 _ _ hb) fun l2 n2=>?_;have s2:=ai.new (o:=HO.lst (c.2.2.map V.int)) n2;have q2:=af (H:=H1) (a:=l2) (o:=HO.lst (c.2.2.map V.int));generalize upd H1 l2 (HO.lst (c.2.2.map V.int))=H2 at s2 q2 ⊢;have s12:=s1.trans s2;left;intro x dxx nx ndx nex;have sM:ai H2 (upd (upd H2 dxx (.own x)) x (.ins t.a_ai dxx [])):=(ai.new ndx).later nx;obtain ⟨hsz,sh,bc,br⟩:=ok;have lc:=bc.1;have lr:=br.1;have sb:cv c.1=true:=by rcases sh with e | e<;>rw [e]<;>rfl
   refine ⟨x,dxx,l1,l2,c.1,c.2.1,c.2.2,rfl,af,sM _ _ (s2 _ _ q1),sM _ _ q2,by omega,by omega,.inr (.inr ⟨⟨lc,lr⟩,by unfold eC; rw [sb,bc.all,br.all]; rfl,fun H4 kp hC=>⟨rfl,?_⟩⟩)⟩;have s4:=s12.trans (jr (c:=0) (r:=0) nx ndx kp);apply ⟨p,la,lb,past,ahead,now,n,.ref x,c,rfl,hsz,hc.mono s4,by omega,by omega,⟨x,rfl,hC,sh,bc,br⟩,?_⟩;refine ⟨fun g=>(fun H1 s1=>(fin _ _ _ _ _ _ _ _ _ (s4.trans s1) T.c8_BadName T.cat_ad (R "name" (rh g) (by decide +kernel)))),fun g g2=>(fun H1 s1=>(fin _ _ _ _ _ _ _ _ _ (s4.trans s1) T.c8_Taken T.cat_aj (R "taken" (rk g g2) (by decide +kernel)))),fun g g2=>?_⟩;have en:bp now (.lay n c)=(cO now n,bG now n c):=rfl;have nw:=rj g g2;intro lb' H5 m5 n5 ch;apply ⟨rfl,_,rfl,bY (aX rfl) ?_⟩;apply ⟨Hs _,fun l nl=>?_⟩;exact D nw l lb' _ (((s4.butL _).trans m5).new nl) (s4.free n5) (ch.mono (ai.new nl)) af
theorem mF {X:Cx} (K:A_) (h:X.K=K):IxR X EY:=Et
theorem eS {X:Cx} (K:A_) (h:X.K=K):SlR X Gq:=Dz
structure Wd (x:Str):Prop where
 sz:0<x.cps.size/\x.cps.size<=12
 lt:∀ c∈x.cps.toList,97<=c/\c<=122
theorem Wd.str {x:Str} (h:Wd x):Bp x=true:=by
 unfold Bp;rw [Mj];intro c hc;have:=h.lt c (MC.mpr hc)
 exact aX (by omega)
noncomputable def cc (n:Nat):Nat:=97+n%26
theorem FP {n:Nat}:((("abcdefghijklmnopqrstuvwxyz":Str)).cps.toList)[n%26]?=some (cc n):=by
 have:∀ m,m<26->((("abcdefghijklmnopqrstuvwxyz":Str)).cps.toList)[m]?=some (97+m):=by decide +kernel
 exact this _ (Nat.mod_lt _ (by decide))
theorem zK (u:Int):atI (("abcdefghijklmnopqrstuvwxyz":Str)).cps.toList (u%26)=some (cc (u%26).toNat):=by
 obtain ⟨m,hm⟩:∃ m:Nat,u%26=(m:Int):=⟨(u%26).toNat,by omega⟩
 have hl:m<26:=by omega
 rw [hm,G_];have h:=FP (n:=m);rw [Nat.mod_eq_of_lt hl] at h;exact cK h
theorem Dv {l:List Nat} {p c:Nat} (h:p<l.length):l.take p++[c]++l.drop (p+1)=l.set p c:=by
 rw [Mg,if_pos h,Iw]; rfl
theorem BI {fl:List Str} {x:Str}:((fl.map KH).any fun y=>JS y (.str x))=decide (x∈fl):=by
 induction fl with
 | nil=>rfl
 | cons a r ih =>
  rw [Ho,Jk,ih];have:JS (.str a) (.str x)=decide (a=x):=rfl
  rw [this];by_cases h:a=x
  ·subst h; simp
  ·have h2:¬ x=a:=fun z=>h z.symm;simp [h,h2]
def sp_be:Sp:=fun vs H Q _=>∃ (q:ς) (xs:List Int) (mm:Nat),vs=[.ref q,.int (mm:Nat)]/\H q=some (.lst (xs.map V.int))/\mm<=xs.length/\mm<=100/\∀ (l:ς) (fl:List Str) H',ai H H'->H' l=some (.lst (fl.map V.str))->fl.length=mm->(∀ x∈fl,Wd x)->Q (.ref l) H'
theorem ok_be (T:Txt K mg t):aR P w K mg base CX0 1 t.f_be t.d_be ["_law_some","_law_many"] sp_be:=by
 refine T.F_be.ok sc_be (by walk_at "l") (fun _ _ _ s H vs Q E hr h=>?_)
 ·obtain ⟨q,xs,mm,rfl,hq,hl,hm,k⟩:=h;refine aF (fH (i:=2) sc_be.nd rfl (L0 rfl) ao) fun _ _=>aF (aI 3 sc_be.nd (bO ae)) fun _ _=>aF (fG Iv rfl (ft rfl T.no_bz (aa (pv 1) ae)) (aY (i:=4) sc_be.nd rfl (IQ rfl)) (aH (aI 5 sc_be.nd (av jL rfl T.no_abs (by rfl) (aa (aw (aG K rfl) (pv 0) (pv 4)) ae))) (aH (aI 6 sc_be.nd (ay bf ag (ay bB (pv 5) ag))) (aH (fH (i:=7) sc_be.nd rfl (L0 rfl) (ay kJ (pv 5) ag)) (aH (fH (i:=8) sc_be.nd rfl (L0 rfl) (ay bB (ay kJ (pv 5) ag) ag)) (aH (aI 9 sc_be.nd (cQ Hu Iu Ir fY ao (aa (cT (N:=["_law_k","_law_letters","_law_first","_law_by"]) (cap:=[none,some 2,some 7,some 8]) rfl ⟨rfl,rfl,rfl,rfl,rfl,rfl⟩ (ft rfl T.no_bz (aa (pv 6) ae)) (fun _ _ _=>(aY (i:=0) (show (["_law_k","_law_letters","_law_first","_law_by"]:List Str).Nodup by decide +kernel) rfl (IQ rfl))) (fun _ _ _=>cD) (fun _ _ _=>(aw (mF K rfl) (pv 1) (ay bB (ay bf (pv 2) (ay jQ (pv 0) (pv 3))) ag)))) ae))) (aH (aI 10 sc_be.nd (ay bB (ay kJ (pv 5) ag) (pv 6))) (aH (fG Iv rfl (ft rfl T.no_bz (aa ag ae)) (aY (i:=11) sc_be.nd rfl (IQ rfl)) (aj (aK (fh (Ax hr.units) (pv 9) (pv 3) rfl) (aH (aI 12 sc_be.nd (aw (mF K rfl) (pv 2) (ay bB (ay bf (pv 5) (pv 11)) ag))) (aj (aI 9 sc_be.nd (ay cS (ay cS (aU (eS K rfl) (pv 9) bu (bz (pv 10))) (pv 12)) (aU (eS K rfl) (pv 9) (bz (ay bf (pv 10) ag)) bu))))) aB))) (aj (aZ (cQ HV HZ HY bS (pv 3) (aa (pv 9) ae)))))))))))) fun _ _=>cH (az (pv 3)) fun _ _=>?_;apply ⟨Hs _,fun l nl=>?_⟩;apply ⟨mm,rfl,by omega,by omega,?_⟩;rw [G_];refine gQ (n:=mm) (fun i σ' H'=>∃ (fl:List Str) (a4 a5 a6 a7 a8 a9 b0 b1 b2:Option V),σ'=[some (.ref q),some (.int (mm:Nat)),some (.str "abcdefghijklmnopqrstuvwxyz"),some (.ref l),a4,a5,a6,a7,a8,a9,b0,b1,b2]/\ai H H'/\H' l=some (.lst (fl.map V.str))/\fl.length=i/\∀ x∈fl,Wd x)
   ⟨[],none,none,none,none,none,none,none,none,none,rfl,ai.new nl,af,rfl,fun x hx=>by cases hx⟩ ?_ ?_
  ·rintro i σ' H1 hi ⟨fl,a4,a5,a6,a7,a8,a9,b0,b1,b2,rfl,s1,e1,lf,hw⟩;apply aS (SqL.of (s1 _ _ hq)) (cN (by omega) (by omega)) ?_;generalize xs.getD ((0:Int)+(i:Nat)).toNat 0=z;left;obtain ⟨r,hr0⟩:∃ r:Nat,(if z<0 then -z else z)=(r:Int):=⟨z.natAbs,by split<;>omega⟩
   rw [hr0];refine bV (by decide) ?_;left;obtain ⟨sz,hsz,h1,h2⟩:∃ sz:Nat,(1+(r:Int)%12)=(sz:Int)/\0<sz/\sz<=12:=⟨1+r%12,by omega,by omega,by omega⟩
   rw [hsz];refine bV ⟨by decide,by decide⟩ ?_;apply bV ⟨by decide,by decide⟩ ?_;apply bV (by decide) ?_;generalize (r:Int) / 13=f;generalize (r:Int) / 5%4=g;apply ⟨rfl,?_⟩;apply ⟨sz,rfl,by omega,by omega,fun l2 n2=>?_⟩;rw [G_];have hle:(("abcdefghijklmnopqrstuvwxyz":Str)).length<=sizeLine:=by decide +kernel
   refine uh (fun j=>.str (sgn (cc ((f+((0:Int)+(j:Nat))*g)%26).toNat))) (by omega) n2 (fun j o H' Q' hj s2 qq=>?_) (fun H2 s2 e2=>?_)
   ·apply bV (.inl ⟨by omega,by omega⟩) ?_;apply bV (by decide) ?_;left;exact ⟨_,_,_,rfl,rfl,hle,zK _,qq _ (ai.refl _)⟩
   left;obtain ⟨cs,hcs⟩:∃ cs:List Nat,cs=(Io sz).map fun j:Nat=>cc ((f+((0:Int)+(j:Nat))*g)%26).toNat:=⟨_,rfl⟩
   have lcs:cs.length=sz:=by rw [hcs,ξ,KU]
   have e2:H2 l2=some (.lst ((cs.map sgn).map V.str)):=by rw [e2,hcs,IV,IV]; rfl
   refine ⟨"",l2,cs.map sgn,rfl,rfl,e2,nh (by omega),?_⟩;have hx0:=uD cs;generalize Txt.join "" (cs.map sgn)=x0 at hx0 ⊢;have wc:∀ c∈cs,97<=c/\c<=122:=fun c hc=>by
    rw [hcs] at hc;obtain ⟨j,_,rfl⟩:=Hv.mp hc;unfold cc; omega
   clear hcs;apply bV ⟨by decide,by decide⟩ ?_;apply bV (by omega:(0:Int)<(sz:Nat)) ?_;obtain ⟨p,hp,hps⟩:∃ p:Nat,(r:Int) / 7%(sz:Int)=(p:Int)/\p<sz:=⟨r / 7%sz,by rw [Int.natCast_emod,Int.natCast_ediv]; rfl,Nat.mod_lt _ h1⟩
   rw [hp];apply ⟨26,rfl,by decide,by decide,?_⟩;have s12:=s1.trans s2;have f1:=s2 _ _ e1;refine gQ (n:=26) (fun j σ' H'=>∃ (x:Str) (c1 c2:Option V),σ'=[some (.ref q),some (.int (mm:Nat)),some (.str "abcdefghijklmnopqrstuvwxyz"),some (.ref l),some (.int (0+(i:Nat))),some (.int r),some (.int sz),some (.int f),some (.int g),some (.str x),some (.int p),c1,c2]/\H'=H2/\x.cps.size=sz/\∀ c∈x.cps.toList,97<=c/\c<=122)
    ⟨x0,_,_,rfl,rfl,by rw [<- HK,hx0,lcs],by rw [hx0]; exact wc⟩ ?_ ?_
   ·rintro j σ' H' hj ⟨x,c1,c2,rfl,rfl,lx,wx0⟩;have lx':x.length<=sizeLine:=BA (show x.cps.size<=4000 by omega) (by decide)
    have wx:Bp x=true:=by
     unfold Bp;rw [Mj];intro c' hc';exact aX (by have:=wx0 _ (MC.mpr hc'); omega)
    apply ⟨fl.map KH,.str x,kP f1,rfl,nA fun y hy=>(hw y hy).str,wx,by unfold Kq; omega,?_⟩;rw [BI];by_cases hx:x∈fl
    ·refine ⟨_,rfl,bY (aX hx) ?_⟩;apply bV (by decide) ?_;refine ⟨_,_,_,rfl,rfl,hle,zK _,?_⟩;rw [show cc (((r:Int)+(0+(j:Nat)))%26).toNat=cc (r+j) by unfold cc; omega];apply ⟨x,rfl,lx',?_⟩;left;have z1:(Txt.slice x none (some (p:Int))).length<=x.cps.size:=Txt.slice_le x _ _;have z2:(Txt.slice x (some ((p:Int)+1)) none).length<=x.cps.size:=Txt.slice_le x _ _;have z3:(⟨#[cc (r+j)]⟩:Str).length=1:=rfl;have zL:1000<=sizeLine:=by decide
     refine ⟨_,_,rfl,rfl,by omega,?_⟩
     have z4:(Txt.slice x none (some (p:Int))++(⟨#[cc (r+j)]⟩:Str)).length<=x.cps.size+1:=by
      show (Txt.slice x none (some (p:Int))++(⟨#[cc (r+j)]⟩:Str)).cps.size<=_
      rw [<- HK,qQ,Av,HK];exact Nn z1 (Ω 1)
     apply ⟨x,rfl,lx',?_⟩;refine ⟨_,_,rfl,rfl,by omega,?_⟩;left
     have ey:(Txt.slice x none (some (p:Int))++(⟨#[cc (r+j)]⟩:Str)++Txt.slice x (some ((p:Int)+1)) none).cps.toList=x.cps.toList.set p (cc (r+j)):=by
      rw [qQ,qQ,By (by omega),show ((p:Int)+1)=((p+1:Nat):Int) by omega,Bw (by omega)];exact Dv (by rw [HK]; omega)
     refine ⟨_,_,_,rfl,rfl,by rw [<- HK,ey,NI,HK]; exact lx,fun c' hc'=>?_⟩;rw [ey] at hc';rcases Np hc' with h | h
     ·exact wx0 _ h
     ·rw [h]; unfold cc; omega
    ·refine ⟨_,rfl,bQ (bI hx) ?_⟩;left;exact ⟨x,_,_,rfl,rfl,lx,wx0⟩
   ·rintro σ' H' ⟨x,c1,c2,rfl,rfl,lx,wx0⟩;apply cV f1 ?_;apply bT f1 (by rw [ξ]; exact aQ (by omega)) ?_;apply ⟨fl++[x],_,_,_,_,_,_,_,_,_,rfl,s12.later nl,by rw [af,HN]; rfl,by rw [Av,lf]; rfl,fun y hy=>?_⟩;rcases Hj.mp hy with h | h
    ·exact hw y h
    ·rw [HL.mp h];exact ⟨by omega,wx0⟩
  ·rintro σ' H1 ⟨fl,a4,a5,a6,a7,a8,a9,b0,b1,b2,rfl,s1,e1,lf,hw⟩;left;exact k l fl H1 s1 e1 lf hw
end
theorem PwL.keys {H:Hp} {kvs:List (Key×V)} {bk:Bk} (h:PwL H kvs bk):(kvs.map fun p=>kV p.1)=(bk.map (·.1)).map V.str:=by
 induction h with
 | nil=>rfl
 | cons r _ ih=>rw [Ho,Ho,Ho,ih,r.1]; rfl
def mR (bk:Bk):Prop:=∀ nc∈bk,Bp nc.1=true
section
variable {P:HS} {w:ID} {K:A_} {mg:Str->Option η} {base:IC} {t:Ad}
noncomputable def GH:II->Option Str
 | .Constant (.str x) _ _=>some x
 | _=>none
noncomputable def lR:List II->Option (List Str)
 | []=>some []
 | e::es=>(GH e).bind fun x=>(lR es).map (x::·)
def vA (xs:List Str):TA:=fun _ H Q=>Q (xs.map V.str) H
theorem rK {X:Cx}:∀ {es:List II} {xs:List Str},lR es=some xs->PA X es (vA xs)
 | [],xs,h=>by cases h; exact ae
 | e::es,xs,h=>by
  unfold lR at h
  cases e with
  | Constant k j pos =>
   cases k with
   | str x =>
    cases e1:lR es with
    | none=>rw [e1] at h; cases h
    | some ys =>
     rw [e1] at h; cases h;exact aa (t:=vA ys) ao (rK e1) rfl
   | _=>cases h
  | _ => cases h
structure PSW (X:Cx) (st:Kf) (t:TS):Prop where
 h:PS X st t
theorem zQ {X:Cx} {s:Kf} {ss:List Kf} {r:TS} {C:TS->Prop} (d:PSW X s r) (k:∀ r',r'=r->∃ ts,PSs X ss ts/\C (DG r' ts)):∃ ts,PSs X (s::ss) ts/\C ts:=aF d.h k
theorem nU {X:Cx} {i:Nat} {x:Str} {es:List II} {xs:List Str} {p1 p2 p3:J8} (hN:X.N.Nodup) (hi:X.N[i]?=some x) (hx:Loc X.env.scope x) (h:lR es=some xs) (hf:X.fn x=true\/X.env.scope.names.lookup x=some .local:=by first | exact .inl rfl | exact .inr rfl | assumption) :
  PSW X (.Assign [.Name x p1] (.List es p2) p3) (wQ (DF (vA xs)) (eB i)):=⟨fH hN hi hx (bO (rK h)) rfl hf⟩
theorem rN {X:Cx} {K:A_} {i:Nat} {x:Str} {es:List II} {xs:List Str} {ie:II} {te:TE} {p1 p2 p3 p4:J8} (hK:X.K=K) (hN:X.N.Nodup) (hi:X.N[i]?=some x) (hx:Loc X.env.scope x) (h:lR es=some xs) (he:PE X ie te) (hs:qG ie) (hf:X.fn x=true\/X.env.scope.names.lookup x=some .local:=by first | exact .inl rfl | exact .inr rfl | assumption) :
  PSW X (.Assign [.Name x p1] (.Subscript (.List es p2) ie p3) p4) (wQ (tOp (CP K) (DF (vA xs)) te) (eB i)):=⟨fH hN hi hx (DV (aG K hK) (bO (rK h)) he hs) rfl hf⟩
theorem rR {xs:List Str} {ys:List V} {σ:L2.St} {H:Hp} {Q:List V->Hp->Prop} (e:xs.map V.str=ys) (q:Q ys H):vA xs σ H Q:=by subst e; exact q
theorem oQ {fl:List Str} {i:Int} (h0:0<=i) (h1:i<fl.length):∃ x∈fl,atI (fl.map V.str) i=some (.str x):=by
 obtain ⟨j,rfl⟩:=Int.eq_ofNat_of_zero_le h0;have hj:j<fl.length:=by omega
 refine ⟨fl[j],Iq hj,cK ?_⟩;rw [BD,E_ hj]; rfl
def qH (pl:List Str):Prop:=∀ x∈pl,Bp x=true/\x.cps.size<=4000
def DdN:Dd->Prop
 | .lay n _=>Bp n=true
 | .drop n=>Bp n=true
 | .turn n _ _=>Bp n=true
 | .cut n _ _=>Bp n=true
 | .put n _ _ _=>Bp n=true
 | .sew n _ _ _=>Bp n=true
 | .part n _ _ o=>Bp n=true/\Bp o=true
def sp_aC:Sp:=fun vs H Q _=>∃ (q b l:ς) (zs:List Int) (bk:Bk) (pl:List Str),vs=[.ref q,.ref b,.ref l]/\H q=some (.lst (zs.map V.int))/\10<=zs.length/\LB H b bk/\bk.length<=900/\mR bk/\H l=some (.lst (pl.map V.str))/\0<pl.length/\pl.length<=100/\qH pl /\
 ∀ v dd H',ai H H'->mh H' v dd->zy dd->DdN dd->Q (.ref v) H'
theorem ok_aC (T:Txt K mg t):aR P w K mg base CX0 2 t.f_aC t.d_aC ["_law_some","_law_book","_law_pool"] sp_aC:=by
 refine T.F_aC.ok sc_aC (by walk_at "l") (fun _ _ _ s H vs Q E hr h=>?_)
 ·obtain ⟨q,b,l,zs,bk,pl,rfl,hq,lz,hb,lb,nb,hl,p0,p1,po,z⟩:=h;refine zQ (nU (i:=3) (xs:=["lay","lay","lay","drop","turn","put","cut","sew","sew","part","part"]) sc_aC.nd rfl (IQ rfl) rfl) fun _ _=>aF (aI 4 sc_aC.nd (aw (aG K rfl) (pv 3) (ay bB (aw (aG K rfl) (pv 0) ag) ag))) fun _ _=>aF (aI 5 sc_aC.nd (aw (aG K rfl) (pv 2) (ay bB (aw (aG K rfl) (pv 0) ag) (av (bJ K rfl) rfl T.no_len (by rfl) (aa (pv 2) ae))))) fun _ _=>aF (dw (aK (PW.pt (fJ (aN kK (ay bB (aw (aG K rfl) (pv 0) ag) ag) ag) (fJ (aN kK (av w5 rfl T.no_len (by rfl) (aa (pv 1) ae)) ag) (fi (fh (js hr.units) (pv 4) (bh (aa ao (aa ao ae))) rfl))))) (aj (aI 5 sc_aC.nd (aw (aG K rfl) (aW (jn rfl) rfl T.no_list (by rfl) (aa (pv 1) ae)) (ay bB (aw (aG K rfl) (pv 0) ag) (av w5 rfl T.no_len (by rfl) (aa (pv 1) ae)))))) aB)) fun _ _=>zQ (rN (i:=6) (xs:=["col","row","col","row","col","row","col","row","cols"]) rfl sc_aC.nd rfl (IQ rfl) rfl (ay bB (aw (aG K rfl) (pv 0) ag) ag) (fun _ _=>rfl)) fun _ _=>aF (aK (aN bD (pv 4) ao) (aH (aI 7 sc_aC.nd (ay bf ag (ay bB (aw (aG K rfl) (pv 0) ag) ag))) (aH (aI 8 sc_aC.nd (ay bf ag (ay bB (aw (aG K rfl) (pv 0) ag) ag))) (aH (aI 9 sc_aC.nd (aD (ok_bu T) (rmo hr) rfl T.mg_bu T.F_bu.kp T.b_bu .nil aV (aa (aw (aG K rfl) (pv 0) ag) (aa (ay fE (pv 7) ag) ae)))) (aj (az (bh (aa ao (aa (pv 5) (aa (bh (aa (ay bB (aw (aG K rfl) (pv 0) ag) ag) (aa (pv 9) (aa (aD (ok_bu T) (rmo hr) rfl T.mg_bu T.F_bu.kp T.b_bu .nil aV (aa (aw (aG K rfl) (pv 0) ag) (aa (ay fE (pv 8) ag) ae))) ae)))) ae))))))))) aB) fun _ _=>aF (aK (aN bD (pv 4) ao) (aj (az (bh (aa ao (aa (pv 5) ae))))) aB) fun _ _=>aF (aK (aN bD (pv 4) ao) (aj (az (bh (aa ao (aa (pv 5) (aa (aw (aG K rfl) (pv 2) (ay bB (aw (aG K rfl) (pv 0) ag) (av (bJ K rfl) rfl T.no_len (by rfl) (aa (pv 2) ae)))) (aa (aw (aG K rfl) (pv 2) (ay bB (aw (aG K rfl) (pv 0) ag) (av (bJ K rfl) rfl T.no_len (by rfl) (aa (pv 2) ae)))) (aa (pv 6) ae)))))))) aB) fun _ _=>aF (aI 10 sc_aC.nd ag) fun _ _=>aF (dw (aK (iK (we (cY hr) (pv 5) (pv 1))) (aj (aI 10 sc_aC.nd (av (bJ K rfl) rfl T.no_len (by rfl) (aa (aw (au K rfl) (gY (cY hr) (pv 1) (pv 5) (fun _ _=>rfl)) (ay bf ag (aW lh rfl T.no_int (by rfl) (aa (iI bD (pv 6) ao) ae)))) ae)))) aB)) fun _ _=>aF (aI 11 sc_aC.nd (bO (aa (ay bB (aw (aG K rfl) (pv 0) ag) (av (w6 rfl) rfl T.no_max (by rfl) (aa ag (aa (pv 10) ae)))) (aa (ay bB (aw (aG K rfl) (pv 0) ag) (ay bf (pv 10) ag)) (aa (Gd FD ag) (aa (pv 10) ae)))))) fun _ _=>aF (aI 12 sc_aC.nd (aw (aG K rfl) (pv 11) (av (w6 rfl) rfl T.no_max (by rfl) (aa ag (aa (ay fE (ay bB (aw (aG K rfl) (pv 0) ag) ag) ag) ae))))) fun _ _=>aF (aK (aN bD (pv 4) ao) (aj (az (bh (aa ao (aa (pv 5) (aa (pv 6) (aa (pv 12) (aa (aw (aG K rfl) (bO (aa (ay bB (aw (aG K rfl) (pv 0) ag) ag) (aa (ay bB (aw (aG K rfl) (pv 0) ag) ag) (aa (ay bB (aw (aG K rfl) (pv 0) ag) ag) ae)))) (ay bB (aw (aG K rfl) (pv 0) ag) ag)) ae)))))))) aB) fun _ _=>aF (aK (aN bD (pv 4) ao) (aj (az (bh (aa ao (aa (pv 5) (aa (pv 6) (aa (pv 12) (aa (aw (aG K rfl) (pv 2) (ay bB (aw (aG K rfl) (pv 0) ag) (av (bJ K rfl) rfl T.no_len (by rfl) (aa (pv 2) ae)))) ae)))))))) aB) fun _ _=>cH (az (bh (aa (pv 4) (aa (pv 5) (aa (pv 6) (aa (pv 12) ae)))))) fun _ _=>?_;have IX:∀ (i:Nat),i<10->∀ {H':Hp},ai H H'->SqL K H' q (zs.map V.int)/\atI (zs.map V.int) (i:Int)=some (.int (zs.getD i 0)):=fun i hi H' s'=>⟨SqL.of (s' _ _ hq),by have:=cN (zs:=zs) (i:=(i:Int)) (by omega) (by omega); rw [G_] at this; exact this⟩
  apply rR (ys:=[V.str "lay",V.str "lay",V.str "lay",V.str "drop",V.str "turn",V.str "put",V.str "cut",V.str "sew",V.str "sew",V.str "part",V.str "part"]) rfl ?_;refine nwL fun kl H1 skl nkl ekl=>?_;apply aS (IX 0 (by decide) skl).1 (IX 0 (by decide) skl).2 ?_;apply bV (by decide) ?_;obtain ⟨kd,hkd,gk⟩:=oQ (fl:=["lay","lay","lay","drop","turn","put","cut","sew","sew","part","part"]) (i:=zs.getD 0 0%11) (by omega) (by show _<(11:Int); omega);refine aS (SqL.of ekl) gk ?_;apply aS (IX 1 (by decide) skl).1 (IX 1 (by decide) skl).2 ?_;apply bM (skl _ _ hl) ?_;rw [ξ];apply bV (by omega:(0:Int)<(pl.length:Nat)) ?_;obtain ⟨n0,hn0,gn⟩:=oQ (fl:=pl) (i:=zs.getD 1 0%(pl.length:Nat)) (Jv _ (by omega)) (Jc _ (by omega));refine aS (SqL.of (skl _ _ hl)) gn ?_;left;have ok0:=po n0 hn0
  have okd:Bp kd=true:=by
   symm at hkd;rcases hkd with rfl | rfl | rfl | rfl | rfl | rfl | rfl | rfl | rfl | rfl | rfl<;>decide +kernel
  refine dz (fun σ' H'=>∃ nm:Str,σ'=[some (.ref q),some (.ref b),some (.ref l),some (.ref kl),some (.str kd),some (.str nm),none,none,none,none,none,none,none]/\ai H1 H'/\Bp nm=true/\("lay"=kd\/"sew"=kd->nm.cps.size<=4000)) ?_ ?_
  ·have stay:∀ H',ai H1 H'->∃ nm:Str,([some (.ref q),some (.ref b),some (.ref l),some (.ref kl),some (.str kd),some (.str n0),none,none,none,none,none,none,none]:L2.St)=[some (.ref q),some (.ref b),some (.ref l),some (.ref kl),some (.str kd),some (.str nm),none,none,none,none,none,none,none]/\ai H1 H'/\Bp nm=true/\("lay"=kd\/"sew"=kd->nm.cps.size<=4000):=fun H' s'=>⟨n0,rfl,s',ok0.1,fun _=>ok0.2⟩
   apply aS (IX 2 (by decide) skl).1 (IX 2 (by decide) skl).2 ?_;apply bV (by decide) ?_;left;obtain ⟨kvs,eb,pw⟩:=hb.mono skl;have lk:kvs.length=bk.length:=Paired.length pw;refine fT (fun _=>?_) (fun _=>?_)
   rotate_left
   ·left;exact stay _ (ai.refl _)
   apply ⟨b,kvs,rfl,eb,?_⟩;apply fT (fun c0=>?_) (fun _=>?_)
   rotate_left
   ·left;exact stay _ (ai.refl _)
   have c0:=of_decide_eq_true c0;apply nwT fun tn H2 stn ntn etn=>?_;refine iO etn (by decide +kernel) (by decide +kernel) okd ?_;apply fT (fun _=>?_) (fun c1=>?_)
   ·left;exact stay _ stn
   apply ⟨b,kvs,rfl,stn _ _ eb,fun ll nll=>?_⟩;rw [pw.keys];have sll:=ai.new (o:=HO.lst ((bk.map (·.1)).map V.str)) nll;have ell:=af (H:=H2) (a:=ll) (o:=HO.lst ((bk.map (·.1)).map V.str));generalize upd H2 ll (HO.lst ((bk.map (·.1)).map V.str))=H3 at sll ell ⊢;have s3:=skl.trans (stn.trans sll);apply aS (IX 1 (by decide) s3).1 (IX 1 (by decide) s3).2 ?_;apply ⟨b,kvs,rfl,sll _ _ (stn _ _ eb),?_⟩;left;rw [lk] at c0 ⊢;refine bV (by omega:(0:Int)<(bk.length:Nat)) ?_;obtain ⟨n1,hn1,g1⟩:=oQ (fl:=bk.map (·.1)) (i:=zs.getD 1 0%(bk.length:Nat)) (Jv _ (by omega)) (by rw [ξ]; exact Jc _ (by omega));refine aS (SqL.of ell) g1 ?_;apply ⟨n1,rfl,stn.trans sll,?_,fun z=>?_⟩
   ·obtain ⟨nc,h1,rfl⟩:=Hv.mp hn1;exact nb nc h1
   ·rcases z with z | z
    ·exact absurd (by rw [aX z]; rfl) c1
    ·exact absurd (by rw [aX z,Ls]) c1
  rintro σ' H2 ⟨nm,rfl,s2,okn,szn⟩;apply rR (ys:=[V.str "col",V.str "row",V.str "col",V.str "row",V.str "col",V.str "row",V.str "col",V.str "row",V.str "cols"]) rfl ?_;refine nwL fun wl H3 swl nwl ewl=>?_;have s3:=skl.trans (s2.trans swl);apply aS (IX 3 (by decide) s3).1 (IX 3 (by decide) s3).2 ?_;apply bV (by decide) ?_;obtain ⟨wy,hwy,gw⟩:=oQ (fl:=["col","row","col","row","col","row","col","row","cols"]) (i:=zs.getD 3 0%9) (by omega) (by show _<(9:Int); omega)
  have okw:Bp wy=true:=by
   symm at hwy;rcases hwy with rfl | rfl | rfl | rfl | rfl | rfl | rfl | rfl | rfl<;>decide +kernel
  refine aS (SqL.of ewl) gw ?_;left;have IX:=fun (i:Nat) (hi:i<10) {H':Hp} (s':ai H3 H')=>IX i hi (s3.trans s');have hl:=s3 _ _ hl;have hb:=hb.mono s3;have z:=fun v dd H' (s':ai H3 H')=>z v dd H' (s3.trans s');have PL:∀ (x:Int) {H':Hp},ai H3 H'->∃ n,Bp n=true/\n.cps.size<=4000/\SqL K H' l (pl.map V.str)/\atI (pl.map V.str) (x%(pl.length:Nat))=some (.str n):=fun x H' s'=>by
   obtain ⟨n,hn,g⟩:=oQ (fl:=pl) (i:=x%(pl.length:Nat)) (Jv _ (by omega)) (Jc _ (by omega));exact ⟨n,(po n hn).1,(po n hn).2,SqL.of (s' _ _ hl),g⟩
  clear s3 swl ewl s2 skl ekl gk gw gn;refine fT (fun c0=>?_) (fun c0=>?_)
  ·have c0:=of_decide_eq_true c0;subst c0;apply aS (IX 4 (by decide) (ai.refl _)).1 (IX 4 (by decide) (ai.refl _)).2 ?_;apply bV (by decide) ?_;obtain ⟨wd,hwd,bw⟩:∃ wd:Nat,1+zs.getD 4 0%9=(wd:Int)+1/\wd<=8:=⟨(zs.getD 4 0%9).toNat,by omega,by omega⟩
   left;rw [hwd];refine aS (IX 5 (by decide) (ai.refl _)).1 (IX 5 (by decide) (ai.refl _)).2 ?_;apply bV (by decide) ?_;obtain ⟨tl,htl,bt⟩:∃ tl:Nat,1+zs.getD 5 0%9=(tl:Int)+1/\tl<=8:=⟨(zs.getD 5 0%9).toNat,by omega,by omega⟩
   left;rw [htl];refine aS (IX 7 (by decide) (ai.refl _)).1 (IX 7 (by decide) (ai.refl _)).2 ?_;apply ⟨zs.getD 7 0,wd,by rw [Int.add_sub_cancel]; rfl,by omega,fun lc cs H4 s4 _ ec lcs bc=>?_⟩;apply aS (IX 6 (by decide) s4).1 (IX 6 (by decide) s4).2 ?_;apply bV (by decide) ?_;apply aS (IX 8 (by decide) s4).1 (IX 8 (by decide) s4).2 ?_;apply ⟨zs.getD 8 0,tl,by rw [Int.add_sub_cancel]; rfl,by omega,fun lr rs H5 s5 _ er lrs br=>?_⟩;left;have ms:=F8 (zs.getD 6 0);refine nwT fun pp H6 spp npp epp=>?_;apply nwT fun dt H7 sdt ndt edt=>?_;have s57:=spp.trans sdt;exact z dt (.lay nm (zs.getD 6 0%2,cs,rs)) H7 (s4.trans (s5.trans s57)) ⟨pp,edt,lc,lr,sdt _ _ epp,s57 _ _ (s5 _ _ ec),s57 _ _ er⟩ ⟨szn (.inl rfl),ms,⟨by rw [lcs]; omega,bc⟩,⟨by rw [lrs]; omega,br⟩⟩ okn
  apply fT (fun c1=>?_) (fun c1=>?_)
  ·apply nwT fun dt H7 sdt ndt edt=>?_;exact z dt (.drop nm) H7 sdt edt trivial okn
  apply fT (fun c2=>?_) (fun c2=>?_)
  ·have c2:=of_decide_eq_true c2;apply aS (IX 4 (by decide) (ai.refl _)).1 (IX 4 (by decide) (ai.refl _)).2 ?_;apply bM hl ?_;rw [ξ];apply bV (by omega:(0:Int)<(pl.length:Nat)) ?_;obtain ⟨o1,_,_,g1,g2⟩:=PL (zs.getD 4 0) (ai.refl _);refine aS g1 g2 ?_;apply aS (IX 5 (by decide) (ai.refl _)).1 (IX 5 (by decide) (ai.refl _)).2 ?_;apply bM hl ?_;rw [ξ];apply bV (by omega:(0:Int)<(pl.length:Nat)) ?_;obtain ⟨o2,_,_,g3,g4⟩:=PL (zs.getD 5 0) (ai.refl _);refine aS g3 g4 ?_;apply nwT fun dt H7 sdt ndt edt=>?_;exact z dt (.sew nm o1 o2 wy) H7 sdt edt ⟨szn (.inr c2.symm),okw⟩ okn
  apply dz (fun σ' H'=>∃ m:Nat,σ'=[some (.ref q),some (.ref b),some (.ref l),some (.ref kl),some (.str kd),some (.str nm),some (.str wy),none,none,none,some (.int (m:Nat)),none,none]/\H'=H3) ?_ ?_
  ·left;obtain ⟨kvs,eb,pw⟩:=hb;refine ⟨b,_,rfl,dP.k (k:=Bm nm) eb,?_⟩;refine ⟨_,rfl,?_⟩;rcases pw.get nm with ⟨g1,_⟩ | ⟨q1,c1,g1,_,h1⟩
   ·rw [g1,JO];left;exact ⟨9,rfl,rfl⟩
   rw [g1,JC];apply ⟨b,.ref q1,rfl,by rw [<- g1]; exact dP.k (k:=Bm nm) eb,?_⟩;obtain ⟨a',b',x,y,g2,_,_,i1,gx,_,_⟩:=h1.side wy;apply aq (SqT.of g2) i1 ?_;apply bM gx ?_;rw [ξ];left;exact ⟨_,rfl,rfl⟩
  rintro σ' H4 ⟨m,rfl,rfl⟩;apply aS (IX 4 (by decide) (ai.refl _)).1 (IX 4 (by decide) (ai.refl _)).2 ?_;apply bV (by split<;>omega) ?_;apply aS (IX 4 (by decide) (ai.refl _)).1 (IX 4 (by decide) (ai.refl _)).2 ?_;apply bV (by omega:(0:Int)<(m:Nat)+2) ?_;left;generalize hx1:zs.getD 4 0%(if ((m:Nat):Int) > 1 then ((m:Nat):Int) else 1)=x1;generalize zs.getD 4 0%(((m:Nat):Int)+2)=x2;refine nwL fun ml H5 sml nml eml=>?_;apply aS (IX 5 (by decide) sml).1 (IX 5 (by decide) sml).2 ?_;apply bV (by decide) ?_;left;obtain ⟨k,gk⟩:∃ k,atI ([x1,x2,-1,(m:Nat)].map V.int) (if zs.getD 5 0%11 - 7 > 0 then zs.getD 5 0%11 - 7 else 0)=some (.int k):=⟨_,cN (by split<;>omega) (by show _<(4:Int); split<;>omega)⟩
  refine aS (SqL.of eml) gk ?_;apply fT (fun c3=>?_) (fun c3=>?_)
  ·apply aS (IX 6 (by decide) sml).1 (IX 6 (by decide) sml).2 ?_;apply bV (by decide) ?_;apply aS (IX 6 (by decide) sml).1 (IX 6 (by decide) sml).2 ?_;apply bV (by decide) ?_;apply aS (IX 6 (by decide) sml).1 (IX 6 (by decide) sml).2 ?_;apply bV (by decide) ?_;apply nwL fun bl H6 sbl nbl ebl=>?_;apply aS (IX 7 (by decide) (sml.trans sbl)).1 (IX 7 (by decide) (sml.trans sbl)).2 ?_;apply bV (by decide) ?_;obtain ⟨b0,gb⟩:∃ b0,atI ([zs.getD 6 0%2,zs.getD 6 0%2,zs.getD 6 0%3].map V.int) (zs.getD 7 0%3)=some (.int b0):=⟨_,cN (by omega) (by show _<(3:Int); omega)⟩
   refine aS (SqL.of ebl) gb ?_;apply nwT fun dt H7 sdt ndt edt=>?_;exact z dt (.put nm wy k b0) H7 (sml.trans (sbl.trans sdt)) edt okw okn
  apply fT (fun c4=>?_) (fun c4=>?_)
  ·apply aS (IX 6 (by decide) sml).1 (IX 6 (by decide) sml).2 ?_;apply bM (sml _ _ hl) ?_;rw [ξ];apply bV (by omega:(0:Int)<(pl.length:Nat)) ?_;obtain ⟨o1,oo,ol,g1,g2⟩:=PL (zs.getD 6 0) sml;refine aS g1 g2 ?_;apply nwT fun dt H7 sdt ndt edt=>?_;exact z dt (.part nm wy k o1) H7 (sml.trans sdt) edt ⟨okw,ol⟩ ⟨okn,oo⟩
  apply nwT fun dt H7 sdt ndt edt=>?_;symm at hkd;rw [decide_eq_true_eq] at c0 c1 c2 c3 c4;rcases hkd with rfl | rfl | rfl | rfl | rfl | rfl | rfl | rfl | rfl | rfl | rfl
  ·exact absurd rfl c0
  ·exact absurd rfl c0
  ·exact absurd rfl c0
  ·exact absurd rfl c1
  ·exact z dt (.turn nm wy k) H7 (sml.trans sdt) edt okw okn
  ·exact absurd rfl c3
  ·exact z dt (.cut nm wy k) H7 (sml.trans sdt) edt okw okn
  ·exact absurd rfl c2
  ·exact absurd rfl c2
  ·exact absurd rfl c4
  ·exact absurd rfl c4
theorem vR {bk:Bk} {n:Str} (h:n∈bk.map (·.1)):∃ c,aL bk n=some c:=by
 induction bk with
 | nil=>cases h
 | cons a r ih =>
  unfold aL;by_cases e:a.1=n
  ·rw [Lq (by simpa using e)]; exact ⟨_,rfl⟩
  ·rw [Lr (by simpa using e)];rcases Ξ.mp h with z | z
   ·exact absurd z.symm e
   ·exact ih z
theorem LB.at {H:Hp} {b:ς} {bk:Bk} (h:LB H b bk) {n:Str} (hn:n∈bk.map (·.1)):∃ kvs q c,H b=some (.dK kvs)/\eX kvs (Bm n)=some (.ref q)/\aL bk n=some c/\dY H q c:=by
 obtain ⟨kvs,e,pw⟩:=h;obtain ⟨c0,g0⟩:=vR hn;rcases pw.get n with ⟨_,g⟩ | ⟨q,c,g1,g2,g3⟩
 ·rw [g0] at g; cases g
 ·exact ⟨kvs,q,c,e,g1,g2,g3⟩
theorem um:∀ {ns:List Str},Ko (ns.map KH)<=1
 | []=>by simp [Ko]
 | a::r=>by
  have:=um (ns:=r)
  simp only [Ho,Ko,Kq]; omega
theorem xP {ns:List Str} (h:∀ x∈ns,Bp x=true):Lj (.list (ns.map KH))=true:=by
 have:=um (ns:=ns)
 exact Bool.and_eq_true_iff.mpr ⟨by simp only [Lz]; exact nA h,aX (by unfold Kq; omega)⟩
theorem wz {H:Hp} {Q:VK} {a b:ς} {ns:List Str} (ha:H a=some (.lst (ns.map V.str))) (hb:H b=some (.lst [])) (o:∀ x∈ns,Bp x=true) (q:Q (.bl (!decide (ns=[]))) H):CO true (.ref a) (.ref b) H Q:=by
 refine ⟨_,_,kP ha,kP (ns:=[]) hb,xP o,xP (fun x hx=>by cases hx),?_⟩
 cases ns with
 | nil=>exact q
 | cons a r=>exact q
noncomputable def frV (bk:Bk):V->Bool
 | .str n=>(aL bk n).isNone
 | _=>false
theorem Cp {bk:Bk} {pl:List Str}:((pl.map V.str).filter (frV bk)).map id=(pl.filter fun n=>(aL bk n).isNone).map V.str:=by
 rw [List.map_id,List.filter_map]; rfl
def sp_aN:Sp:=fun vs H Q _=>∃ (b l:ς) (k:Int) (bk:Bk) (pl:List Str),vs=[.ref b,.ref l,.int k]/\LB H b bk/\bk.length<=900/\qE bk/\H l=some (.lst (pl.map V.str))/\pl.length<=100/\qH pl /\
 (∀ H',ai H H'->Q .non H')/\(∀ v n o1 o2 wy H',ai H H'->mh H' v (.sew n o1 o2 wy)->zy (.sew n o1 o2 wy)->DdN (.sew n o1 o2 wy)->Q (.ref v) H')
theorem ok_aN (T:Txt K mg t):aR P w K mg base CX0 3 t.f_aN t.d_aN ["_law_book","_law_pool","_law_some"] sp_aN:=by
 refine T.F_aN.ok sc_aN (by walk_at "l") (fun _ _ _ s H vs Q E hr h=>?_)
 ·obtain ⟨b,l,k,bk,pl,rfl,hb,lb,ok,hl,lp,po,zn,zs⟩:=h;refine aF (rM (i:=3) sc_aN.nd rfl (IQ rfl) (N:=["_law_name","_law_book"]) (cap:=[none,some 0]) rfl ⟨rfl,rfl,rfl,rfl,rfl,rfl⟩ (dh (pv 1)) (fun _ _ _=>(aY (i:=0) (show (["_law_name","_law_book"]:List Str).Nodup by decide +kernel) rfl (IQ rfl))) (fun _ _ _=>(CM (iK (gH (cY hr) (pv 0) (pv 1))))) (fun _ _ _=>(pv 0)) (by rfl)) fun _ _=>aF (fG Iv rfl (dh (aW (jn rfl) rfl T.no_list (by rfl) (aa (pv 0) ae))) (aY (i:=4) sc_aN.nd rfl (IQ rfl)) (aj (fG Iv rfl (dh (aW (jn rfl) rfl T.no_list (by rfl) (aa (pv 0) ae))) (aY (i:=5) sc_aN.nd rfl (IQ rfl)) (aj (fG Iv rfl (EN (bh (aa ao (aa ao ae)))) (aY (i:=6) sc_aN.nd rfl (IQ rfl)) (aH (aI 7 sc_aN.nd (aw (au K rfl) (aD (ok_bk T) (rmo hr) rfl T.mg_bk T.F_bk.kp T.b_bk .nil aV (aa (gY (cY hr) (pv 0) (pv 4) (fun _ _=>rfl)) (aa (gY (cY hr) (pv 0) (pv 5) (fun _ _=>rfl)) (aa (pv 6) ae)))) ag)) (aj (aK (PW.pt (fJ (aN (Az hr.units) (pv 3) (bO ae)) (fJ (aN bD (ay bB (pv 2) ag) ag) (fi (aN bD (pv 7) ao))))) (aj (az (bh (aa ao (aa (aw (aG K rfl) (pv 3) ag) (aa (pv 4) (aa (pv 5) (aa (pv 6) ae)))))))) aB)))))))) fun _ _=>cH (az eU) fun _ _=>?_;left;have po':∀ x∈pl.filter (fun n=>(aL bk n).isNone),Bp x=true/\x.cps.size<=4000:=fun x hx=>po x (Lx.mp hx).1;obtain ⟨kvs,eb,pw⟩:=id hb;refine ⟨⟨_,SqL.of hl⟩,fun fl nfl=>?_⟩;refine vK (K:=K) id (frV bk) (SqL.of hl) (by rw [ξ]; omega) nfl (fun x o H' Q' hx s1 qq=>?_) (fun x o H' Q' hx _ s1 qq=>?_) (fun H1 s1 e1=>?_)
  ·obtain ⟨n,hn,rfl⟩:=Hv.mp hx;apply ⟨b,_,rfl,dP.k (k:=Bm n) (s1 _ _ eb),?_⟩;rcases pw.get n with ⟨g1,g2⟩ | ⟨q1,c1,g1,g2,h1⟩
   ·rw [g1,JO];refine ⟨_,rfl,?_⟩;have:=qq _ (ai.refl _)
    rw [show frV bk (.str n)=(aL bk n).isNone from rfl,g2] at this;exact this
   ·rw [g1,JC];refine ⟨_,rfl,?_⟩;have:=qq _ (ai.refl _)
    rw [show frV bk (.str n)=(aL bk n).isNone from rfl,g2] at this;exact this
  ·left;exact qq _ (ai.refl _)
  rw [Cp] at e1;generalize pl.filter (fun n=>(aL bk n).isNone)=fr at e1 po';apply ⟨b,_,rfl,s1 _ _ eb,fun l1 n1=>?_⟩;rw [pw.keys];have s2:=ai.new (o:=HO.lst ((bk.map (·.1)).map V.str)) n1;have e2:=af (H:=H1) (a:=l1) (o:=HO.lst ((bk.map (·.1)).map V.str));generalize upd H1 l1 (HO.lst ((bk.map (·.1)).map V.str))=H2 at s2 e2 ⊢;have s12:=s2;have s2:=s1.trans s2;have lm:((bk.map (·.1)).map V.str).length<=1000:=by rw [ξ,ξ]; omega
  have memk:∀ {i:Nat} {x:V},((bk.map (·.1)).map V.str)[i]?=some x->∃ n,x=.str n/\n∈bk.map (·.1):=fun {i x} h=>by
   obtain ⟨n,hn,rfl⟩:=Hv.mp (H_ h);exact ⟨n,rfl,hn⟩
  refine ⟨_,rfl,⟨_,SqL.of e2⟩,?_⟩;refine gD (K:=K) (a:=l1) (xs:=(bk.map (·.1)).map V.str) (fun _ σ' H'=>∃ (o4 o5 o6 o7:Option V),σ'=[some (.ref b),some (.ref l),some (.int k),some (.ref fl),o4,o5,o6,o7]/\ai H2 H') ⟨none,none,none,none,rfl,ai.refl _⟩ (fun i σ' H' _ ⟨_,_,_,_,_,z⟩=>SqL.of (z _ _ e2)) ?_ ?_
  ·rintro i x σ' H3 hx ⟨o4,o5,o6,o7,rfl,s3⟩;obtain ⟨m1,rfl,hm1⟩:=memk hx;apply ⟨b,_,rfl,s3 _ _ (s2 _ _ eb),fun l2 n2=>?_⟩;rw [pw.keys];have s4:=ai.new (o:=HO.lst ((bk.map (·.1)).map V.str)) n2;have e4:=af (H:=H3) (a:=l2) (o:=HO.lst ((bk.map (·.1)).map V.str));generalize upd H3 l2 (HO.lst ((bk.map (·.1)).map V.str))=H4 at s4 e4 ⊢;have s4:=s3.trans s4;refine ⟨_,rfl,⟨_,SqL.of e4⟩,?_⟩;refine gD (K:=K) (a:=l2) (xs:=(bk.map (·.1)).map V.str) (fun _ σ' H'=>∃ (o5 o6 o7:Option V),σ'=[some (.ref b),some (.ref l),some (.int k),some (.ref fl),some (.str m1),o5,o6,o7]/\ai H4 H') ⟨o5,o6,o7,rfl,ai.refl _⟩ (fun i σ' H' _ ⟨_,_,_,_,z⟩=>SqL.of (z _ _ e4)) ?_ ?_
   ·rintro i2 x2 σ' H5 hx2 ⟨o5,o6,o7,rfl,s5⟩;obtain ⟨m2,rfl,hm2⟩:=memk hx2;apply nwT fun wt H6 swt nwt ewt=>?_;apply ⟨⟨_,SqT.of ewt⟩,?_⟩;have s6:=s5.trans swt;refine Aa (K:=K) (a:=wt) (xs:=[V.str "col",V.str "row"]) (fun _ σ' H'=>∃ (o6 o7:Option V),σ'=[some (.ref b),some (.ref l),some (.int k),some (.ref fl),some (.str m1),some (.str m2),o6,o7]/\ai H6 H') ⟨o6,o7,rfl,ai.refl _⟩ (fun i σ' H' _ ⟨_,_,_,z⟩=>SqT.of (z _ _ ewt)) ?_ ?_
    ·rintro i3 x3 σ' H7 hx3 ⟨o6,o7,rfl,s7⟩;obtain ⟨wy,rfl,ow⟩:∃ wy,x3=.str wy/\Bp wy=true:=by
      match i3,hx3 with
      | 0,e=>cases e; exact ⟨_,rfl,by decide +kernel⟩
      | 1,e=>cases e; exact ⟨_,rfl,by decide +kernel⟩
      | i+2,e=>cases e
     have sa:=s2.trans (s4.trans (s6.trans s7));obtain ⟨kv1,q1,c1,f1,g1,h1,p1⟩:=(hb.mono sa).at hm1;obtain ⟨kv2,q2,c2,f2,g2,h2,p2⟩:=(hb.mono sa).at hm2;apply ⟨b,.ref q1,rfl,by rw [<- g1]; exact dP.k (k:=Bm m1) f1,?_⟩;apply ⟨b,.ref q2,rfl,by rw [<- g2]; exact dP.k (k:=Bm m2) f2,?_⟩;apply ⟨q1,q2,wy,c1,c2,rfl,p1,p2,ok.get h1,ok.get h2,ow,fun tp v H8 s8 et _=>?_⟩;apply aq (SqT.of et) (cK (j:=0) rfl) ?_;left;have goon:∀ {H':Hp},ai H8 H'->∃ (o6 o7:Option V),([some (.ref b),some (.ref l),some (.int k),some (.ref fl),some (.str m1),some (.str m2),some (.str wy),some (.str (unW c1 c2 wy))]:L2.St)=[some (.ref b),some (.ref l),some (.int k),some (.ref fl),some (.str m1),some (.str m2),o6,o7]/\ai H6 H':=fun z=>⟨_,_,rfl,s7.trans (s8.trans z)⟩
     refine nwL fun em H9 sem nem eem=>?_
     have s9:ai H1 H9:=by
      refine ai.trans ?_ (s4.trans (s6.trans (s7.trans (s8.trans sem))));exact s12
     refine wz (s9 _ _ e1) eem (fun x hx=>(po' x hx).1) ?_;refine ⟨_,rfl,?_⟩
     cases fr with
     | nil =>
      rw [aX rfl];left;exact goon sem
     | cons f0 fr =>
      rw [bI (fun z=>nomatch z)];apply bV (by decide) ?_;apply fT (fun _=>?_) (fun _=>?_)
      rotate_left
      ·left;exact goon sem
      apply fT (fun _=>?_) (fun _=>?_)
      rotate_left
      ·left;exact goon sem
      apply aS (SqL.of (s9 _ _ e1)) (cK (j:=0) rfl) ?_;apply nwT fun dt HA sdt ndt edt=>?_;have of0:=po' f0 Θ;exact zs dt f0 m1 m2 wy HA (s1.trans (s9.trans sdt)) edt ⟨of0.2,ow⟩ of0.1
    ·rintro σ' H' ⟨o6,o7,rfl,z⟩;exact ⟨_,_,_,rfl,s6.trans z⟩
   ·rintro σ' H' ⟨o5,o6,o7,rfl,z⟩;exact ⟨_,_,_,_,rfl,s4.trans z⟩
  ·rintro σ' H' ⟨o4,o5,o6,o7,rfl,z⟩;left;exact zn _ (s2.trans z)
def sp_aV:Sp:=fun vs H Q _=>∃ (q b l:ς) (zs:List Int) (bk:Bk) (pl:List Str),vs=[.ref q,.ref b,.ref l]/\H q=some (.lst (zs.map V.int))/\10<=zs.length/\LB H b bk/\bk.length<=900/\qE bk/\mR bk/\H l=some (.lst (pl.map V.str))/\0<pl.length/\pl.length<=100/\qH pl /\
 ∀ v dd H',ai H H'->mh H' v dd->zy dd->DdN dd->Q (.ref v) H'
theorem ok_aV (T:Txt K mg t):aR P w K mg base CX0 4 t.f_aV t.d_aV ["_law_some","_law_book","_law_pool"] sp_aV:=by
 refine T.F_aV.ok sc_aV (by walk_at "l") (fun _ _ _ s H vs Q E hr h=>?_)
 ·obtain ⟨q,b,l,zs,bk,pl,rfl,hq,lz,hb,lb,ob,nb,hl,p0,p1,po,z⟩:=h;refine aF (aI 3 sc_aV.nd (aD (ok_aC T) (rmo hr) rfl T.mg_aC T.F_aC.kp T.b_aC .nil aV (aa (pv 0) (aa (pv 1) (aa (pv 2) ae))))) fun _ _=>aF (aI 4 sc_aV.nd (aD (ok_aN T) (rmo hr) rfl T.mg_aN T.F_aN.kp T.b_aN .nil aV (aa (pv 1) (aa (pv 2) (aa (aw (aG K rfl) (pv 0) ag) ae))))) fun _ _=>aF (aK (PW.pt (fJ (aN bD (aw (au K rfl) (pv 3) ag) ao) (fi (aN CC (pv 4) eU)))) (aj (az (pv 4))) aB) fun _ _=>cH (az (pv 3)) fun _ _=>?_;apply ⟨q,b,l,zs,bk,pl,rfl,hq,lz,hb,lb,nb,hl,p0,p1,po,fun v dd H1 s1 hd od nd=>?_⟩;apply aS (SqL.of (s1 _ _ hq)) (cN (i:=9) (by decide) (by omega)) ?_;left;obtain ⟨nm,dJ,e1⟩:∃ nm dJ,H1 v=some (.tup (.str nm::dJ)):=by
   cases dd with
   | lay n c=>obtain ⟨q,h1,_⟩:=hd; exact ⟨_,_,h1⟩
   | _=>exact ⟨_,_,hd⟩
  refine ⟨b,l,_,bk,pl,rfl,hb.mono s1,lb,ob,s1 _ _ hl,p1,po,fun H2 s2=>?_,fun v2 n o1 o2 wy H2 s2 hd2 od2 nd2=>?_⟩
  ·apply aq (SqT.of (s2 _ _ e1)) (cK (j:=0) rfl) ?_;apply fT (fun _=>?_) (fun _=>?_)
   ·apply ⟨rfl,_,rfl,?_⟩;rw [aX rfl];left;exact z v dd H2 (s1.trans s2) (hd.mono s2) od nd
   ·left;exact z v dd H2 (s1.trans s2) (hd.mono s2) od nd
  ·apply aq (SqT.of (s2 _ _ e1)) (cK (j:=0) rfl) ?_;apply fT (fun _=>?_) (fun _=>?_)
   ·apply ⟨rfl,_,rfl,?_⟩;rw [bI (fun z=>nomatch z)];left;exact z v2 _ H2 (s1.trans s2) hd2 od2 nd2
   ·left;exact z v dd H2 (s1.trans s2) (hd.mono s2) od nd
noncomputable def msk (S:List ς) (H:Hp):Hp:=fun a=>if a∈S then none else H a
theorem uL {S:List ς} {H:Hp}:ai (msk S H) H:=fun a o e=>by
 unfold msk at e
 split at e
 ·cases e
 ·exact e
theorem vY {S:List ς} {H:Hp} {a:ς} {o:HO} (e:H a=some o) (n:a∉S):msk S H a=some o:=by unfold msk; rw [if_neg n]; exact e
theorem jP {S:List ς} {H:Hp} {a:ς} (n:a∈S):msk S H a=none:=by unfold msk; rw [if_pos n]
theorem jf {S:List ς} {B H H':Hp} (s:ai B H) (m:bX S H H') (n:∀ x∈S,B x=none):ai B H':=fun a o e=>m a o (s a o e) fun z=>by rw [n a z] at e; cases e
theorem oq {S:List ς} {B H:Hp} (s:ai B H) (n:∀ x∈S,B x=none):ai B (msk S H):=fun a o e=>vY (s a o e) fun z=>by rw [n a z] at e; cases e
theorem xw {H:Hp} {p la:ς} {o:HO}:ai (msk [p,la] H) (upd H la o):=fun a u e=>by
 by_cases z:a=la
 ·rw [z,jP (by simp)] at e; cases e
 ·rw [aE z]; exact uL a u e
section
variable {H:Hp} {p la:ς} {op:HO} {φ:IC->Prop}
def Off (o op:HO):Prop:=o≠op/\∀ φ,o≠.ext φ
theorem yE {a:ς} {o:HO} (e:H a=some o) (hp:H p=some op) (hl:H la=some (.ext φ)) (n:Off o op):msk [p,la] H a=some o:=vY e fun z=>by
 symm at z;rcases z with rfl | rfl
 ·rw [hp] at e; cases e; exact n.1 rfl
 ·rw [hl] at e; cases e; exact n.2 _ rfl
variable {CH dx:ς} {fs:List (Str×V)}
theorem F9 {xs:List V}:Off (.lst xs) (.ins CH dx fs):=⟨(fun z=>nomatch z),fun _ z=>nomatch z⟩
theorem EC {xs:List V}:Off (.tup xs) (.ins CH dx fs):=⟨(fun z=>nomatch z),fun _ z=>nomatch z⟩
theorem G8 {xs:List (Key×V)}:Off (.dK xs) (.ins CH dx fs):=⟨(fun z=>nomatch z),fun _ z=>nomatch z⟩
theorem dY.msk {q:ς} {c:Clo} (h:dY H q c) (hp:H p=some (.ins CH dx fs)) (hl:H la=some (.ext φ)):dY (msk [p,la] H) q c:=by
 obtain ⟨a,b,h1,h2,h3⟩:=h;exact ⟨a,b,yE h1 hp hl EC,yE h2 hp hl F9,yE h3 hp hl F9⟩
theorem LB.msk {b:ς} {bk:Bk} (h:LB H b bk) (hp:H p=some (.ins CH dx fs)) (hl:H la=some (.ext φ)):LB (msk [p,la] H) b bk:=by
 obtain ⟨kvs,e,pw⟩:=h;exact ⟨kvs,yE e hp hl G8,Paired.mapP pw fun _ _ ⟨z,q,e,r⟩=>⟨z,q,e,r.msk hp hl⟩⟩
theorem mh.msk {v:ς} {dd:Dd} (h:mh H v dd) (hp:H p=some (.ins CH dx fs)) (hl:H la=some (.ext φ)):mh (msk [p,la] H) v dd:=by
 cases dd with
 | lay n c=>obtain ⟨q,h1,h2⟩:=h; exact ⟨q,yE h1 hp hl EC,h2.msk hp hl⟩
 | _=>exact yE h hp hl EC
end
theorem Cv {bk:Bk} {n:Str} {c:Clo} {nc:Str×Clo} (h:nc∈bG bk n c):nc.1=n\/∃ x∈bk,x.1=nc.1:=by
 unfold bG at h
 split at h
 ·obtain ⟨x,hx,rfl⟩:=Hv.mp h
  split
  ·exact .inr ⟨x,hx,rfl⟩
  ·exact .inr ⟨x,hx,rfl⟩
 ·rcases Hj.mp h with h | h
  ·exact .inr ⟨nc,h,rfl⟩
  ·rw [HL.mp h]; exact .inl rfl
theorem mR.put {bk:Bk} (h:mR bk) {n:Str} {c:Clo} (hn:Bp n=true):mR (bG bk n c):=fun nc hc=>by
 rcases Cv hc with e | ⟨x,hx,e⟩
 ·rw [e]; exact hn
 ·rw [<- e]; exact h x hx
theorem v8 {bk:Bk} (h:mR bk) {n:Str} (hn:Bp n=true) (f:Clo->Str×Clo):mR (dH bk n f).2/\(dH bk n f).2.length<=bk.length+2:=by
 unfold dH
 split
 ·exact ⟨h,C_ _ _⟩
 ·exact ⟨h.put hn,BA c9 (by omega)⟩
theorem Cw {bk:Bk} (h:mR bk):∀ {dd:Dd},DdN dd->mR (bp bk dd).2/\(bp bk dd).2.length<=bk.length+2
 | .lay n c,d=>⟨h.put d,BA c9 (by omega)⟩
 | .drop n,d=>by
  simp only [bp]
  split
  ·exact ⟨fun nc hc=>h nc (Lx.mp hc).1,BA (L5 _ _) (C_ _ _)⟩
  ·exact ⟨h,C_ _ _⟩
 | .turn n wy k,d=>v8 h d _
 | .cut n wy k,d=>v8 h d _
 | .put n wy k b,d=>v8 h d _
 | .sew n o1 o2 wy,d=>by
  simp only [bp]
  split
  ·split
   ·exact ⟨h.put d,BA c9 (by omega)⟩
   ·exact ⟨h,C_ _ _⟩
  ·exact ⟨h,C_ _ _⟩
 | .part n wy k o,d=>by
  simp only [bp]
  split
  ·exact ⟨h,C_ _ _⟩
  ·split
   ·split
    ·exact ⟨(h.put d.1).put d.2,BA c9 (Nat.add_le_add_right c9 1)⟩
    ·exact ⟨h,C_ _ _⟩
   ·exact ⟨h,C_ _ _⟩
theorem dF.bkOk {C CH:ς} {H:Hp} {p la lb:ς} {past ahead:List Bk} {now:Bk} (h:dF C CH H p la lb past now ahead):qE now:=by
 obtain ⟨dx,fs,d,-,-,kvs,-,pw⟩:=h.ob;clear h
 induction pw with
 | nil=>intro nc hn; cases hn
 | cons r _ ih =>
  intro nc hn;rcases Ξ.mp hn with rfl | hn
  ·obtain ⟨_,x,_,_,z⟩:=r; exact z
  ·exact ih nc hn
noncomputable abbrev kys (bk:Bk):List Str:=bk.map (·.1)
def KOk (ks:List Str):Prop:=(∀ n∈ks,bR n=true)/\ks.Nodup
theorem nB {bk:Bk} {n:Str} (h:cO bk n=""):bR n=true/\aL bk n=none:=by
 unfold cO at h
 split at h
 ·next e =>
  refine ⟨e,?_⟩
  split at h
  ·exact absurd h (by decide +kernel)
  ·next q=>cases g:aL bk n with
   | none=>rfl
   | some c=>rw [g] at q; exact absurd rfl q
 ·exact absurd h (by decide +kernel)
theorem kB {bk:Bk} {n:Str}:aL bk n=none↔n∉kys bk:=by
 unfold aL;rw [Option.map_eq_none_iff,List.find?_eq_none];constructor
 ·intro h hm;obtain ⟨nc,hc,e⟩:=Hv.mp hm;exact h nc hc (aX e)
 ·intro h nc hc e;exact h (Hv.mpr ⟨nc,hc,of_decide_eq_true e⟩)
theorem xr (bk:Bk) (n:Str) (c:Clo):kys (bG bk n c)=if n∈kys bk then kys bk else kys bk++[n]:=by
 have e:(bk.any fun nc=>decide (nc.1=n))=true↔n∈kys bk:=by
  rw [List.any_eq_true];constructor
  ·rintro ⟨nc,h1,h2⟩; exact Hv.mpr ⟨nc,h1,of_decide_eq_true h2⟩
  ·intro h;obtain ⟨nc,h1,h2⟩:=Hv.mp h;exact ⟨nc,h1,aX h2⟩
 unfold bG;by_cases h:n∈kys bk
 ·rw [if_pos (e.mpr h),if_pos h]
  show Jp _ (Jp _ bk)=_
  rw [IV];refine J_ fun nc _=>?_
  show (if nc.1=n then (nc.1,c) else nc).1=nc.1
  split<;>rfl
 ·rw [if_neg fun z=>h (e.mp z),if_neg h]
  show Jp _ (bk++_)=_
  rw [HN]; rfl
theorem fX (bk:Bk):(kys bk).length=bk.length:=ξ _
theorem KOk.put {bk:Bk} (g:KOk (kys bk)) {n:Str} (c:Clo) (h:cO bk n=""):KOk (kys (bG bk n c)):=by
 obtain ⟨h1,h2⟩:=nB h;have h2:=kB.mp h2;rw [xr,if_neg h2];refine ⟨fun x hx=>?_,?_⟩
 ·rcases Hj.mp hx with z | z
  ·exact g.1 x z
  ·rw [HL.mp z]; exact h1
 ·rw [List.nodup_append];refine ⟨g.2,Jo.mpr ⟨(fun z=>by cases z),Nf⟩,fun a ha b hb e=>?_⟩;rw [HL.mp hb] at e;exact h2 (e ▸ ha)
theorem uF {bk:Bk} {n:Str} {c0:Clo} (c:Clo) (h:aL bk n=some c0):kys (bG bk n c)=kys bk:=by
 rw [xr,if_pos];by_cases m:n∈kys bk
 ·exact m
 ·rw [kB.mpr m] at h; cases h
theorem rH {bk:Bk} {n:Str} {f:Clo->Str×Clo} (h:(dH bk n f).1=""):kys (dH bk n f).2=kys bk:=by
 unfold dH at h ⊢
 cases g:aL bk n with
 | none=>rfl
 | some c=>exact uF _ g
theorem Aq {bk:Bk}:∀ {dd:Dd},(bp bk dd).1=""->KOk (kys bk)->KOk (kys (bp bk dd).2)/\(bp bk dd).2.length<=bk.length+1
 | .lay n c,h,g=>⟨g.put c h,c9⟩
 | .drop n,h,g=>by
  simp only [bp] at h ⊢
  split
  ·have sb:(fz bk n).Sublist bk:=List.filter_sublist;exact ⟨⟨fun x hx=>g.1 x ((sb.map _).subset hx),(sb.map _).nodup g.2⟩,BA sb.length_le (C_ _ _)⟩
  ·exact ⟨g,C_ _ _⟩
 | .turn n wy k,h,g=>by have e:=rH h; rw [show bp bk (.turn n wy k)=dH bk n _ from rfl,e]; exact ⟨g,by have:=congrArg NG e; rw [fX,fX] at this; omega⟩
 | .cut n wy k,h,g=>by have e:=rH h; rw [show bp bk (.cut n wy k)=dH bk n _ from rfl,e]; exact ⟨g,by have:=congrArg NG e; rw [fX,fX] at this; omega⟩
 | .put n wy k b,h,g=>by have e:=rH h; rw [show bp bk (.put n wy k b)=dH bk n _ from rfl,e]; exact ⟨g,by have:=congrArg NG e; rw [fX,fX] at this; omega⟩
 | .sew n o1 o2 wy,h,g=>by
  simp only [bp] at h ⊢
  split
  ·next hn =>
   split
   ·exact ⟨g.put _ hn,c9⟩
   ·exact ⟨g,C_ _ _⟩
  ·exact ⟨g,C_ _ _⟩
 | .part n wy k o,h,g=>by
  simp only [bp] at h ⊢
  split
  ·exact ⟨g,C_ _ _⟩
  ·next c hc =>
   split
   ·next ho =>
    split
    ·have e:=uF (cf c wy ((aM wy c).take k.toNat)) hc
     have ho':cO (bG bk n (cf c wy ((aM wy c).take k.toNat))) o="":=by
      obtain ⟨h1,h2⟩:=nB ho;have h3:=kB.mpr (by rw [e]; exact kB.mp h2:o∉kys (bG bk n (cf c wy ((aM wy c).take k.toNat))));unfold cO;rw [if_pos h1,h3,if_neg (by decide)]
     have el:(bG bk n (cf c wy ((aM wy c).take k.toNat))).length=bk.length:=by rw [<- fX,e,fX]
     exact ⟨KOk.put (by rw [e]; exact g) _ ho',by have:=c9 (bk:=bG bk n (cf c wy ((aM wy c).take k.toNat))) (n:=o) (c:=oC c wy k.toNat); rw [el] at this; exact this⟩
    ·exact ⟨g,C_ _ _⟩
   ·exact ⟨g,C_ _ _⟩
def sp_aw (C CH:ς):Sp:=fun vs H Q _=>∃ (a:ς) (zs:List Int),vs=[.ref a]/\H a=some (.lst (zs.map V.int))/\150<=zs.length /\
 ∀ tp p b la lb past bk H',ai H H'->H' tp=some (.tup [.ref p,.ref b])->dF C CH H' p la lb past bk []->KOk (kys bk)->bk.length<=12->Q (.ref tp) H'
theorem ok_aw (T:Txt K mg t):aR P w K mg base CX0 13 t.f_aw t.d_aw ["_law_some"] (sp_aw t.a_ai t.a_ak):=by
 refine T.F_aw.ok sc_aw (by walk_at "l") (fun _ _ _ s H vs Q E hr h=>?_)
 ·obtain ⟨ls,zs,rfl,es,lz,z⟩:=h;refine aF (aI 1 sc_aw.nd (aD (ok_be T) (rmo hr) rfl T.mg_be T.F_be.kp T.b_be .nil aV (aa (aU (bE K rfl) (pv 0) (bz ag) bu) (aa ag ae)))) fun _ _=>aF (aI 2 sc_aw.nd (uV T.mk_ak (ok_aS T) (rmo hr) rfl T.mg_ak T.b_aS .nil aV )) fun _ _=>aF (aI 3 sc_aw.nd uT) fun _ _=>aF (fG Iv rfl (ft rfl T.no_bz (aa (ay bB (aw (aG K rfl) (pv 0) ag) ag) ae)) (aY (i:=4) sc_aw.nd rfl (IQ rfl)) (aH (uX (aI 5 sc_aw.nd (aD (ok_aV T) (rmo hr) rfl T.mg_aV T.F_aV.kp T.b_aV .nil aV (aa (aU (bE K rfl) (pv 0) (bz (ay bf ag (ay jQ ag (pv 4)))) bu) (aa (pv 3) (aa (pv 1) ae)))))) (aH (uX (nR (aD (ok_aM T) (rmo hr) rfl T.mg_aM T.F_aM.kp T.b_aM .nil aV (aa (pv 3) (aa (pv 5) ae))) (ju (n:=2) K rfl rfl (cZ (aY (i:=6) sc_aw.nd rfl (IQ rfl)) (cZ (aY (i:=7) sc_aw.nd rfl (IQ rfl)) jv))))) (aj (dw (aK (PW.pt (fJ (aN (EG hr.units) (aD (ED T) (rmo hr) rfl T.mg_Ldo T.F_Ldo.kp T.b_Ldo .nil aV (aa (pv 2) (aa (pv 5) ae))) (bO ae)) (fi (aN bD (pv 6) ao)))) (aj (aI 3 sc_aw.nd (pv 7))) aB)))))) fun _ _=>cH (az (bh (aa (pv 2) (aa (pv 3) ae)))) fun _ _=>?_;apply ed es fun l2 H2 s2 _ e2=>?_;rw [show (some 1:Option Int)=some ((1:Nat):Int) from rfl,dq] at e2;apply ⟨l2,zs.drop 1,7,rfl,e2,by rw [IG]; omega,by omega,fun lp pl H6 s3 e6 lf wf=>?_⟩;have s6:=s2.trans s3;have po:qH pl:=fun x h=>⟨(wf x h).str,by have:=(wf x h).sz; omega⟩
  have lpl:0<pl.length/\pl.length<=100:=by omega
  clear e2 s2 s3 wf lf;left;intro p dx np ndx nex;have sI:ai H6 (upd (upd H6 dx (.own p)) p (.ins t.a_ak dx [])):=(ai.new ndx).later np;refine ⟨p,dx,rfl,af,fun la lb HD mD nla nlb ch=>⟨rfl,?_⟩⟩;have sD:ai H6 HD:=jf sI mD (fun x hx=>by rw [HL.mp hx]; exact np);have nla':H6 la=none:=sI.free nla;clear mD nlb nex sI nla ndx;left;intro b nb;have sb:=ai.new (o:=HO.dK []) nb;have eb:=af (H:=HD) (a:=b) (o:=HO.dK []);generalize upd HD b (HO.dK [])=H7 at sb eb ⊢;have ch:=ch.mono sb;have s7:=sD.trans sb;have es7:=s7 _ _ (s6 _ _ es);apply aS (SqL.of es7) (cN (i:=0) (by decide) (by omega)) ?_;apply bV (by decide) ?_;obtain ⟨m0,hm0,bm0⟩:∃ m:Nat,zs.getD (0:Int).toNat 0%13=(m:Int)/\m<13:=⟨(zs.getD (0:Int).toNat 0%13).toNat,by omega,by omega⟩
  left;rw [hm0];refine ⟨m0,rfl,by omega,by omega,?_⟩;rw [G_];have nS:∀ {B:Hp},B p=none->B la=none->∀ x∈[p,la],B x=none:=fun {B} h1 h2 x hx=>by
   symm at hx;rcases hx with rfl | rfl
   ·exact h1
   ·exact h2
  refine gQ (n:=m0) (fun i σ' H'=>∃ (o5 o6 o7 o8:Option V) (b lb:ς) (bk:Bk) (past:List Bk) (B:Hp),σ'=[some (.ref ls),some (.ref lp),some (.ref p),some (.ref b),o5,o6,o7,o8]/\ai H6 B/\ai B H'/\B p=none/\B la=none/\LB B b bk/\dF t.a_ai t.a_ak H' p la lb past bk []/\mR bk/\KOk (kys bk)/\past.length<=i/\bk.length<=i)
   ⟨none,none,none,none,b,lb,[],[],msk [p,la] H7,rfl,oq s7 (nS np nla'),uL,jP (by simp),jP (by simp),⟨[],?_,.nil⟩,ch,(fun nc hn=>by cases hn),⟨(fun _ h=>nomatch h),Nf⟩,Ω _,Ω _⟩ ?_ ?_
  ·obtain ⟨dx7,fs7,d7,f1,_⟩:=ch.ob;obtain ⟨ds7,f2,_⟩:=ch.pa;refine vY eb fun h=>?_;symm at h;exact h.elim (iD eb f1 fun z=>nomatch z) (iD eb f2 fun z=>nomatch z)
  ·rintro i σ' H1 hi ⟨o5,o6,o7,o8,b,lb,bk,past,B,rfl,s0B,sB,nBp,nBla,hb,ch,nm,ko,lpa,lbk⟩;clear s7 eb sb nb sD es7;have el:=s0B _ _ e6;have es:=s0B _ _ (s6 _ _ es);left;obtain ⟨dx1,fs1,d1,f1,f1c,_⟩:=ch.ob;obtain ⟨ds1,f2,_⟩:=ch.pa;refine u4 la _ f2 fun φ=>?_;have npl:p≠la:=iD f1 f2 fun z=>nomatch z
   have sF:ai B (upd H1 la (.ext φ)):=sB.later nBla;have fF:=af (H:=H1) (a:=la) (o:=HO.ext φ);have pF:upd H1 la (.ext φ) p=some (.ins t.a_ak dx1 fs1):=by rw [aE npl]; exact f1
   have bkF:∀ {H':Hp},ai (upd H1 la (.ext φ)) H'->ai H1 (upd H' la (.lst (ds1.map V.ref))):=mV f2;generalize upd H1 la (.ext φ)=HF at sF fF pF bkF ⊢;apply bV (.inl ⟨by omega,by omega⟩) ?_;apply ed (sF _ _ es) fun l2 H2 s2 _ e2=>?_;rw [show (some ((9:Int)+10*(0+(i:Nat))):Option Int)=some ((9+10*i:Nat):Int) by congr 1; omega,dq] at e2;apply ⟨l2,b,lp,zs.drop (9+10*i),bk,pl,rfl,e2,by rw [IG]; omega,hb.mono (sF.trans s2),by omega,ch.bkOk,nm,s2 _ _ (sF _ _ el),lpl.1,lpl.2,po,fun v dd H3 s3 hd od nd=>?_⟩;have s23:=s2.trans s3;apply ⟨s23 _ _ fF,?_⟩;have s14:=bkF s23;have sBB:=oq (sF.trans s23) (nS nBp nBla);have sB1:=xw (H:=H3) (p:=p) (la:=la) (o:=HO.lst (ds1.map V.ref));have hd:=hd.msk (s23 _ _ pF) (s23 _ _ fF);have nBp1:msk [p,la] H3 p=none:=jP (by simp);have nBla1:msk [p,la] H3 la=none:=jP (by simp);generalize upd H3 la (HO.lst (ds1.map V.ref))=H4 at s14 sB1 ⊢;generalize msk [p,la] H3=B1 at sBB sB1 hd nBp1 nBla1;have s0B:=s0B.trans sBB;have hb:=hb.mono sBB;have ch:=ch.mono s14;have f1:=s14 _ _ f1;have f2:=s14 _ _ f2;clear s14 s23 s3 s2 bkF pF fF sF sBB sB nBp nBla e2 es el;apply u4 la _ f2 fun φ=>?_;have sF:ai B1 (upd H4 la (.ext φ)):=sB1.later nBla1;have fF:=af (H:=H4) (a:=la) (o:=HO.ext φ);have pF:upd H4 la (.ext φ) p=some (.ins t.a_ak dx1 fs1):=by rw [aE npl]; exact f1
   have bkF:∀ {H':Hp},ai (upd H4 la (.ext φ)) H'->ai H4 (upd H' la (.lst (ds1.map V.ref))):=mV f2;generalize upd H4 la (.ext φ)=HG at sF fF pF bkF ⊢;apply ⟨b,v,bk,dd,rfl,hb.mono sF,by omega,ch.bkOk,hd.mono sF,od,fun tp f H5 s5 et hf=>?_⟩;apply gZ et rfl ?_;apply ⟨s5 _ _ fF,?_⟩;have s46:=bkF s5;have sBB:=oq (sF.trans s5) (nS nBp1 nBla1);have sB2:=xw (H:=H5) (p:=p) (la:=la) (o:=HO.lst (ds1.map V.ref));have hf:(bp bk dd).1=""->LB (msk [p,la] H5) f (bp bk dd).2:=fun e=>(hf e).msk (s5 _ _ pF) (s5 _ _ fF);have nBp2:msk [p,la] H5 p=none:=jP (by simp);have nBla2:msk [p,la] H5 la=none:=jP (by simp);generalize upd H5 la (HO.lst (ds1.map V.ref))=H6' at s46 sB2 ⊢;generalize msk [p,la] H5=B2 at sBB sB2 hf nBp2 nBla2;have s0B:=s0B.trans sBB;have hb:=hb.mono sBB;have hd:=hd.mono sBB;have ch:=ch.mono s46;have nk:=Cw nm nd;have kk:=fun h=>Aq (bk:=bk) (dd:=dd) h ko;have ob:=ch.bkOk;clear s46 s5 bkF pF fF sF sBB sB1 nBp1 nBla1 et f1 f2 f1c;generalize hw:(bp bk dd).1=wd at hf kk ⊢;apply dz (fun σ' H'=>∃ (b' lb':ς) (bk':Bk) (past':List Bk),σ'=[some (.ref ls),some (.ref lp),some (.ref p),some (.ref b'),some (.int (0+(i:Nat))),some (.ref v),some (.str wd),some (.ref f)]/\ai B2 H'/\LB B2 b' bk'/\dF t.a_ai t.a_ak H' p la lb' past' bk' []/\mR bk'/\KOk (kys bk')/\past'.length<=i+1/\bk'.length<=i+1) ?_ ?_
   ·apply ⟨p,la,lb,v,past,[],bk,dd,rfl,ch,by omega,by omega,ob,hd.mono sB2,od,fun hn l H9 s9 e9=>?_,fun hy l lb' H9 m9 n9 ch9 e9=>?_⟩
    ·rw [hw] at e9;apply nwL fun l0 HA sl0 nl0 el0=>?_;apply ⟨l,l0,_,rfl,rfl,sl0 _ _ e9,el0,?_⟩;rw [show (if false=true then _ else ([V.str wd]:List V).isEmpty)=false from rfl];left;exact ⟨b,lb,bk,past,rfl,sB2.trans (s9.trans sl0),hb,ch.mono (s9.trans sl0),nm,ko,by omega,by omega⟩
    ·rw [hw] at hy;apply nwL fun l0 HA sl0 nl0 el0=>?_;apply ⟨l,l0,_,rfl,rfl,sl0 _ _ e9,el0,?_⟩;rw [show (if false=true then _ else ([]:List V).isEmpty)=true from rfl];left;rw [aX hy];left;obtain ⟨k1,k2⟩:=kk hy;exact ⟨f,lb',_,past++[bk],rfl,(jf sB2 m9 (nS nBp2 nBla2)).trans sl0,hf hy,ch9.mono sl0,nk.1,k1,by rw [Av,HU]; omega,by omega⟩
   rintro σ' HA ⟨b',lb',bk',past',rfl,sA,hb',ch',nm',ko',lp',lk'⟩;exact ⟨_,_,_,_,b',lb',bk',past',B2,rfl,s0B,sA,nBp2,nBla2,hb',ch',nm',ko',lp',lk'⟩
  ·rintro σ' H1 ⟨o5,o6,o7,o8,b,lb,bk,past,B,rfl,s0B,sB,nBp,nBla,hb,ch,nm,ko,lpa,lbk⟩;apply nwT fun tp H2 stp ntp etp=>?_;exact z tp p b la lb past bk H2 (s6.trans (s0B.trans (sB.trans stp))) etp (ch.mono stp) ko (by omega)
end
section
def Tx (x:Str):Prop:=x.length<=4000/\∀ c∈x.cps.toList,c<128
theorem Tx.size {x:Str} (h:Tx x):x.cps.size<=4000:=h.1
theorem Tx.line {x:Str} (h:Tx x):x.length<=sizeLine:=BA h.1 (by decide)
theorem Tx.ok {x:Str} (h:Tx x):Bp x=true:=by
 unfold Bp;rw [Array.all_eq_true];intro i hi;have:=h.2 x.cps[i] (by rw [<- Array.getElem_toList]; exact Iq _)
 exact aX (by omega)
theorem Tx.word {x y p:Str} (h:Tx x) (hp:p∈Txt.split x y):Tx p:=⟨BA (lP hp) h.1,fun c hc=>h.2 c (jy hp c hc)⟩
noncomputable def jO (w y:Str):Bool:=!w.cps.toList.isEmpty&&w.cps.toList.all fun c=>decide (c∈y.cps.toList)
noncomputable def fy (w:Str):Option (List Int):=if w="-" then some [] else if jO w "01"=true then some (w.cps.toList.map fun (c:Nat)=>(c:Int) - 48) else none
noncomputable def lw (w:Str):Option (List Int):=match fy w with
 | some bs=>if bs.length<=39 then some bs else none
 | none=>none
noncomputable def clW (ws:List Str):Option (Int×List Int×List Int):=match ws with
 | [a,b,c]=>if a="0"\/a="1" then (match lw b,lw c with
  | some cs, some rs => some (if a = "0" then (0 : Int) else 1, cs, rs)
  | _, _ => none) else none
 | _=>none
noncomputable def rdW (x:Str):Option (Int×List Int×List Int):=clW (Txt.split x " ")
theorem Fu {c:Nat} (h:c∈("01":Str).cps.toList):c=48\/c=49:=by
 have e:("01":Str).cps.toList=[48,49]:=by decide +kernel
 rw [e] at h
 simpa using h
theorem jo {w:Str} (h:jO w "01"=true):∀ c∈w.cps.toList,c=48\/c=49:=fun c hc=>by
 unfold jO at h;rw [Hy,IW] at h;exact Fu (of_decide_eq_true (h.2 c hc))
theorem lg {w:Str} {bs:List Int} (h:fy w=some bs):(∀ z∈bs,z=0\/z=1)/\bs.length<=w.length:=by
 unfold fy at h;by_cases c:w="-"
 ·rw [if_pos c] at h; cases h; exact ⟨(fun z hz=>by cases hz),Hs _⟩
 ·rw [if_neg c] at h;by_cases d:jO w "01"=true
  ·rw [if_pos d] at h; cases h;refine ⟨fun z hz=>?_,by rw [ξ,HK]; exact Ω _⟩;obtain ⟨c,hc,rfl⟩:=Hv.mp hz;rcases jo d c hc with rfl | rfl
   ·exact .inl rfl
   ·exact .inr rfl
  ·rw [if_neg d] at h; cases h
theorem uw {c:Nat} (h:c=48\/c=49):NU (sgn c)=some ((c:Int) - 48):=by
 rcases h with rfl | rfl
 ·decide +kernel
 ·decide +kernel
end
section
variable {P:HS} {w:ID} {K:A_} {mg:Str->Option η} {base:IC} {t:Ad}
def B01 (l:List Int):Prop:=∀ z∈l,z=0\/z=1
noncomputable def dgs (bs:List Int):List Nat:=bs.map fun b=>b.toNat+48
noncomputable def wd (bs:List Int):Str:=if bs=[] then "-" else ⟨(dgs bs).toArray⟩
noncomputable def sh (s:Int):Str:=sgn (s.toNat+48)
noncomputable def txt (s:Int) (cs rs:List Int):Str:=JA " " [sh s,wd cs,wd rs]
theorem tN {s:Int} (h:s=0\/s=1):((toString s:String):Str)=sh s/\s.natAbs.log2<1920:=by
 rcases h with rfl | rfl<;>decide +kernel
theorem yy {bs:List Int} (h:B01 bs):Txt.join "" (bs.map fun b=>((toString b:String):Str))=⟨(dgs bs).toArray⟩:=by
 have e:(bs.map fun b=>((toString b:String):Str))=(dgs bs).map sgn:=by
  unfold dgs;rw [IV];exact J_ fun b hb=>(tN (h b hb)).1
 rw [e];exact wO (by rw [uD])
theorem uz {bs:List Int} (h:B01 bs) (hl:bs.length<=1000):OR "" (bs.map fun b=>((toString b:String):Str))=true:=by
 have e:(bs.map fun b=>((toString b:String):Str))=(dgs bs).map sgn:=by
  unfold dgs;rw [IV];exact J_ fun b hb=>(tN (h b hb)).1
 rw [e];exact nh (by unfold dgs; rw [ξ]; exact hl)
theorem tQ {bs:List Int} (n:Nat) (hl:bs.length<=n) (h1:1<=n):(wd bs).length<=n:=by
 unfold wd
 split
 ·exact h1
 ·show (dgs bs).toArray.size<=n
  unfold dgs;rw [HH,ξ]; exact hl
theorem yv {a:Str} {ts:List Str} (B:Nat) (hB:∀ y∈ts,y.length<=B) (h:ts.length*B+ts.length*a.length<=16777216):OR a ts=true:=by
 unfold OR;rw [StrLaws.joinFits hB h]; rfl
def sp_a6:Sp:=fun vs H Q _=>∃ (l:ς) (bs:List Int),vs=[.ref l]/\H l=some (.lst (bs.map V.int))/\B01 bs/\bs.length<=100/\∀ H',ai H H'->Q (.str (wd bs)) H'
theorem ok_a6 (T:Txt K mg t):aR P w K mg base CX0 1 t.f_a6 t.d_a6 ["bits"] sp_a6:=by
 refine T.F_a6.ok sc_a6 (by walk_at "l") (fun _ _ _ s H vs Q E hr h=>?_)
 ·obtain ⟨l,bs,rfl,el,b01,hl,k⟩:=h;refine ⟨_,(aH (aK (aN bD (av (bJ K rfl) rfl T.no_len (by rfl) (aa (pv 0) ae)) ag) (aj (az ao)) aB) (aj (az (cQ Hu Iu Ir fY ao (aa (cT (N:=["bit"]) (cap:=[none]) rfl ⟨rfl,rfl,rfl,rfl,rfl,rfl⟩ (dh (pv 0)) (fun _ _ _=>(aY (i:=0) (show (["bit"]:List Str).Nodup by decide +kernel) rfl (IQ rfl))) (fun _ _ _=>cD) (fun _ _ _=>(aW qO rfl T.no_str (by rfl) (aa (pv 0) ae)))) ae))))),?_⟩;apply bM el ?_;rw [ξ];left
  cases bs with
  | nil =>
   rw [aX (show (((([]:List Int).length:Nat):Int))=0 from rfl)];left;exact k _ (ai.refl _)
  | cons b bs =>
   rw [bI (show ¬ ((((b::bs).length:Nat):Int))=0 by rw [HM]; omega)];apply ⟨rfl,?_⟩;apply ⟨⟨_,SqL.of el⟩,fun l1 n1=>?_⟩;refine gN (fun v=>match v with | .int i=>.str ((toString i:String):Str) | _=>.non) (SqL.of el) (by rw [ξ]; omega) n1 (fun x o H' Q' hx s1 q=>?_) (fun H1 s1 e1=>?_)
   ·obtain ⟨i,hi,rfl⟩:=Hv.mp hx;left;exact ⟨i,rfl,(tN (b01 i hi)).2,q H' (ai.refl _)⟩
   ·left;have e1:H1 l1=some (.lst (((b::bs).map fun b=>((toString b:String):Str)).map V.str)):=by rw [e1,IV,IV]; rfl
    refine ⟨"",l1,_,rfl,rfl,e1,uz b01 (by omega),?_⟩;rw [yy b01];have:=k _ s1
    unfold wd at this;rw [if_neg (by simp)] at this;exact this
def sp_aT (C:ς):Sp:=fun vs H Q _=>∃ (p:ς) (s:Int) (cs rs:List Int),vs=[.ref p]/\aO C H p s cs rs/\(s=0\/s=1)/\bA cs/\bA rs/\∀ H',ai H H'->Q (.str (txt s cs rs)) H'
theorem ok_aT (T:Txt K mg t):aR P w K mg base CX0 2 t.f_aT t.d_aT ["cloth"] (sp_aT t.a_ai):=by
 refine T.F_aT.ok sc_aT (by walk_at "l") (fun _ _ _ s H vs Q E hr h=>?_)
 ·obtain ⟨p,s,cs,rs,rfl,hC,hs,bc,br,k⟩:=h;obtain ⟨dx,a,b,h1,h2,h3⟩:=id hC.ob;have lc:=bc.1;have lr:=br.1;refine aF (aI 1 sc_aT.nd (aT (pv 0) T.cl_ai T.m_ap (ok_ap T) (rmo hr) T.b_ap .nil aV)) fun _ _=>aF (aI 2 sc_aT.nd (aD (ok_a6 T) (rmo hr) rfl T.mg_a6 T.F_a6.kp T.b_a6 .nil aV (aa (aT (pv 0) T.cl_ai T.m_au (ok_au T) (rmo hr) T.b_au .nil aV) ae))) fun _ _=>aF (aI 3 sc_aT.nd (aD (ok_a6 T) (rmo hr) rfl T.mg_a6 T.F_a6.kp T.b_a6 .nil aV (aa (aT (pv 0) T.cl_ai T.m_ar (ok_ar T) (rmo hr) T.b_ar .nil aV) ae))) fun _ _=>cH (az (AF (PEs.cons (rL (pv 1)) (PEs.cons ao (PEs.cons (rL (pv 2)) (PEs.cons ao (PEs.cons (rL (pv 3)) PEs.nil))))) (by decide))) fun _ _=>?_;apply ax h1 (dj _ _ _ (by decide +kernel)) ?_;apply ⟨p,s,cs,rs,rfl,hC,?_⟩;apply ax h1 (dj _ _ _ (by decide +kernel)) ?_;apply ⟨p,s,cs,rs,rfl,hC,fun l1 n1=>?_⟩;have s1:=ai.new (o:=HO.lst (cs.map V.int)) n1;have e1:=af (H:=H) (a:=l1) (o:=HO.lst (cs.map V.int));generalize upd H l1 (HO.lst (cs.map V.int))=H1 at s1 e1 ⊢;apply ⟨l1,cs,rfl,e1,bc.2,by omega,fun H2 s2=>?_⟩;have s12:=s1.trans s2;apply ax (s12 _ _ h1) (dj _ _ _ (by decide +kernel)) ?_;apply ⟨p,s,cs,rs,rfl,hC.mono s12,fun l2 n2=>?_⟩;have s3:=ai.new (o:=HO.lst (rs.map V.int)) n2;have e3:=af (H:=H2) (a:=l2) (o:=HO.lst (rs.map V.int));generalize upd H2 l2 (HO.lst (rs.map V.int))=H3 at s3 e3 ⊢;apply ⟨l2,rs,rfl,e3,br.2,by omega,fun H4 s4=>?_⟩;left;have w1:=tQ (bs:=cs) 100 (by omega) (by decide);have w2:=tQ (bs:=rs) 100 (by omega) (by decide);have big:(100:Nat)<=sizeLine:=by decide
  refine A2 ?_;unfold pW;refine rO ?_;apply .inl ⟨s.toNat,by rcases hs with rfl | rfl<;>rfl,by rcases hs with rfl | rfl<;>decide,?_⟩;refine ⟨_,rfl,by rcases hs with rfl | rfl<;>decide +kernel,?_⟩;rw [show ((toString ((s.toNat:Nat):Int):String):Str)=sh s by rcases hs with rfl | rfl<;>decide +kernel];unfold pW;apply ⟨_,rfl,by decide +kernel,?_⟩;unfold pW;refine rO ?_;apply .inr ⟨_,rfl,BA w1 big,_,rfl,w1,?_⟩;unfold pW;apply ⟨_,rfl,by decide +kernel,?_⟩;unfold pW;refine rO ?_;apply .inr ⟨_,rfl,BA w2 big,_,rfl,w2,?_⟩;unfold pW
  have e:JT++sh s++" "++wd cs++" "++wd rs=txt s cs rs:=by
   refine wO ?_
   show _=(sh s++" "++(wd cs++" "++wd rs)).cps.toList
   simp only [qQ,Iw];rfl
  rw [e];exact k _ ((s12.trans s3).trans s4)
end
section
theorem xu {x:Str} {bs:List Int} (h:lw x=some bs):bA bs:=by
 unfold lw at h
 cases hb:fy x with
 | none=>rw [hb] at h; cases h
 | some cs =>
  rw [hb] at h;dsimp only at h;by_cases c:cs.length<=39
  ·rw [if_pos c] at h; cases h; exact ⟨c,(lg hb).1⟩
  ·rw [if_neg c] at h; cases h
theorem vB {α:Type} {l:List α} (h:l.length=3):∃ a b c,l=[a,b,c]:=by
 match l,h with
 | [a,b,c],_=>exact ⟨a,b,c,rfl⟩
theorem q0 {a:Str} (h:a="0"\/a="1"):NU a=some (if a="0" then 0 else 1)/\a.length<=640:=by
 rcases h with rfl | rfl
 ·decide +kernel
 ·decide +kernel
theorem FF {w:Str} (h:∀ c∈w.cps.toList,c=48\/c=49) (hne:¬ w.cps.toList=[]):wd (w.cps.toList.map fun (c:Nat)=>(c:Int) - 48)=w:=by
 unfold wd;rw [if_neg (fun z=>hne (Od.mp z))];refine wO ?_;rw [Ky];unfold dgs;rw [IV];exact (J_ fun c hc=>by
  show (((c:Nat):Int) - 48).toNat+48=c
  rcases h c hc with rfl | rfl<;>rfl).trans (List.map_id _)
theorem xt {w:Str} {bs:List Int} (h:lw w=some bs):wd bs=w:=by
 have hb:fy w=some bs:=by
  unfold lw at h
  cases hb:fy w with
  | none => rw [hb] at h; cases h
  | some cs =>
   rw [hb] at h;dsimp only at h
   split at h
   ·cases h; rfl
   ·cases h
 unfold fy at hb;by_cases c:w="-"
 ·rw [if_pos c] at hb
  cases hb;rw [c]; rfl
 ·rw [if_neg c] at hb;by_cases d:jO w "01"=true
  ·rw [if_pos d] at hb
   cases hb;refine FF (jo d) fun z=>?_;unfold jO at d;rw [z] at d
   cases d
  ·rw [if_neg d] at hb; cases hb
theorem zP {ws:List Str} {c:Clo} (h:clW ws=some c):ws=[sh c.1,wd c.2.1,wd c.2.2]/\(c.1=0\/c.1=1)/\bA c.2.1/\bA c.2.2:=by
 unfold clW at h
 split at h
 ·next a b d =>
  by_cases ca:a="0"\/a="1"
  ·rw [if_pos ca] at h
   split at h
   ·next cs rs e1 e2 =>
    cases h;dsimp only;rw [xt e1,xt e2];refine ⟨?_,?_,xu e1,xu e2⟩
    ·congr 1
     rcases ca with rfl | rfl
     ·decide +kernel
     ·decide +kernel
    ·split<;>simp
   ·cases h
  ·rw [if_neg ca] at h; cases h
 ·cases h
noncomputable def fM (nc:Str×Clo):Str:=JA " " [nc.1,sh nc.2.1,wd nc.2.2.1,wd nc.2.2.2]
noncomputable def chT (bk:Bk):Str:=Txt.join "\n" (bk.map fM)
noncomputable def lZ (r:Str):Option (Str×Clo):=match Txt.split r " " with
 | n::ws=>(clW ws).map fun c=>(n,c)
 | []=>none
theorem fL {r:Str} {nc:Str×Clo} (h:lZ r=some nc):fM nc=r/\dX nc.2:=by
 unfold lZ at h
 split at h
 ·next n ws e =>
  obtain ⟨c,hc,rfl⟩:=JW.mp h;obtain ⟨h1,h2⟩:=zP hc;refine ⟨?_,h2⟩;unfold fM;dsimp only;rw [<- h1,<- e];exact JZ _ _
 ·cases h
noncomputable def goR:Bk->List Str->Option Bk
 | acc,[]=>some acc
 | acc,r::rs=>match lZ r with
  | some nc => if cO acc nc.1 = "" then goR (acc ++ [nc]) rs else none
  | none => none
noncomputable def ip (y:Str):Option Bk:=if y="" then some [] else goR [] (Txt.split y "\n")
structure fc (bk:Bk):Prop where
 ko:KOk (kys bk)
 ok:qE bk
theorem fc.nil:fc []:=⟨⟨(fun _ h=>nomatch h),Nf⟩,fun _ h=>nomatch h⟩
theorem xD {bk:Bk} {n:Str} (c:Clo) (h:cO bk n=""):bG bk n c=bk++[(n,c)]:=by
 unfold bG;rw [if_neg];intro z;obtain ⟨nc,hc,e⟩:=List.any_eq_true.mp z;exact kB.mp (nB h).2 (Hv.mpr ⟨nc,hc,of_decide_eq_true e⟩)
theorem fc.snoc {bk:Bk} (h:fc bk) {nc:Str×Clo} (hn:cO bk nc.1="") (hc:dX nc.2):fc (bk++[nc]):=by
 refine ⟨?_,fun x hx=>?_⟩
 ·have:=h.ko.put nc.2 hn
  rw [xD nc.2 hn] at this;exact this
 ·rcases Hj.mp hx with z | z
  ·exact h.ok x z
  ·rw [HL.mp z]; exact hc
theorem Af:∀ {rs:List Str} {acc bk:Bk},goR acc rs=some bk->fc acc->fc bk/\bk.map fM=acc.map fM++rs:=by
 intro rs
 induction rs with
 | nil=>intro acc bk h g; cases h; exact ⟨g,(Kr _).symm⟩
 | cons r rs ih =>
  intro acc bk h g;unfold goR at h
  cases q:lZ r with
  | none => rw [q] at h; cases h
  | some nc =>
   rw [q] at h;dsimp only at h;by_cases c:cO acc nc.1=""
   ·rw [if_pos c] at h;obtain ⟨h1,h2⟩:=fL q;obtain ⟨g2,e⟩:=ih h (g.snoc c h2);refine ⟨g2,?_⟩;rw [e,HN,Iw,K8,h1];rfl
   ·rw [if_neg c] at h; cases h
theorem lH {y:Str} {bk:Bk} (h:ip y=some bk):fc bk/\chT bk=y:=by
 unfold ip at h;by_cases c:y=""
 ·rw [if_pos c] at h
  cases h;rw [c];exact ⟨fc.nil,rfl⟩
 ·rw [if_neg c] at h;obtain ⟨g,e⟩:=Af h fc.nil;refine ⟨g,?_⟩;unfold chT;rw [e,qI];exact JZ _ _
theorem xk {bk:Bk} (h:(bk.map (·.1)).Nodup) {nc:Str×Clo} (hm:nc∈bk):aL bk nc.1=some nc.2:=by
 unfold aL
 induction bk with
 | nil=>cases hm
 | cons x bk ih =>
  rw [Ho,Jo] at h;rw [Jf];by_cases e:x.1=nc.1
  ·rw [aX e];rcases Ξ.mp hm with z | z
   ·rw [z]; rfl
   ·exact absurd (Hv.mpr ⟨nc,z,e.symm⟩) h.1
  ·rw [bI e];rcases Ξ.mp hm with z | z
   ·exact absurd (by rw [z]) e
   ·exact ih h.2 z
end
section
variable {P:HS} {w:ID} {K:A_} {mg:Str->Option η} {base:IC} {t:Ad}
def TxN (n:Nat) (x:Str):Prop:=x.length<=n/\∀ c∈x.cps.toList,c<128
theorem TxN.tx {n:Nat} {x:Str} (h:TxN n x) (hn:n<=4000):Tx x:=⟨BA h.1 hn,h.2⟩
theorem TxN.le {n m:Nat} {x:Str} (h:TxN n x) (l:n<=m):TxN m x:=⟨BA h.1 l,h.2⟩
theorem Fv {x:Str} {lo hi:Option Int} {c:Nat} (h:c∈(Txt.slice x lo hi).cps.toList):c∈x.cps.toList:=by
 unfold Txt.slice at h
 split at h
 ·exact h
 ·rw [Ky] at h;obtain ⟨i,_,e⟩:=K7.mp h;rw [<- IK] at e;exact H_ e
theorem TxN.sl {n:Nat} {x:Str} (h:TxN n x) (lo hi:Option Int):TxN n (Txt.slice x lo hi):=⟨BA (Txt.slice_le x lo hi) h.1,fun c hc=>h.2 c (Fv hc)⟩
theorem TxN.cat {n m:Nat} {x y:Str} (h:TxN n x) (h':TxN m y):TxN (n+m) (x++y):=by
 refine ⟨by rw [J4]; exact Nn h.1 h'.1,fun c hc=>?_⟩;rw [qQ] at hc;rcases Hj.mp hc with z | z
 ·exact h.2 c z
 ·exact h'.2 c z
theorem TxN.sg {c:Nat} (h:c<128):TxN 1 (sgn c):=⟨Ω _,fun d hd=>by
 have:d=c:=by simpa [sgn] using hd
 rw [this]; exact h⟩
noncomputable def wts (ps:List Str):Nat:=(ps.map (·.length)).sum+ps.length
theorem cX (a b:List Str):wts (a++b)=wts a+wts b:=by unfold wts; rw [HN,List.sum_append,Av]; omega
theorem dE (ps:List Str) (p:Nat):wts (ps.take p)+wts (ps.drop p)=wts ps:=by rw [<- cX,OQ]
theorem tR {ps:List Str} {q:Str} (h:q∈ps):wts [q]<=wts ps:=by
 obtain ⟨a,b,rfl⟩:=List.append_of_mem h;rw [show a++q::b=a++([q]++b) from rfl,cX,cX]; omega
theorem DJ {ps:List Str} {q:Str} (h:q∈ps):q.length+1<=wts ps:=by
 have:=tR h
 have e:wts [q]=q.length+1:=by unfold wts; simp
 omega
theorem jk {ps:List Str}:ps.length<=wts ps:=by unfold wts; omega
theorem kD {s:Str} (hs:s.length=1):∀ {ps:List Str},ps≠[]->(JA s ps).length+1=wts ps
 | [a],_=>by show a.length+1=_; unfold wts; simp
 | a::b::r,_=>by
  have ih:=kD hs (ps:=b::r) (by simp)
  have e:(JA s (a::b::r)).length=a.length+s.length+(JA s (b::r)).length:=by
   show (a++s++JA s (b::r)).length=_
   rw [J4,J4]
  rw [show a::b::r=[a]++(b::r) from rfl,cX,<- ih];rw [show [a]++(b::r)=a::b::r from rfl,e,hs];unfold wts;simp
  omega
theorem vT {s:Str} (hs:s.length=1) {ps:List Str}:(JA s ps).length<=wts ps:=by
 cases ps with
 | nil=>exact Hs _
 | cons a r=>have:=kD hs (ps:=a::r) (by simp); omega
theorem uA {s:Str} {c:Nat}:∀ {ps:List Str},c∈(JA s ps).cps.toList->c∈s.cps.toList\/∃ p∈ps,c∈p.cps.toList
 | [],h=>by cases h
 | [a],h=>.inr ⟨a,Θ,h⟩
 | a::b::r,h=>by
  rw [dQ] at h;rcases Hj.mp h with z | z
  ·rcases Hj.mp z with z | z
   ·exact .inr ⟨a,Θ,z⟩
   ·exact .inl z
  ·rcases uA z with q | ⟨p,hp,q⟩
   ·exact .inl q
   ·exact .inr ⟨p,Au _ hp,q⟩
def SmS (ps:List Str):Prop:=∀ p∈ps,∀ c∈p.cps.toList,c<128
theorem lS {s:Str} {n:Nat} {ps:List Str} (hs:TxN 1 s) (h1:s.length=1) (hp:SmS ps) (hw:wts ps<=n):TxN n (Txt.join s ps):=by
 rw [qI];refine ⟨BA (vT h1) hw,fun c hc=>?_⟩;rcases uA hc with z | ⟨p,hp',z⟩
 ·exact hs.2 c z
 ·exact hp p hp' c z
theorem lD {s:Str} {ps:List Str} (h1:s.length=1) (hw:wts ps<=3702):OR s ps=true:=by
 refine yv 3702 (fun y hy=>?_) ?_
 ·have:=DJ hy
  omega
 ·have:=jk (ps:=ps)
  rw [h1];have:ps.length<=3702:=by omega
  omega
theorem tS {x s:Str} (h1:s.length=1):wts (Txt.split x s)=x.length+1:=by
 have:=kD h1 (ps:=Txt.split x s) (gK _ _)
 rw [JZ] at this;omega
theorem Bz {x s:Str} {n:Nat} (h:TxN n x):SmS (Txt.split x s):=fun p hp c hc=>h.2 c (jy hp c hc)
theorem gB {ws:List Str} {p:Nat}:cg (ws.map V.str) none (some (p:Int))=(ws.take p).map V.str:=by rw [vN,MR]
theorem fq {ws:List Str} {p:Nat}:cg (ws.map V.str) (some (p:Int)) none=(ws.drop p).map V.str:=by rw [vM,MS]
theorem xI {H:Hp} {Q:VK} {z:Str} {i:Int} (hl:z.length<=BC) (h0:0<=i) (h1:i<z.length) (ha:z.cps.toList.all (fun c=>decide (c<128))=true) (q:∀ c,c<128->Q (.str (sgn c)) H):EY (.str z) (.int i) H Q:=by
 obtain ⟨n,rfl⟩:∃ n:Nat,i=n:=⟨i.toNat,by omega⟩
 have hz:n<z.cps.toList.length:=by rw [HK]; show n<z.length; omega
 refine ⟨z,_,z.cps.toList[n],rfl,rfl,hl,cK (E_ hz),q _ ?_⟩;exact of_decide_eq_true (IW.mp ha _ (Iq hz))
theorem Ao {a:Int} {L:Nat} (h:0<L):∃ p:Nat,a%(L:Int)=(p:Int)/\p<L:=by
 have h1:=Jv a (show (L:Int)≠0 by omega);have h2:=Jc a (show (0:Int)<L by omega);exact ⟨(a%(L:Int)).toNat,by omega,by omega⟩
def sp_a8:Sp:=fun vs H Q _=>∃ (x:Str) (l:ς) (zs:List Int),vs=[.str x,.ref l]/\TxN 1200 x/\H l=some (.lst (zs.map V.int))/\4<=zs.length/\∀ y H',TxN 3700 y->ai H H'->Q (.str y) H'
theorem ok_a8 (T:Txt K mg t):aR P w K mg base CX0 1 t.f_a8 t.d_a8 ["_law_text","_law_some"] sp_a8:=by
 refine T.F_a8.ok sc_a8 (by walk_at "l") (fun _ _ _ s H vs Q E hr h=>?_)
 ·obtain ⟨x,l,zs,rfl,tx,el,hz,k⟩:=h;refine aF (aI 2 sc_a8.nd ao) fun _ _=>aF (aI 3 sc_a8.nd (ay bB (av jL rfl T.no_abs (by rfl) (aa (aw (aG K rfl) (pv 1) ag) ae)) (ay bf (av gM rfl T.no_len (by rfl) (aa (pv 0) ae)) ag))) fun _ _=>aF (aI 4 sc_a8.nd (aw (mF K rfl) (pv 2) (ay bB (av jL rfl T.no_abs (by rfl) (aa (aw (aG K rfl) (pv 1) ag) ae)) (av gM rfl T.no_len (by rfl) (aa (pv 2) ae))))) fun _ _=>aF (dw (aK (aN bD (ay bB (aw (aG K rfl) (pv 1) ag) ag) ag) (aj (aI 4 sc_a8.nd (aw (mF K rfl) ao (ay bB (av jL rfl T.no_abs (by rfl) (aa (aw (aG K rfl) (pv 1) ag) ae)) ag)))) aB)) fun _ _=>aF (aI 5 sc_a8.nd (cQ Hu JV JU gF (pv 0) (aa ao ae))) fun _ _=>aF (aI 6 sc_a8.nd (ay bB (av jL rfl T.no_abs (by rfl) (aa (aw (aG K rfl) (pv 1) ag) ae)) (av (bJ K rfl) rfl T.no_len (by rfl) (aa (pv 5) ae)))) fun _ _=>aF (aI 7 sc_a8.nd (ay bB (aw (aG K rfl) (pv 1) ag) ag)) fun _ _=>aF (aK (aN bD (pv 7) ag) (aj (az (ay cS (ay cS (aU (eS K rfl) (pv 0) bu (bz (pv 3))) (pv 4)) (aU (eS K rfl) (pv 0) (bz (pv 3)) bu)))) aB) fun _ _=>aF (aK (aN bD (pv 7) ag) (aj (az (ay cS (aU (eS K rfl) (pv 0) bu (bz (pv 3))) (aU (eS K rfl) (pv 0) (bz (ay bf (pv 3) ag)) bu)))) aB) fun _ _=>aF (aK (aN bD (pv 7) ag) (aj (az (ay cS (ay cS (aU (eS K rfl) (pv 0) bu (bz (pv 3))) (pv 4)) (aU (eS K rfl) (pv 0) (bz (ay bf (pv 3) ag)) bu)))) aB) fun _ _=>aF (aK (aN bD (pv 7) ag) (aj (az (cQ Hu Iu Ir fY ao (aa (ay cP (aU (bE K rfl) (pv 5) bu (bz (pv 6))) (aU (bE K rfl) (pv 5) (bz (ay bf (pv 6) ag)) bu)) ae)))) aB) fun _ _=>aF (aK (aN bD (pv 7) ag) (aj (az (cQ Hu Iu Ir fY ao (aa (ay cP (ay cP (aU (bE K rfl) (pv 5) bu (bz (pv 6))) (bO (aa (aw (aG K rfl) (pv 5) (pv 6)) ae))) (aU (bE K rfl) (pv 5) (bz (pv 6)) bu)) ae)))) aB) fun _ _=>aF (aK (aN bD (pv 7) ag) (aj (az (cQ Hu Iu Ir fY ao (aa (ay cP (aU (bE K rfl) (pv 5) (bz (pv 6)) bu) (aU (bE K rfl) (pv 5) bu (bz (pv 6)))) ae)))) aB) fun _ _=>aF (aI 8 sc_a8.nd (cQ Hu JV JU gF (pv 0) (aa ao ae))) fun _ _=>aF (aI 9 sc_a8.nd (ay bB (av jL rfl T.no_abs (by rfl) (aa (aw (aG K rfl) (pv 1) ag) ae)) (av (bJ K rfl) rfl T.no_len (by rfl) (aa (pv 8) ae)))) fun _ _=>aF (aK (aN bD (pv 7) ag) (aj (az (cQ Hu Iu Ir fY ao (aa (ay cP (aU (bE K rfl) (pv 8) bu (bz (pv 9))) (aU (bE K rfl) (pv 8) (bz (ay bf (pv 9) ag)) bu)) ae)))) aB) fun _ _=>cH (az (cQ Hu Iu Ir fY ao (aa (ay cP (ay cP (aU (bE K rfl) (pv 8) bu (bz (pv 9))) (bO (aa (aw (aG K rfl) (pv 8) (pv 9)) ae))) (aU (bE K rfl) (pv 8) (bz (pv 9)) bu)) ae))) fun _ _=>?_;have xl:=tx.1;have xline:x.length<=sizeLine:=BA xl (by decide);have big:(4000:Nat)<=sizeLine:=by decide
  have I0:atI (zs.map V.int) 0=_:=cN (by decide) (by omega);have I1:atI (zs.map V.int) 1=_:=cN (by decide) (by omega);have I2:atI (zs.map V.int) 2=_:=cN (by decide) (by omega);have I3:atI (zs.map V.int) 3=_:=cN (by decide) (by omega);generalize zs.getD (0:Int).toNat 0=z0 at I0;generalize zs.getD (1:Int).toNat 0=z1 at I1;generalize zs.getD (2:Int).toNat 0=z2 at I2;generalize zs.getD (3:Int).toNat 0=z3 at I3;apply aS (SqL.of el) I1 ?_;apply hG xline ?_;apply bV (by omega) ?_;generalize (if z1<0 then -z1 else z1)=a1;obtain ⟨p,ep,hp⟩:=Ao (a:=a1) (L:=x.length+1) (by omega);rw [show (((x.length:Nat):Int)+1)=((x.length+1:Nat):Int) by omega,ep];apply aS (SqL.of el) I2 ?_;apply hG (by decide +kernel) ?_;apply bV (by decide +kernel) ?_;apply xI (by decide +kernel) (Jv _ (by decide +kernel)) (Jc _ (by decide +kernel)) (by decide +kernel) fun c hc=>?_;generalize (" !\"#$&'()*+,-./0123456789:;<=>?@ABCDEFGHIJKLMNOPQRSTUVWXYZ[]^_`abcdefghijklmnopqrstuvwxyz{|}~\n":Str)=SG;apply dz (fun σ' H'=>∃ c,c<128/\σ'=[some (.str x),some (.ref l),some (.str SG),some (.int (p:Nat)),some (.str (sgn c)),none,none,none,none,none]/\H'=H) ?_ ?_
  ·apply aS (SqL.of el) I3 ?_;apply bV (by decide) ?_;left;by_cases h3:z3%2=0
   ·rw [aX h3];apply aS (SqL.of el) I2 ?_;apply bV (by decide) ?_;apply xI (by decide +kernel) (Jv _ (by decide)) (Int.lt_of_lt_of_le (Jc _ (show (0:Int)<6 by decide)) (by decide +kernel)) (by decide +kernel) fun c2 hc2=>?_;left;exact ⟨c2,hc2,rfl,rfl⟩
   ·rw [bI h3];left;exact ⟨c,hc,rfl,rfl⟩
  clear hc c;rintro σ' H' ⟨c,hc,rfl,eH⟩;rw [eH];clear eH H';have tc:=TxN.sg hc;have lsg:(sgn c).length=1:=rfl;apply ⟨rfl,?_⟩;apply ⟨x,"\n",rfl,rfl,by decide +kernel,by omega,fun lr nr=>?_⟩;have s1:=ai.new (o:=HO.lst ((Txt.split x "\n").map V.str)) nr;have e1:=af (H:=H) (a:=lr) (o:=HO.lst ((Txt.split x "\n").map V.str));generalize upd H lr (HO.lst ((Txt.split x "\n").map V.str))=H1 at s1 e1 ⊢;have el:=s1 _ _ el;have w1:("\n":Str).length=1:=by decide +kernel
  have w2:(" ":Str).length=1:=by decide +kernel
  have t1:TxN 1 "\n":=⟨by decide +kernel,by decide +kernel⟩
  have t2:TxN 1 " ":=⟨by decide +kernel,by decide +kernel⟩
  have wr:=tS (x:=x) w1;have sr:=Bz (s:="\n") tx;have ne1:=MO.mpr (gK x "\n");generalize Txt.split x "\n"=ws at e1 wr sr ne1;apply aS (SqL.of el) I1 ?_;apply bM e1 ?_;rw [ξ];apply bV (by omega) ?_;generalize (if z1<0 then -z1 else z1)=a2;obtain ⟨q,eq,hq⟩:=Ao (a:=a2) (L:=ws.length) ne1;rw [eq];apply aS (SqL.of el) I0 ?_;apply bV (by decide) ?_;generalize z0%8=wy;left;by_cases w0k:wy=0
  ·rw [aX w0k];apply ⟨x,rfl,xline,?_⟩;left;have q1:=(tx.sl none (some ((p:Nat):Int))).cat tc;refine ⟨_,_,rfl,rfl,by have:=(tx.sl none (some ((p:Nat):Int))).1; omega,?_⟩;apply ⟨x,rfl,xline,?_⟩;left;have q2:=q1.cat (tx.sl (some ((p:Nat):Int)) none);refine ⟨_,_,rfl,rfl,by have:=q1.1; have:=(tx.sl (some ((p:Nat):Int)) none).1; omega,?_⟩;left;exact k _ _ (q2.le (by decide)) s1
  rw [bI w0k];left;by_cases w1k:wy=1
  ·rw [aX w1k];apply ⟨x,rfl,xline,?_⟩;apply ⟨x,rfl,xline,?_⟩;left;have q2:=(tx.sl none (some ((p:Nat):Int))).cat (tx.sl (some (((p:Nat):Int)+1)) none);refine ⟨_,_,rfl,rfl,by have:=(tx.sl none (some ((p:Nat):Int))).1; have:=(tx.sl (some (((p:Nat):Int)+1)) none).1; omega,?_⟩;left;exact k _ _ (q2.le (by decide)) s1
  rw [bI w1k];left;by_cases w2k:wy=2
  ·rw [aX w2k];apply ⟨x,rfl,xline,?_⟩;left;have q1:=(tx.sl none (some ((p:Nat):Int))).cat tc;refine ⟨_,_,rfl,rfl,by have:=(tx.sl none (some ((p:Nat):Int))).1; omega,?_⟩;apply ⟨x,rfl,xline,?_⟩;left;have q2:=q1.cat (tx.sl (some (((p:Nat):Int)+1)) none);refine ⟨_,_,rfl,rfl,by have:=q1.1; have:=(tx.sl (some (((p:Nat):Int)+1)) none).1; omega,?_⟩;left;exact k _ _ (q2.le (by decide)) s1
  rw [bI w2k];left;by_cases w3k:wy=3
  ·rw [aX w3k];apply ⟨rfl,?_⟩;apply eG (e1) fun l2 n2=>?_;have s2:=ai.new (o:=HO.lst (cg (ws.map V.str) none (some ((q:Nat):Int)))) n2;have e2:=af (H:=H1) (a:=l2) (o:=HO.lst (cg (ws.map V.str) none (some ((q:Nat):Int))));generalize upd H1 l2 (HO.lst (cg (ws.map V.str) none (some ((q:Nat):Int))))=H2 at s2 e2 ⊢;rw [gB] at e2;left;rw [show (((q:Nat):Int)+1)=((q+1:Nat):Int) by omega];refine eG (s2 _ _ (e1)) fun l3 n3=>?_;have s3:=ai.new (o:=HO.lst (cg (ws.map V.str) (some ((q+1:Nat):Int)) none)) n3;have e3:=af (H:=H2) (a:=l3) (o:=HO.lst (cg (ws.map V.str) (some ((q+1:Nat):Int)) none));generalize upd H2 l3 (HO.lst (cg (ws.map V.str) (some ((q+1:Nat):Int)) none))=H3 at s3 e3 ⊢;rw [fq] at e3;left;have ww:=dE ws q;have wv:=dE ws (q+1);have hw:wts (ws.take q++ws.drop (q+1))<=3700:=by rw [cX]; omega
   have hlen:=jk (ps:=ws.take q++ws.drop (q+1));refine cA (s3 _ _ e2) e3 (by rw [ξ,ξ,<- Av]; omega) fun l4 H4 s4 _ e4=>?_;rw [<- HN] at e4;apply ⟨"\n",l4,_,rfl,rfl,e4,lD w1 (by omega),?_⟩;apply k _ _ ((lS t1 w1 (fun p hp=>?_) hw).le (by decide)) ((s1.trans (s2.trans s3)).trans s4);rcases Hj.mp hp with z | z
   ·exact sr p (IP z)
   ·exact sr p (JE z)
  rw [bI w3k];left;by_cases w4k:wy=4
  ·rw [aX w4k];apply ⟨rfl,?_⟩;apply eG (e1) fun l2 n2=>?_;have s2:=ai.new (o:=HO.lst (cg (ws.map V.str) none (some ((q:Nat):Int)))) n2;have e2:=af (H:=H1) (a:=l2) (o:=HO.lst (cg (ws.map V.str) none (some ((q:Nat):Int))));generalize upd H1 l2 (HO.lst (cg (ws.map V.str) none (some ((q:Nat):Int))))=H2 at s2 e2 ⊢;rw [gB] at e2;left;have eb:=s2 _ _ (e1);refine aS (SqL.of eb) (v:=.str ws[q]) (cK (by rw [BD,E_ hq]; rfl)) ?_;apply nwL fun ln H3 sln nln eln=>?_;left;have ww:=dE ws q;have wo:=tR (Iq hq:ws[q]∈ws);have hw1:wts (ws.take q++[ws[q]])<=3700:=by rw [cX]; omega
   have hw:wts (ws.take q++[ws[q]]++ws.drop q)<=3700:=by rw [cX,cX]; omega
   have hlen1:=jk (ps:=ws.take q++[ws[q]]);have hlen:=jk (ps:=ws.take q++[ws[q]]++ws.drop q);refine cA (sln _ _ e2) eln (by rw [ξ]; rw [Av] at hlen1; show _+1<=_; have:([ws[q]]:List Str).length=1:=rfl; omega) fun l4 H4 s4 _ e4=>?_;rw [show (ws.take q).map V.str++[V.str ws[q]]=(ws.take q++[ws[q]]).map V.str by rw [HN]; rfl] at e4;apply eG (s4 _ _ (sln _ _ eb)) fun l5 n5=>?_;have s5:=ai.new (o:=HO.lst (cg (ws.map V.str) (some ((q:Nat):Int)) none)) n5;have e5:=af (H:=H4) (a:=l5) (o:=HO.lst (cg (ws.map V.str) (some ((q:Nat):Int)) none));generalize upd H4 l5 (HO.lst (cg (ws.map V.str) (some ((q:Nat):Int)) none))=H5 at s5 e5 ⊢;rw [fq] at e5;apply cA (s5 _ _ e4) e5 (by rw [ξ,ξ,<- Av]; omega) fun l6 H6 s6 _ e6=>?_;rw [<- HN] at e6;apply ⟨"\n",l6,_,rfl,rfl,e6,lD w1 (by omega),?_⟩;apply k _ _ ((lS t1 w1 (fun p hp=>?_) hw).le (by decide)) ((((s1.trans (s2.trans sln)).trans s4).trans s5).trans s6);rcases Hj.mp hp with z | z
   ·rcases Hj.mp z with z | z
    ·exact sr p (IP z)
    ·rw [HL.mp z]; exact sr _ (Iq hq)
   ·exact sr p (JE z)
  rw [bI w4k];left;by_cases w5k:wy=5
  ·rw [aX w5k];apply ⟨rfl,?_⟩;apply eG (e1) fun l2 n2=>?_;have s2:=ai.new (o:=HO.lst (cg (ws.map V.str) (some ((q:Nat):Int)) none)) n2;have e2:=af (H:=H1) (a:=l2) (o:=HO.lst (cg (ws.map V.str) (some ((q:Nat):Int)) none));generalize upd H1 l2 (HO.lst (cg (ws.map V.str) (some ((q:Nat):Int)) none))=H2 at s2 e2 ⊢;rw [fq] at e2;apply eG (s2 _ _ (e1)) fun l3 n3=>?_;have s3:=ai.new (o:=HO.lst (cg (ws.map V.str) none (some ((q:Nat):Int)))) n3;have e3:=af (H:=H2) (a:=l3) (o:=HO.lst (cg (ws.map V.str) none (some ((q:Nat):Int))));generalize upd H2 l3 (HO.lst (cg (ws.map V.str) none (some ((q:Nat):Int))))=H3 at s3 e3 ⊢;rw [gB] at e3;left;have ww:=dE ws q;have hw:wts (ws.drop q++ws.take q)<=3700:=by rw [cX]; omega
   have hlen:=jk (ps:=ws.drop q++ws.take q);refine cA (s3 _ _ e2) e3 (by rw [ξ,ξ,<- Av]; omega) fun l4 H4 s4 _ e4=>?_;rw [<- HN] at e4;apply ⟨"\n",l4,_,rfl,rfl,e4,lD w1 (by omega),?_⟩;apply k _ _ ((lS t1 w1 (fun p hp=>?_) hw).le (by decide)) ((s1.trans (s2.trans s3)).trans s4);rcases Hj.mp hp with z | z
   ·exact sr p (JE z)
   ·exact sr p (IP z)
  rw [bI w5k];apply ⟨rfl,?_⟩;apply ⟨x," ",rfl,rfl,by decide +kernel,by omega,fun lv nv=>?_⟩;have s1b:=s1.trans (ai.new (o:=HO.lst ((Txt.split x " ").map V.str)) nv);have el:=ai.new (o:=HO.lst ((Txt.split x " ").map V.str)) nv _ _ el;have e7:=af (H:=H1) (a:=lv) (o:=HO.lst ((Txt.split x " ").map V.str));generalize upd H1 lv (HO.lst ((Txt.split x " ").map V.str))=H7 at s1b e7 el ⊢;have wr2:=tS (x:=x) w2;have sr2:=Bz (s:=" ") tx;have ne2:=MO.mpr (gK x " ");generalize Txt.split x " "=vs at e7 wr2 sr2 ne2;apply aS (SqL.of el) I1 ?_;apply bM e7 ?_;rw [ξ];apply bV (by omega) ?_;generalize (if z1<0 then -z1 else z1)=a3;obtain ⟨r,er,hr2⟩:=Ao (a:=a3) (L:=vs.length) ne2;rw [er];left;by_cases w6k:wy=6
  ·rw [aX w6k];apply ⟨rfl,?_⟩;apply eG (e7) fun l2 n2=>?_;have s2:=ai.new (o:=HO.lst (cg (vs.map V.str) none (some ((r:Nat):Int)))) n2;have e2:=af (H:=H7) (a:=l2) (o:=HO.lst (cg (vs.map V.str) none (some ((r:Nat):Int))));generalize upd H7 l2 (HO.lst (cg (vs.map V.str) none (some ((r:Nat):Int))))=H2 at s2 e2 ⊢;rw [gB] at e2;left;rw [show (((r:Nat):Int)+1)=((r+1:Nat):Int) by omega];refine eG (s2 _ _ (e7)) fun l3 n3=>?_;have s3:=ai.new (o:=HO.lst (cg (vs.map V.str) (some ((r+1:Nat):Int)) none)) n3;have e3:=af (H:=H2) (a:=l3) (o:=HO.lst (cg (vs.map V.str) (some ((r+1:Nat):Int)) none));generalize upd H2 l3 (HO.lst (cg (vs.map V.str) (some ((r+1:Nat):Int)) none))=H3 at s3 e3 ⊢;rw [fq] at e3;left;have ww:=dE vs r;have wv:=dE vs (r+1);have hw:wts (vs.take r++vs.drop (r+1))<=3700:=by rw [cX]; omega
   have hlen:=jk (ps:=vs.take r++vs.drop (r+1));refine cA (s3 _ _ e2) e3 (by rw [ξ,ξ,<- Av]; omega) fun l4 H4 s4 _ e4=>?_;rw [<- HN] at e4;apply ⟨" ",l4,_,rfl,rfl,e4,lD w2 (by omega),?_⟩;apply k _ _ ((lS t2 w2 (fun p hp=>?_) hw).le (by decide)) ((s1b.trans (s2.trans s3)).trans s4);rcases Hj.mp hp with z | z
   ·exact sr2 p (IP z)
   ·exact sr2 p (JE z)
  rw [bI w6k];apply ⟨rfl,?_⟩;apply eG (e7) fun l2 n2=>?_;have s2:=ai.new (o:=HO.lst (cg (vs.map V.str) none (some ((r:Nat):Int)))) n2;have e2:=af (H:=H7) (a:=l2) (o:=HO.lst (cg (vs.map V.str) none (some ((r:Nat):Int))));generalize upd H7 l2 (HO.lst (cg (vs.map V.str) none (some ((r:Nat):Int))))=H2 at s2 e2 ⊢;rw [gB] at e2;left;have eb:=s2 _ _ (e7);refine aS (SqL.of eb) (v:=.str vs[r]) (cK (by rw [BD,E_ hr2]; rfl)) ?_;apply nwL fun ln H3 sln nln eln=>?_;left;have ww:=dE vs r;have wo:=tR (Iq hr2:vs[r]∈vs);have hw1:wts (vs.take r++[vs[r]])<=3700:=by rw [cX]; omega
  have hw:wts (vs.take r++[vs[r]]++vs.drop r)<=3700:=by rw [cX,cX]; omega
  have hlen1:=jk (ps:=vs.take r++[vs[r]]);have hlen:=jk (ps:=vs.take r++[vs[r]]++vs.drop r);refine cA (sln _ _ e2) eln (by rw [ξ]; rw [Av] at hlen1; show _+1<=_; have:([vs[r]]:List Str).length=1:=rfl; omega) fun l4 H4 s4 _ e4=>?_;rw [show (vs.take r).map V.str++[V.str vs[r]]=(vs.take r++[vs[r]]).map V.str by rw [HN]; rfl] at e4;apply eG (s4 _ _ (sln _ _ eb)) fun l5 n5=>?_;have s5:=ai.new (o:=HO.lst (cg (vs.map V.str) (some ((r:Nat):Int)) none)) n5;have e5:=af (H:=H4) (a:=l5) (o:=HO.lst (cg (vs.map V.str) (some ((r:Nat):Int)) none));generalize upd H4 l5 (HO.lst (cg (vs.map V.str) (some ((r:Nat):Int)) none))=H5 at s5 e5 ⊢;rw [fq] at e5;apply cA (s5 _ _ e4) e5 (by rw [ξ,ξ,<- Av]; omega) fun l6 H6 s6 _ e6=>?_;rw [<- HN] at e6;apply ⟨" ",l6,_,rfl,rfl,e6,lD w2 (by omega),?_⟩;apply k _ _ ((lS t2 w2 (fun p hp=>?_) hw).le (by decide)) ((((s1b.trans (s2.trans sln)).trans s4).trans s5).trans s6);rcases Hj.mp hp with z | z
  ·rcases Hj.mp z with z | z
   ·exact sr2 p (IP z)
   ·rw [HL.mp z]; exact sr2 _ (Iq hr2)
  ·exact sr2 p (JE z)
def sp_a9:Sp:=fun vs H Q _=>∃ x y:Str,vs=[.str x,.str y]/\Tx x/\∀ H',ai H H'->Q (.bl (jO x y)) H'
theorem ok_a9 (T:Txt K mg t):aR P w K mg base CX0 1 t.f_a9 t.d_a9 ["word","signs"] sp_a9:=by
 refine T.F_a9.ok sc_a9 (by walk_at "l") (fun _ _ _ s H vs Q E hr h=>?_)
 ·obtain ⟨x,y,rfl,tx,k⟩:=h;refine ⟨_,(aj (az (jR (iI kK (av gM rfl T.no_len (by rfl) (aa (pv 0) ae)) ag) (jS (av (gL K rfl rfl) rfl T.no_all (by rfl) (aa (cT (N:=["sign","signs"]) (cap:=[none,some 1]) rfl ⟨rfl,rfl,rfl,rfl,rfl,rfl⟩ (jw (pv 0)) (fun _ _ _=>(aY (i:=0) (show (["sign","signs"]:List Str).Nodup by decide +kernel) rfl (IQ rfl))) (fun _ _ _=>cD) (fun _ _ _=>(mJ lG (pv 0) (pv 1) rfl))) ae)))))),?_⟩;apply hG tx.line ?_;left
  have e0:jO x y=(decide ((0:Int)<(x.length:Nat))&&x.cps.toList.all fun c=>decide (c∈y.cps.toList)):=by
   unfold jO
   congr 1
   have hl:x.cps.toList.length=x.length:=HK
   cases hq:x.cps.toList with
   | nil=>rw [hq] at hl; rw [bI (by rw [<- hl]; decide)]; rfl
   | cons c r=>rw [hq] at hl; rw [aX (by rw [<- hl]; simp only [HM]; omega)]; rfl
  rw [e0] at k;generalize decide ((0:Int)<(x.length:Nat))=u1 at k ⊢
  cases u1 with
  | false =>
   left;exact k _ (ai.refl _)
  | true =>
   apply ⟨x,rfl,fun l nl=>?_⟩;refine dU ((x.cps.toList.map fun c=>decide (c∈y.cps.toList)).map V.bl) (by rw [ξ,ξ,HK]) tx.size nl (fun i c v o H' Q' hc hy s5 q=>?_) (fun H1 s1 e1=>?_)
   ·rw [BD,BD,IK,hc] at hy
    cases hy;apply ⟨_,_,rfl,rfl,?_⟩;rw [qZ];exact q H' (ai.refl _)
   ·apply iL e1 ?_;rw [K1] ;exact k _ s1
def tL (BT:ς):Sp:=fun vs H Q E=>∃ x:Str,vs=[.str x]/\Tx x/\((fy x=none/\∀ H',ai H H'->E (.ref BT) none H')\/∃ bs,fy x=some bs/\∀ l H',ai H H'->H' l=some (.lst (bs.map V.int))->Q (.ref l) H')
theorem okx_a7 (T:Txt K mg t):aR P w K mg base (CX1 P w) 2 t.f_a7 t.d_a7 ["word"] (tL t.a_af):=by
 refine T.F_a7.ok1 sc_a7 (by walk_at "l") (fun _ _ _ s H vs Q E hr h=>?_)
 ·obtain ⟨x,rfl,tx,k⟩:=h;refine aF (aK (aN bD (pv 0) ao) (aj (az (bO ae))) aB) fun _ _=>aF (aK (dR (cm (aD (ok_a9 T).up (rmo hr) rfl T.mg_a9 T.F_a9.kp T.b_a9 .nil aP (aa (pv 0) (aa ao ae))))) (aj (b7 T.mg_af T.x_af BF rfl rfl (fun _ _ _ _ _ _ _ _ I m q=>gu I m q) (aa ao ae))) aB) fun _ _=>cH (az (cT (N:=["sign"]) (cap:=[none]) rfl ⟨rfl,rfl,rfl,rfl,rfl,rfl⟩ (jw (pv 0)) (fun _ _ _=>(aY (i:=0) (show (["sign"]:List Str).Nodup by decide +kernel) rfl (IQ rfl))) (fun _ _ _=>cD) (fun _ _ _=>(aW mw rfl T.no_int (by rfl) (aa (pv 0) ae))))) fun _ _=>?_;left;by_cases c1:x="-"
  ·rw [aX c1];left
   have k:∀ l H',ai H H'->H' l=some (.lst [])->Q (.ref l) H':=by
    unfold fy at k;rw [if_pos c1] at k;rcases k with ⟨z,_⟩ | ⟨bs,z,k⟩
    ·cases z
    ·cases z; exact k
   refine nwL fun l H1 sl nl el=>?_;exact k l H1 sl el
  ·rw [bI c1];apply ⟨x,"01",rfl,tx,fun H1 s1=>?_⟩
   cases d:jO x "01" with
   | false =>
    apply ⟨by show 1<=BC; decide,?_⟩;unfold fy at k;rw [if_neg c1,d,if_neg (by decide)] at k;rcases k with ⟨_,k⟩ | ⟨bs,z,_⟩
    ·exact k _ s1
    ·cases z
   | true =>
    left
    have k:∀ l H',ai H H'->H' l=some (.lst ((x.cps.toList.map fun (c:Nat)=>(c:Int) - 48).map V.int))->Q (.ref l) H':=by
     unfold fy at k;rw [if_neg c1,if_pos d] at k;rcases k with ⟨z,_⟩ | ⟨bs,z,k⟩
     ·cases z
     ·cases z; exact k
    refine ⟨x,rfl,fun l nl=>?_⟩;refine dU ((x.cps.toList.map fun (c:Nat)=>(c:Int) - 48).map V.int) (by rw [ξ,ξ,HK]) tx.size nl (fun i c v o H' Q' hc hy s5 q=>?_) (fun H2 s2 e2=>?_)
    ·rw [BD,BD,IK,hc] at hy
     cases hy;apply ⟨_,_,rfl,uw (jo d c (by rw [<- IK] at hc; exact H_ hc)),by show 1<=640; decide,?_⟩;exact q H' (ai.refl _)
    ·left;exact k l H2 (s1.trans s2) e2
theorem uH {x:Str} {bs:List Int} (h:fy x=some bs) (hl:bs.length<=39):lw x=some bs:=by unfold lw; rw [h]; dsimp only; rw [if_pos hl]
theorem uG {x:Str} (h:fy x=none):lw x=none:=by unfold lw; rw [h]
theorem vU {x:Str} {bs:List Int} (h:fy x=some bs) (hl:¬ bs.length<=39):lw x=none:=by unfold lw; rw [h]; dsimp only; rw [if_neg hl]
theorem Gr {x a b c:Str} (h:Txt.split x " "=[a,b,c]):rdW x=if a="0"\/a="1" then (match lw b,lw c with
  | some cs, some rs => some (if a = "0" then (0 : Int) else 1, cs, rs)
  | _, _ => none) else none := by unfold rdW; rw [h] <;> rfl
theorem Gs {x:Str} (h:(Txt.split x " ").length≠3):rdW x=none:=by
 unfold rdW clW
 split
 ·next e=>rw [e] at h; exact absurd rfl h
 ·rfl
def pV (C BT:ς):Sp:=fun vs H Q E=>∃ x:Str,vs=[.str x]/\Tx x/\((rdW x=none/\∀ H',ai H H'->E (.ref BT) none H')\/∃ s cs rs,rdW x=some (s,cs,rs)/\∀ p H',ai H H'->aO C H' p s cs rs->Q (.ref p) H')
theorem okx_aO (T:Txt K mg t):aR P w K mg base (CX1 P w) 8 t.f_aO t.d_aO ["text"] (pV t.a_ai t.a_af):=by
  have GX2_ClothInit:=okx_aq (P:=P) (w:=w) (base:=base) T;refine T.F_aO.ok1 sc_aO (fun vs H Q E h=>?_) (fun cdv A outer s H vs Q E hr h=>?_)
  · obtain ⟨x,rfl,_⟩:=h; rfl
  · obtain ⟨x,rfl,tx,k⟩:=h
    refine aF (aI 1 sc_aO.nd (cQ Hu JV JU gF (pv 0) (aa ao ae))) fun _ _=>aF (aK (PW.pt (fK (aN gG (av (bJ K rfl) rfl T.no_len (by rfl) (aa (pv 1) ae)) ag) (eF (fh (js hr.units) (aw (aG K rfl) (pv 1) ag) (bh (aa ao (aa ao ae))) rfl)))) (aj (b7 T.mg_af T.x_af BF rfl rfl (fun _ _ _ _ _ _ _ _ I m q=>gu I m q) (aa ao ae))) aB) fun _ _=>aF (aI 2 sc_aO.nd (aW mw rfl T.no_int (by rfl) (aa (aw (aG K rfl) (pv 1) ag) ae))) fun _ _=>aF (aI 3 sc_aO.nd (aD (okx_a7 T) (rmo hr) rfl T.mg_a7 T.F_a7.kp T.b_a7 .nil aP (aa (aw (aG K rfl) (pv 1) ag) ae))) fun _ _=>aF (aI 4 sc_aO.nd (aD (okx_a7 T) (rmo hr) rfl T.mg_a7 T.F_a7.kp T.b_a7 .nil aP (aa (aw (aG K rfl) (pv 1) ag) ae))) fun _ _=>cH (xC (i:=5) sc_aO.nd rfl rfl rfl T.mg_a5 (fun _ _=>(aj (az (uW T.mk_ai GX2_ClothInit (rmo hr) rfl T.mg_ai T.b_aq .nil AA (aa (pv 2) (aa (pv 3) (aa (pv 4) ae))))))) rfl T.mg_af T.x_af BF BF (fun _=>(aa ao ae)) (fun _ _ _ h=>h _) (fun _ _ _ _ _ _ _ _ _ _ I a b c d e f g h i j k l m=>x5 I a b c d e f g h i j k l m)) fun _ _=>?_;have bad:rdW x=none->∀ H',ai H H'->E (.ref t.a_af) none H':=fun z=>by
      rcases k with ⟨_,k⟩ | ⟨s,cs,rs,y,_⟩
      · exact k
      · rw [z] at y; cases y
    apply ⟨rfl,?_⟩;apply ⟨x," ",rfl,rfl,by decide +kernel,by have:=tx.1; omega,fun l1 n1=>?_⟩;have s1:=ai.new (o:=HO.lst ((Txt.split x " ").map V.str)) n1;have e1:=af (H:=H) (a:=l1) (o:=HO.lst ((Txt.split x " ").map V.str));generalize upd H l1 (HO.lst ((Txt.split x " ").map V.str))=H1 at s1 e1 ⊢;apply bM e1 ?_;rw [ξ];left;by_cases c3:(Txt.split x " ").length=3
    · rw [aX (show (((Txt.split x " ").length:Nat):Int)=3 by omega)]
      obtain ⟨a,b,c,hq⟩:=vB c3;have w1:Tx a:=tx.word (y:=" ") (by rw [hq]; simp);have w2:Tx b:=tx.word (y:=" ") (by rw [hq]; simp);have w3:Tx c:=tx.word (y:=" ") (by rw [hq]; simp);rw [hq] at e1;have rd3:=Gr hq;apply aS (SqL.of e1) (v:=.str a) rfl ?_;apply nwT fun tp H2 stp ntp etp=>?_;apply iO etp (by decide +kernel) (by decide +kernel) w1.ok ?_;by_cases ca:a="0"\/a="1"
      · rw [show (!(decide ("0"=a)||decide ("1"=a)))=false by rcases ca with rfl | rfl<;>decide +kernel]
        rw [if_pos ca] at rd3;left;have e2:=stp _ _ e1;refine aS (SqL.of e2) (v:=.str a) rfl ?_;apply ⟨a,_,rfl,(q0 ca).1,(q0 ca).2,?_⟩;generalize hsv:(if a="0" then (0:Int) else 1)=sv at rd3 ⊢;have hsv':sv=0\/sv=1:=by rw [<- hsv]; split<;>simp
        apply aS (SqL.of e2) (v:=.str b) rfl ?_;left;have s12:=s1.trans stp;refine ⟨b,rfl,w2,?_⟩
        cases hb:fy b with
        | none =>
          rw [uG hb] at rd3;exact .inl ⟨rfl,fun H3 s3=>bad rd3 _ (s12.trans s3)⟩
        | some cs =>
          have bb:=lg hb;refine .inr ⟨cs,rfl,fun lc H3 s3 ec=>?_⟩;apply aS (SqL.of (s3 _ _ e2)) (v:=.str c) rfl ?_;left;have s13:=s12.trans s3;refine ⟨c,rfl,w3,?_⟩
          cases hc:fy c with
          | none =>
            rw [uG hc] at rd3;have rd3:rdW x=none:=by rw [rd3]; cases lw b<;>rfl
            exact .inl ⟨rfl,fun H4 s4=>bad rd3 _ (s13.trans s4)⟩
          | some rs =>
            have bc:=lg hc;refine .inr ⟨rs,rfl,fun lr H4 s4 er=>?_⟩;have s14:=s13.trans s4;apply xM ?_;left;intro p dx np ndx nex;have sM:ai H4 (upd (upd H4 dx (.own p)) p (.ins t.a_ai dx [])):=(ai.new ndx).later np;have back:∀ {H5:Hp},lU (upd (upd H4 dx (.own p)) p (.ins t.a_ai dx [])) p H5->ai H4 H5:=fun {H5} kp b o e=>kp b o (sM b o e) (cj e np);have l1:=w2.1;have l2:=w3.1;refine ⟨p,dx,lc,lr,sv,cs,rs,rfl,af,sM _ _ (s4 _ _ ec),sM _ _ er,by omega,by omega,?_⟩;by_cases sz:cs.length<=39/\rs.length<=39
            · rw [uH hb sz.1,uH hc sz.2] at rd3
              refine .inr (.inr ⟨sz,bA.ok hsv' ⟨sz.1,bb.1⟩ ⟨sz.2,bc.1⟩,fun H5 kp hC=>⟨rfl,?_⟩⟩);rcases k with ⟨z,_⟩ | ⟨s',cs',rs',z,k⟩
              · rw [rd3] at z; cases z
              · rw [rd3] at z; cases z
                exact k p H5 (s14.trans (back kp)) hC
            · have rd3:rdW x=none:=by
                rw [rd3];by_cases z1:cs.length<=39
                · rw [uH hb z1,vU hc fun z=>sz ⟨z1,z⟩]
                · rw [vU hb z1]
              exact .inl ⟨sz,t.a_ac,rfl,T.cat_ac,T.x_ac,bad rd3 _ (s14.trans sM)⟩
      · rw [show (!(decide ("0"=a)||decide ("1"=a)))=true by
          rw [bI (fun z=>ca (.inl z.symm)),bI (fun z=>ca (.inr z.symm))]; rfl]
        rw [if_neg ca] at rd3;left;exact ⟨by show 1<=BC; decide,bad rd3 _ (s1.trans stp)⟩
    · rw [bI (show ¬ (((Txt.split x " ").length:Nat):Int)=3 by omega)]
      left;exact ⟨by show 1<=BC; decide,bad (Gs c3) _ s1⟩
theorem Bv {c:Nat} (h:oE c=true):c<128:=by
 rw [vm] at h;exact (by decide +kernel:∀ c∈("abcdefghijklmnopqrstuvwxyz":Str).cps.toList,c<128) c (of_decide_eq_true h)
theorem mH {n:Str} (h:bR n=true):TxN 12 n:=by
 unfold bR at h;rw [Hy,Hy] at h;refine ⟨of_decide_eq_true h.1.2,fun d hd=>?_⟩;have:=IW.mp h.2 d hd
 exact Bv this
theorem xN {nc:Str×Clo} (h:bR nc.1=true) (c:dX nc.2):TxN 94 (fM nc):=by
 have hw:∀ {bs:List Int},B01 bs->∀ c∈(wd bs).cps.toList,c<128:=fun {bs} hb=>by
  unfold wd
  split
  ·decide +kernel
  ·intro c hc;rw [Ky] at hc;unfold dgs at hc;obtain ⟨z,hz,rfl⟩:=Hv.mp hc;rcases hb z hz with rfl | rfl<;>decide
 have h0:=mH h;have h1:TxN 1 (sh nc.2.1):=TxN.sg (by rcases c.1 with e | e<;>rw [e]<;>decide);have h2:TxN 39 (wd nc.2.2.1):=⟨tQ 39 c.2.1.1 (by decide),hw c.2.1.2⟩
 have h3:TxN 39 (wd nc.2.2.2):=⟨tQ 39 c.2.2.1 (by decide),hw c.2.2.2⟩
 have sp:TxN 1 " ":=⟨by decide +kernel,by decide +kernel⟩
 have q:=(h0.cat sp).cat ((h1.cat sp).cat ((h2.cat sp).cat h3));exact ⟨BA q.1 (by decide),q.2⟩
theorem Ep {bk:Bk} (h:KOk (kys bk)) (c:qE bk) (hl:bk.length<=12):TxN 1200 (chT bk):=by
 have h1:∀ p∈bk.map fM,TxN 94 p:=fun p hp=>by
  obtain ⟨nc,hm,rfl⟩:=Hv.mp hp;exact xN (h.1 _ (Hv.mpr ⟨nc,hm,rfl⟩)) (c nc hm)
 refine lS ⟨by decide +kernel,by decide +kernel⟩ (by decide +kernel) (fun p hp=>(h1 p hp).2) ?_;have:∀ ps:List Str,(∀ p∈ps,TxN 94 p)->wts ps<=ps.length*95:=by
  intro ps
  induction ps with
  | nil => intro _; exact Hs _
  | cons p ps ih =>
   intro hp;have h2:=ih fun q hq=>hp q (Au _ hq);have h3:=(hp p Θ).1;rw [show p::ps=[p]++ps from rfl,cX,Av];have h4:wts [p]=p.length+1:=by unfold wts; simp
   rw [HU];omega
 have:=this _ h1
 rw [ξ] at this;omega
def sp_aR (C CH:ς):Sp:=fun vs H Q _=>∃ (p la lb:ς) (past ahead:List Bk) (now:Bk),vs=[.ref p]/\dF C CH H p la lb past now ahead/\KOk (kys now)/\now.length<=900/\wts (now.map fM)<=3702/\∀ H',ai H H'->Q (.str (chT now)) H'
theorem ok_aR (T:Txt K mg t):aR P w K mg base CX0 3 t.f_aR t.d_aR ["chest"] (sp_aR t.a_ai t.a_ak):=by
 refine T.F_aR.ok sc_aR (by walk_at "l") (fun _ _ _ s H vs Q E hr h=>?_)
 ·obtain ⟨p,la,lb,past,ahead,now,rfl,ch,ko,hl,hw,k⟩:=h;obtain ⟨dx,fs,d,f1,cl,_⟩:=ch.ob;refine ⟨_,(aj (az (cQ Hu Iu Ir fY ao (aa (cT (N:=["name","chest"]) (cap:=[none,some 0]) rfl ⟨rfl,rfl,rfl,rfl,rfl,rfl⟩ (dh (aT (pv 0) T.cl_ak T.m_aB (ok_aB T) (rmo hr) T.b_aB .nil aV)) (fun _ _ _=>(aY (i:=0) (show (["name","chest"]:List Str).Nodup by decide +kernel) rfl (IQ rfl))) (fun _ _ _=>cD) (fun _ _ _=>(ay cS (ay cS (pv 0) ao) (aD (ok_aT T) (rmo hr) rfl T.mg_aT T.F_aT.kp T.b_aT .nil aV (aa (bH (pv 1) T.cl_ak T.m_an (ok_an T) (rmo hr) T.b_an .nil aV (aa (pv 0) ae)) ae))))) ae)))),?_⟩;apply ⟨rfl,?_⟩;apply ax f1 (cl.no _ (by decide +kernel)) ?_;apply ⟨p,la,lb,past,ahead,now,rfl,ch,fun l1 n1=>?_⟩;have s1:=ai.new (o:=HO.lst (eD now)) n1;have e1:=af (H:=H) (a:=l1) (o:=HO.lst (eD now));generalize upd H l1 (HO.lst (eD now))=H1 at s1 e1 ⊢;apply ⟨⟨_,SqL.of e1⟩,fun l2 n2=>?_⟩;refine iu ((now.map fM).map V.str) (by unfold eD; rw [ξ,ξ,ξ]) (SqL.of e1) (by unfold eD; rw [ξ]; omega) n2 (fun i x y o H' Q' hx hy s2 q=>?_) (fun H2 s2 e2=>?_)
  ·unfold eD at hx;rw [BD] at hx hy;rw [BD] at hy;obtain ⟨nc,hnc,rfl⟩:=JW.mp hx;rw [hnc] at hy
   cases hy;have hm:=H_ hnc;have s12:=s1.trans s2;have hn:=mH (ko.1 _ (Hv.mpr ⟨nc,hm,rfl⟩));have ob:=ch.bkOk nc hm;have hr:=(xN (nc:=nc) (ko.1 _ (Hv.mpr ⟨nc,hm,rfl⟩)) ob).1;apply ⟨nc.1," ",rfl,rfl,BA (Nn hn.1 (Ω 1)) (by decide),?_⟩;apply ax (s12 _ _ f1) (cl.no _ (by decide +kernel)) ?_;apply ⟨p,la,lb,past,ahead,now,nc.1,nc.2,rfl,ch.mono s12,xk ko.2 hm,fun v hv=>?_⟩;obtain ⟨x,rfl,hC,c1,c2,c3⟩:=hv;apply ⟨x,_,_,_,rfl,hC,c1,c2,c3,fun H3 s3=>?_⟩;apply ⟨_,_,rfl,rfl,by rw [<- J4]; exact BA hr (by decide),?_⟩;exact q H3 s3
  ·apply ⟨_,l2,_,rfl,rfl,e2,lD (by decide +kernel) hw,?_⟩;exact k H2 (s1.trans s2)
theorem CL.setA {fs:List (Str×V)} {d la la' lb:ς} (h:CL fs d la lb):CL (cU "ahead_of_deeds" (.ref la') fs) d la' lb where
 c:=by rw [aC,if_neg (by decide +kernel)]; exact h.c
 a:=by rw [aC,if_pos rfl]
 b:=by rw [aC,if_neg (by decide +kernel)]; exact h.b
 no:=fun m hm=>by rw [aC,if_neg hm.2.1]; exact h.no m hm
 len:=by rw [kM (by rw [h.a]; rfl)]; exact h.len
def sp_ay (C CH:ς):Sp:=fun vs H Q _=>∃ (p la lb:ς) (past ahead:List Bk) (now:Bk),vs=[.ref p]/\dF C CH H p la lb past now ahead/\∀ la' lb' H',bX [p] H H'->dF C CH H' p la' lb' [] now []->Q .non H'
theorem ok_ay (T:Txt K mg t):aR P w K mg base CX0 1 t.f_ay t.d_ay ["self"] (sp_ay t.a_ai t.a_ak):=by
 refine T.F_ay.ok sc_ay (by walk_at "l") (fun _ _ _ s H vs Q E hr h=>?_)
 ·obtain ⟨p,la,lb,past,ahead,now,rfl,hc,k⟩:=h;have ap:=hc.apt;have ap2:Apt t.a_ai H [p]:=fun x hx=>ap x (by rw [HL.mp hx]; exact Θ);obtain ⟨dx,fs,d,e1,cl,hd⟩:=hc.ob;refine ⟨_,(aH (eV (pv 0) (bO ae) rfl) (aj (eV (pv 0) (bO ae) rfl))),?_⟩;apply nwL fun l1 H1 sl1 nl1 el1=>?_;apply c7 (sl1 _ _ e1) T.cl_ak T.naC_ahead_of_deeds (HX cl.len (by decide)) ?_;have cl2:=cl.setA (la':=l1);generalize hfs:cU (JK "ahead_of_deeds") (.ref l1) fs=fs2 at cl2 ⊢;have p1:p≠l1:=fun z=>by rw [z,nl1] at e1; cases e1
  have m2:bX [p] H (upd H1 p (.ins t.a_ak dx fs2)):=(sl1.butL _).upd Θ;have g1:=af (H:=H1) (a:=p) (o:=.ins t.a_ak dx fs2);have g2:upd H1 p (.ins t.a_ak dx fs2) l1=some (.lst []):=by rw [aE (IL p1)]; exact el1
  generalize upd H1 p (.ins t.a_ak dx fs2)=H2 at m2 g1 g2 ⊢;apply nwL fun l2 H3 sl2 nl2 el2=>?_;have p2:p≠l2:=fun z=>by rw [z,nl2] at g1; cases g1
  have l12:l1≠l2:=fun z=>by rw [z,nl2] at g2; cases g2
  apply c7 (sl2 _ _ g1) T.cl_ak T.naC_behind_undone (HX cl2.len (by decide)) ?_;have cl3:=cl2.setB (lb':=l2);generalize hfs3:cU (JK "behind_undone") (.ref l2) fs2=fs3 at cl3 ⊢;have m4:bX [p] H (upd H3 p (.ins t.a_ak dx fs3)):=(m2.trans (sl2.butL _)).upd Θ;left;exact k l1 l2 _ m4 ⟨⟨dx,fs3,d,af,cl3,hd.but m4 ap2⟩,⟨[],by rw [aE (IL p1)]; exact sl2 _ _ g2,PwD.nil⟩,⟨[],by rw [aE (IL p2)]; exact el2,PwD.nil⟩,l12⟩
theorem wq (r:Str):lZ r=(rdW (Txt.partition r " ").2.2).map fun c=>((Txt.partition r " ").1,c):=by
 unfold lZ rdW;by_cases h:32∈r.cps.toList
 ·rw [show Txt.split r " "=(Txt.partition r " ").1::Txt.split (Txt.partition r " ").2.2 " " from wb h]
 ·rw [show Txt.split r " "=[r] from BH h,show Txt.partition r " "=(r,JT,JT) from xA h];rfl
theorem CD {r:Str} {n:Nat} (h:TxN n r):TxN n (Txt.partition r " ").1/\TxN n (Txt.partition r " ").2.2:=by
 by_cases hm:32∈r.cps.toList
 ·obtain ⟨_,e⟩:=uR hm;have e:r.cps.toList=(Txt.partition r " ").1.cps.toList++32::(Txt.partition r " ").2.2.cps.toList:=e;have hl:r.length=r.cps.toList.length:=HK.symm;have l1:(Txt.partition r " ").1.length=(Txt.partition r " ").1.cps.toList.length:=HK.symm;have l2:(Txt.partition r " ").2.2.length=(Txt.partition r " ").2.2.cps.toList.length:=HK.symm;have hn:=h.1;rw [hl,e,Av,HM] at hn;refine ⟨⟨by rw [l1]; omega,fun c hc=>h.2 c ?_⟩,⟨by rw [l2]; omega,fun c hc=>h.2 c ?_⟩⟩
  ·rw [e]; exact Ji _ hc
  ·rw [e]; exact IE _ (Au _ hc)
 ·rw [show Txt.partition r " "=(r,JT,JT) from xA hm];exact ⟨h,Hs _,fun c hc=>by cases hc⟩
theorem rT:∀ {acc:Bk},fc acc->8*acc.length<=wts (acc.map fM):=by
 intro acc
 induction acc with
 | nil=>intro _; exact Hs _
 | cons nc acc ih =>
  intro g;have g':fc acc:=⟨⟨fun n hn=>g.ko.1 n (Au _ hn),(Jo.mp g.ko.2).2⟩,fun x hx=>g.ok x (Au _ hx)⟩
  have h1:=ih g'
  have h2:1<=nc.1.length:=by
   have:=g.ko.1 nc.1 Θ
   unfold bR at this;rw [Hy,Hy] at this;exact of_decide_eq_true this.1.1
  have wl:∀ bs:List Int,1<=(wd bs).length:=fun bs=>by
   unfold wd
   split
   ·decide +kernel
   ·next e =>
    show 1<=(dgs bs).toArray.size
    unfold dgs;rw [HH,ξ];exact MO.mpr e
  have h3:=wl nc.2.2.1;have h4:=wl nc.2.2.2;have h5:=kD (s:=" ") (by decide +kernel) (ps:=[nc.1,sh nc.2.1,wd nc.2.2.1,wd nc.2.2.2]) (by simp);have h6:(fM nc).length+1=wts [nc.1,sh nc.2.1,wd nc.2.2.1,wd nc.2.2.2]:=h5;have h7:(sh nc.2.1).length=1:=rfl
  have h8:wts [nc.1,sh nc.2.1,wd nc.2.2.1,wd nc.2.2.2]=nc.1.length+(sh nc.2.1).length+(wd nc.2.2.1).length+(wd nc.2.2.2).length+4:=by
   unfold wts;simp only [Ho,Mp,List.sum_cons,N_,HM,NJ];omega
  rw [Ho,show fM nc::acc.map fM=[fM nc]++acc.map fM from rfl,cX,HM];have h9:wts [fM nc]=(fM nc).length+1:=by unfold wts; simp
  omega
def pU (C CH BT:ς):Sp:=fun vs H Q E=>∃ y:Str,vs=[.str y]/\TxN 3700 y/\((ip y=none/\∀ H',ai H H'->E (.ref BT) none H')\/∃ bk,ip y=some bk/\∀ p la lb H',ai H H'->dF C CH H' p la lb [] bk []->Q (.ref p) H')
theorem okx_aI (T:Txt K mg t):aR P w K mg base (CX1 P w) 10 t.f_aI t.d_aI ["text"] (pU t.a_ai t.a_ak t.a_af):=by
 have GX2_Chestlay:=okx_aJ (P:=P) (w:=w) (base:=base) T;refine T.F_aI.ok1 sc_aI (by walk_at "l") (fun _ _ _ s H vs Q E hr h=>?_)
 ·obtain ⟨y,rfl,ty,k⟩:=h;refine aF (aI 1 sc_aI.nd (uV T.mk_ak (ok_aS T).up (rmo hr) rfl T.mg_ak T.b_aS .nil aP )) fun _ _=>aF (dw (aI 2 sc_aI.nd (AG (aN bD (pv 0) ao) (bO ae) (cQ Hu JV JU gF (pv 0) (aa ao ae))))) fun _ _=>aF (fG N9 rfl (dh (pv 2)) (aY (i:=3) sc_aI.nd rfl (IQ rfl)) (aH (aI 4 sc_aI.nd (cQ Hu PySem.F.slot_str_partition PySem.F.type_str_partition rg (pv 3) (aa ao ae))) (aH (aI 5 sc_aI.nd (aD (okx_aO T) (rmo hr) rfl T.mg_aO T.F_aO.kp T.b_aO .nil aP (aa (aw (au K rfl) (pv 4) ag) ae))) (aj (xC (i:=6) sc_aI.nd rfl rfl rfl T.mg_a5 (fun _ _=>(aj (aZ (eR (pv 1) T.cl_ak T.m_aJ GX2_Chestlay (rmo hr) T.b_aJ .nil AA (aa (aw (au K rfl) (pv 4) ag) (aa (pv 5) ae)))))) rfl T.mg_af T.x_af BF BF (fun _=>(aa ao ae)) (fun _ _ _ h=>h _) (fun _ _ _ _ _ _ _ _ _ _ I a b c d e f g h i j k l m=>x5 I a b c d e f g h i j k l m)))))) fun _ _=>aF (aZ (aT (pv 1) T.cl_ak T.m_ay (ok_ay T).up (rmo hr) T.b_ay .nil aP)) fun _ _=>cH (az (pv 1)) fun _ _=>?_;left;intro p dx np ndx nex;have sI:ai H (upd (upd H dx (.own p)) p (.ins t.a_ak dx [])):=(ai.new ndx).later np;refine ⟨p,dx,rfl,af,fun la lb HD mD nla nlb ch=>⟨rfl,?_⟩⟩;have sD:ai H HD:=jf sI mD (fun x hx=>by rw [HL.mp hx]; exact np);have nla':H la=none:=sI.free nla;have lane:∀ {H':Hp} {x:ς},HD x=none->¬ x=la:=fun {H'} {x} h z=>by
   obtain ⟨ds,f,_⟩:=ch.pa;rw [z,f] at h; cases h
  clear mD nlb nex sI nla ndx;apply dz (fun σ' H'=>∃ (lr:ς) (rs:List Str),σ'=[some (.str y),some (.ref p),some (.ref lr),none,none,none,none]/\ai HD H'/\HD lr=none/\H' lr=some (.lst (rs.map V.str))/\ip y=goR [] rs/\wts rs<=3701/\∀ r∈rs,TxN 3700 r) ?_ ?_
  ·left;by_cases c0:y=""
   ·rw [aX c0];apply nwL fun lr H1 slr nlr elr=>?_;left;exact ⟨lr,[],rfl,slr,nlr,elr,by unfold ip; rw [if_pos c0]; rfl,by decide,fun r h=>by cases h⟩
   ·rw [bI c0];apply ⟨rfl,?_⟩;apply ⟨y,"\n",rfl,rfl,by decide +kernel,BA ty.1 (by decide),fun lr nlr=>?_⟩;left;exact ⟨lr,_,rfl,ai.new nlr,nlr,af,by unfold ip; rw [if_neg c0],by rw [tS (by decide +kernel)]; have:=ty.1; omega,fun r h=>⟨BA (lP h) ty.1,fun c hc=>ty.2 c (jy h c hc)⟩⟩
  rintro σ1 H1 ⟨lr,rs,rfl,s1,nlr,er,hgo,hwt,htx⟩;have ch:=ch.mono s1;have s1:=sD.trans s1
  have nlrS:lr∉[p,la]:=by
   obtain ⟨dx0,fs0,d0,f1,_⟩:=ch.ob;obtain ⟨ds0,f2,_⟩:=ch.pa;intro h;symm at h;rcases h with h | h
   ·rw [h,f1] at er; cases er
   ·exact lane (H':=H1) nlr h
  apply ⟨⟨_,SqL.of er⟩,?_⟩;refine gD (K:=K) (a:=lr) (xs:=rs.map V.str) (fun i σ' H'=>∃ (o3 o4 o5:Option V) (lb:ς) (past:List Bk) (acc:Bk),σ'=[some (.str y),some (.ref p),some (.ref lr),o3,o4,o5,none]/\ai H H'/\H' lr=some (.lst (rs.map V.str))/\dF t.a_ai t.a_ak H' p la lb past acc []/\past.length<=i/\acc.length=i/\fc acc/\acc.map fM=rs.take i/\goR [] rs=goR acc (rs.drop i))
   ⟨none,none,none,lb,[],[],rfl,s1,er,ch,Ω _,rfl,fc.nil,rfl,rfl⟩ (fun i σ' H' _ ⟨_,_,_,_,_,_,_,_,e,_⟩=>SqL.of e) ?_ ?_
  ·rintro i v σ' H2 hv ⟨o3,o4,o5,lb,past,acc,rfl,s2,er2,ch2,lp,la2,gb,ea,eg⟩;rw [BD] at hv;obtain ⟨r,hr,rfl⟩:=JW.mp hv;have hi:=(F_.mp hr).1;have tr:=htx r (H_ hr)
   have small:acc.length<=470:=by
    have h1:=rT gb;rw [ea] at h1;have h2:=dE rs i;omega
   have hd:rs.drop i=r::rs.drop (i+1):=by
    have:=LI hi
    rw [(F_.mp hr).2] at this;exact this
   rw [hd] at eg;have ht:rs.take (i+1)=rs.take i++[r]:=by rw [Jx,hr]; rfl
   have hrow:=wq r;obtain ⟨t1,t2⟩:=CD tr;have bad:goR acc (r::rs.drop (i+1))=none->∀ H',ai H H'->E (.ref t.a_af) none H':=fun z=>by
    rcases k with ⟨_,k⟩ | ⟨bk,q,_⟩
    ·exact k
    ·rw [hgo,eg,z] at q; cases q
   apply ⟨rfl,?_⟩;apply ⟨r," ",rfl,rfl,by decide +kernel,BA tr.1 (by decide),fun pt npt=>?_⟩;generalize (Txt.partition r " ").1=p1 at hrow t1 ⊢;generalize (Txt.partition r " ").2.2=p2 at hrow t2 ⊢;have sp:=ai.new (o:=HO.tup [V.str p1,V.str (Txt.partition r " ").2.1,V.str p2]) npt;have ep:=af (H:=H2) (a:=pt) (o:=HO.tup [V.str p1,V.str (Txt.partition r " ").2.1,V.str p2]);generalize upd H2 pt (HO.tup [V.str p1,V.str (Txt.partition r " ").2.1,V.str p2])=H3 at sp ep ⊢;have s3:=s2.trans sp;apply aq (SqT.of ep) (v:=.str p2) rfl ?_;apply ⟨p2,rfl,t2.tx (by decide),?_⟩
   cases hc:rdW p2 with
   | none =>
    rw [hc] at hrow;exact .inl ⟨rfl,fun H4 s4=>bad (by unfold goR; rw [hrow]; rfl) _ (s3.trans s4)⟩
   | some c =>
    rw [hc] at hrow;obtain ⟨_,ok⟩:=fL (nc:=(p1,c)) hrow;refine .inr ⟨c.1,c.2.1,c.2.2,rfl,fun x H4 s4 hC=>?_⟩;have ch4:=ch2.mono (sp.trans s4);have s5:=s3.trans s4;obtain ⟨dx4,fs4,d4,f1,cl,_⟩:=ch4.ob;apply xM ?_;apply ax f1 (cl.no _ (by decide +kernel)) ?_;apply aq (SqT.of (s4 _ _ ep)) (v:=.str p1) rfl ?_;left;have go1:∀ (z:¬ cO acc p1=""),goR acc (r::rs.drop (i+1))=none:=fun z=>by
     unfold goR;rw [hrow]
     show (if cO acc p1="" then _ else none)=none
     rw [if_neg z]
    refine ⟨p,la,lb,past,[],acc,p1,.ref x,c,rfl,BA t1.1 (by decide),ch4,by omega,by omega,⟨x,rfl,hC,ok⟩,fun hn H6 s6=>?_,fun hn hg H6 s6=>?_,fun hn hg lb' H6 m6 nl6 ch6=>?_⟩
    ·exact ⟨t.a_ad,rfl,T.cat_ad,T.x_ad,bad (go1 (by unfold cO; rw [if_neg (by rw [hn]; decide)]; decide +kernel)) _ (s5.trans s6)⟩
    ·exact ⟨t.a_aj,rfl,T.cat_aj,T.x_aj,bad (go1 (by unfold cO; rw [if_pos hn,if_pos hg]; decide +kernel)) _ (s5.trans s6)⟩
    ·have nw:cO acc p1="":=by unfold cO; rw [if_pos hn,hg,if_neg (by decide)]
     have gn:=gb.snoc (nc:=(p1,c)) nw ok;rw [xD c nw] at ch6;apply ⟨_,_,_,lb',past++[acc],acc++[(p1,c)],rfl,jf s5 m6 (fun z hz=>?_),m6 _ _ (s4 _ _ (sp _ _ er2)) nlrS,ch6,by rw [Av,HU]; omega,by rw [Av,HU,la2],gn,?_,?_⟩
     ·symm at hz;rcases hz with rfl | rfl
      ·exact np
      ·exact nla'
     ·rw [HN,ea,ht,K8,(fL hrow).1]
     ·rw [eg]
      conv=>lhs; unfold goR
      rw [hrow]
      show (if cO acc p1="" then _ else none)=_
      rw [if_pos nw]
  ·rintro σ' H2 ⟨o3,o4,o5,lb,past,acc,rfl,s2,er2,ch2,lp,la2,gb,ea,eg⟩;rw [ξ,List.drop_length] at eg;obtain ⟨dx4,fs4,d4,f1,cl,_⟩:=ch2.ob;apply ax f1 (cl.no _ (by decide +kernel)) ?_;apply ⟨p,la,lb,past,[],acc,rfl,ch2,fun la' lb' H3 m3 ch3=>?_⟩;left;rcases k with ⟨q,_⟩ | ⟨bk,q,k⟩
   ·rw [hgo,eg] at q; cases q
   ·rw [hgo,eg] at q
    cases q;exact k p la' lb' H3 (jf s2 m3 fun z hz=>by rw [HL.mp hz]; exact np) ch3
theorem FT {a b c:Str} (h:¬ (a="0"\/a="1")):clW [a,b,c]=none:=if_neg h
theorem DN {a b c:Str} (h:lw b=none):clW [a,b,c]=none:=by
 unfold clW;dsimp only;rw [h]
 split
 ·cases lw c<;>rfl
 ·rfl
theorem FU {a b c:Str} (h:lw c=none):clW [a,b,c]=none:=by
 unfold clW;dsimp only;rw [h]
 split
 ·cases lw b<;>rfl
 ·rfl
theorem FW {a b c:Str} {cs rs:List Int} (ha:a="0"\/a="1") (hb:lw b=some cs) (hc:lw c=some rs):clW [a,b,c]=some (if a="0" then (0:Int) else 1,cs,rs):=by
 unfold clW;dsimp only;rw [if_pos ha,hb,hc]
theorem FV {ws:List Str} (h:ws.length≠3):clW ws=none:=by
 unfold clW
 split
 ·exact absurd rfl h
 ·rfl
def sp_aQ:Sp:=fun vs H Q _=>∃ x:Str,vs=[.str x]/\Tx x/\(lw x=none->∀ H',ai H H'->Q .non H')/\∀ bs,lw x=some bs->∀ l H',ai H H'->H l=none->H' l=some (.lst (bs.map V.int))->Q (.ref l) H'
theorem ok_aQ (T:Txt K mg t):aR P w K mg base CX0 1 t.f_aQ t.d_aQ ["_law_word"] sp_aQ:=by
 refine T.F_aQ.ok sc_aQ (by walk_at "l") (fun _ _ _ s H vs Q E hr h=>?_)
 ·obtain ⟨x,rfl,tx,k1,k2⟩:=h;refine aF (aK (aN bD (pv 0) ao) (aj (az (bO ae))) aB) fun _ _=>aF (aK (PW.pt (fK (aN bD (pv 0) ao) (fK (aN kK (av gM rfl T.no_len (by rfl) (aa (pv 0) ae)) ag) (eF (dR (cm (av (gL K rfl rfl) rfl T.no_all (by rfl) (aa (cT (N:=["_law_sign"]) (cap:=[none]) rfl ⟨rfl,rfl,rfl,rfl,rfl,rfl⟩ (jw (pv 0)) (fun _ _ _=>(aY (i:=0) (show (["_law_sign"]:List Str).Nodup by decide +kernel) rfl (IQ rfl))) (fun _ _ _=>cD) (fun _ _ _=>(mJ lG (pv 0) ao rfl))) ae)))))))) (aj (az eU)) aB) fun _ _=>cH (az (cT (N:=["_law_sign"]) (cap:=[none]) rfl ⟨rfl,rfl,rfl,rfl,rfl,rfl⟩ (jw (pv 0)) (fun _ _ _=>(aY (i:=0) (show (["_law_sign"]:List Str).Nodup by decide +kernel) rfl (IQ rfl))) (fun _ _ _=>cD) (fun _ _ _=>(aW mw rfl T.no_int (by rfl) (aa (pv 0) ae))))) fun _ _=>?_;have hl:x.cps.toList.length=x.length:=HK;left;by_cases c1:x="-"
  ·rw [aX c1];apply nwL fun l H1 sl nl el=>?_;exact k2 [] (uH (by unfold fy; rw [if_pos c1]) (by decide)) l H1 sl nl el
  ·rw [bI c1];left;by_cases c2:x=""
   ·rw [aX c2];apply k1 (uG ?_) _ (ai.refl _);unfold fy;rw [if_neg c1,c2,if_neg (by decide +kernel)]
   ·rw [bI c2];have ne:x.cps.toList≠[]:=fun z=>c2 (wO (by rw [z]; rfl))
    have hS:jO x "01"=x.cps.toList.all fun c=>decide (c∈("01":Str).cps.toList):=by
     unfold jO
     cases q:x.cps.toList with
     | nil=>exact absurd q ne
     | cons c r=>rfl
    apply hG tx.line ?_;left;by_cases c3:(39:Int)<(x.length:Nat)
    ·rw [aX c3];apply k1 ?_ _ (ai.refl _)
     cases hb:fy x with
     | none=>exact uG hb
     | some bs =>
      refine vU hb fun z=>?_;unfold fy at hb;rw [if_neg c1] at hb;by_cases d:jO x "01"=true
      ·rw [if_pos d] at hb; cases hb; rw [ξ] at z; omega
      ·rw [if_neg d] at hb; cases hb
    ·rw [bI c3];apply ⟨x,rfl,fun l nl=>?_⟩;refine dU ((x.cps.toList.map fun c=>decide (c∈("01":Str).cps.toList)).map V.bl) (by rw [ξ,ξ,HK]) tx.size nl (fun i c v o H' Q' hc hy s5 q=>?_) (fun H1 s1 e1=>?_)
     ·rw [BD,BD,IK,hc] at hy
      cases hy;apply ⟨_,_,rfl,rfl,?_⟩;rw [qZ];exact q H' (ai.refl _)
     ·apply iL e1 ?_;rw [K1];rw [show (x.cps.toList.all (id∘fun c=>decide (c∈("01":Str).cps.toList)))=jO x "01" from hS.symm]
      cases d:jO x "01" with
      | false =>
       apply k1 (uG ?_) _ s1;unfold fy;rw [if_neg c1,d,if_neg (by decide)]
      | true =>
       apply ⟨x,rfl,fun l2 n2=>?_⟩;refine dU ((x.cps.toList.map fun (c:Nat)=>(c:Int) - 48).map V.int) (by rw [ξ,ξ,HK]) tx.size n2 (fun i c v o H' Q' hc hy s5 q=>?_) (fun H2 s2 e2=>?_)
       ·rw [BD,BD,IK,hc] at hy
        cases hy;apply ⟨_,_,rfl,uw (jo d c (by rw [<- IK] at hc; exact H_ hc)),by show 1<=640; decide,?_⟩;exact q H' (ai.refl _)
       ·left;exact k2 _ (uH (by unfold fy; rw [if_neg c1,if_pos d]) (by rw [ξ]; omega)) l2 H2 (s1.trans s2) (s1.free n2) e2
def sp_aD:Sp:=fun vs H Q _=>∃ (l:ς) (ws:List Str),vs=[.ref l]/\H l=some (.lst (ws.map V.str))/\(∀ y∈ws,Tx y)/\(clW ws=none->∀ H',ai H H'->Q .non H') /\
 ∀ c,clW ws=some c->∀ q a b H',ai H H'->(H q=none/\H a=none/\H b=none)->H' q=some (.tup [.int c.1,.ref a,.ref b])->H' a=some (.lst (c.2.1.map V.int))->H' b=some (.lst (c.2.2.map V.int))->Q (.ref q) H'
theorem ok_aD (T:Txt K mg t):aR P w K mg base CX0 2 t.f_aD t.d_aD ["_law_words"] sp_aD:=by
  refine T.F_aD.ok sc_aD (fun vs H Q E h=>?_) (fun cdv A outer s H vs Q E hr h=>?_)
  · obtain ⟨l,ws,rfl,_⟩:=h; rfl
  · obtain ⟨l1,ws,rfl,e1,tx,k1,k2⟩:=h
    refine aF (aK (PW.pt (fK (aN gG (av (bJ K rfl) rfl T.no_len (by rfl) (aa (pv 0) ae)) ag) (eF (fh (js hr.units) (aw (aG K rfl) (pv 0) ag) (bh (aa ao (aa ao ae))) rfl)))) (aj (az eU)) aB) fun _ _=>aF (aI 1 sc_aD.nd (aD (ok_aQ T) (rmo hr) rfl T.mg_aQ T.F_aQ.kp T.b_aQ .nil aV (aa (aw (aG K rfl) (pv 0) ag) ae))) fun _ _=>aF (aI 2 sc_aD.nd (aD (ok_aQ T) (rmo hr) rfl T.mg_aQ T.F_aQ.kp T.b_aQ .nil aV (aa (aw (aG K rfl) (pv 0) ag) ae))) fun _ _=>aF (aK (PW.pt (fK (aN rJ (pv 1) eU) (eF (aN rJ (pv 2) eU)))) (aj (az eU)) aB) fun _ _=>cH (az (bh (aa (aW mw rfl T.no_int (by rfl) (aa (aw (aG K rfl) (pv 0) ag) ae)) (aa (pv 1) (aa (pv 2) ae))))) fun _ _=>?_;apply bM e1 ?_;rw [ξ];left;by_cases c3:ws.length=3
    rotate_left
    · rw [bI (show ¬ ((ws.length:Nat):Int)=3 by omega)]
      left;exact k1 (FV c3) _ (ai.refl _)
    rw [aX (show ((ws.length:Nat):Int)=3 by omega)];obtain ⟨a,b,c,rfl⟩:=vB c3;have w1:Tx a:=tx a (by simp);have w2:Tx b:=tx b (by simp);have w3:Tx c:=tx c (by simp);apply aS (SqL.of e1) (v:=.str a) rfl ?_;apply nwT fun tp H2 stp ntp etp=>?_;apply iO etp (by decide +kernel) (by decide +kernel) w1.ok ?_;by_cases ca:a="0"\/a="1"
    rotate_left
    · rw [show (!(decide ("0"=a)||decide ("1"=a)))=true by
        rw [bI (fun z=>ca (.inl z.symm)),bI (fun z=>ca (.inr z.symm))]; rfl]
      left;exact k1 (FT ca) _ stp
    rw [show (!(decide ("0"=a)||decide ("1"=a)))=false by rcases ca with rfl | rfl<;>decide +kernel];left;have e2:=stp _ _ e1;refine aS (SqL.of e2) (v:=.str b) rfl ?_;apply ⟨b,rfl,w2,fun hb H3 s3=>?_,fun cs hb lc H3 s3 nc ec=>?_⟩
    · apply aS (SqL.of (s3 _ _ e2)) (v:=.str c) rfl ?_;apply ⟨c,rfl,w3,fun hc H4 s4=>?_,fun rs hc lr H4 s4 _ er=>?_⟩
      · apply ⟨rfl,_,rfl,?_⟩;rw [aX rfl];left;exact k1 (DN hb) _ ((stp.trans s3).trans s4)
      · apply ⟨rfl,_,rfl,?_⟩;rw [aX rfl];left;exact k1 (DN hb) _ ((stp.trans s3).trans s4)
    · apply aS (SqL.of (s3 _ _ e2)) (v:=.str c) rfl ?_;apply ⟨c,rfl,w3,fun hc H4 s4=>?_,fun rs hc lr H4 s4 nr er=>?_⟩
      · apply ⟨rfl,_,rfl,?_⟩;rw [bI (by intro z; cases z)];apply ⟨rfl,_,rfl,?_⟩;rw [aX rfl];left;exact k1 (FU hc) _ ((stp.trans s3).trans s4)
      · apply ⟨rfl,_,rfl,?_⟩;rw [bI (by intro z; cases z)];apply ⟨rfl,_,rfl,?_⟩;rw [bI (by intro z; cases z)];left;have e4:=(s3.trans s4) _ _ e2;refine aS (SqL.of e4) (v:=.str a) rfl ?_;apply ⟨a,_,rfl,(q0 ca).1,(q0 ca).2,?_⟩;have y:=FW ca hb hc;generalize (if a="0" then (0:Int) else 1)=sv at y ⊢;apply nwT fun tq H5 stq ntq etq=>?_;have s24:=(stp.trans s3).trans s4;exact k2 (sv,cs,rs) y tq lc lr H5 (s24.trans stq) ⟨s24.free ntq,stp.free nc,(stp.trans s3).free nr⟩ etq (stq _ _ (s4 _ _ ec)) (stq _ _ er)
noncomputable def Ds (nc:Str×Clo):PyData:=.tuple [.str nc.1,xB nc.2.1 nc.2.2.1 nc.2.2.2]
noncomputable def uu (y:Str):PyData:=match ip y with
 | none=>.tuple [.str "no",.bool true,.list []]
 | some bk=>.tuple [.str "yes",.list (bk.map Ds),.str y]
theorem qW {y:Str} (h:ip y=none):uu y=.tuple [.str "no",.bool true,.list []]:=by unfold uu; rw [h]
theorem kz {y:Str} {bk:Bk} (h:ip y=some bk):uu y=.tuple [.str "yes",.list (bk.map Ds),.str y]:=by unfold uu; rw [h]
theorem zO {bk:Bk} {n:Nat} (ty:TxN n (chT bk)):wts (bk.map fM)<=n+1:=by
 by_cases z:bk=[]
 ·rw [z]; exact Hs _
 ·have h3:=kD (s:="\n") (by decide +kernel) (ps:=bk.map fM) (fun q=>z (Od.mp q));rw [<- qI] at h3;have h4:(chT bk).length+1=wts (bk.map fM):=h3;have:=ty.1
  omega
theorem tZ {y:Str} {bk:Bk} (h:ip y=some bk) (ty:TxN 3700 y):wts (bk.map fM)<=3702/\bk.length<=470:=by
 obtain ⟨g,e⟩:=lH h;have h1:=rT g;rw [<- e] at ty;have h2:=zO ty;omega
def Ok6:JB->Prop:=OkS (OkS (OkS Ok3))
theorem yI (T:Txt K mg t):aR P w K mg base CX0 6 t.f_bn t.d_bn ["_law_told_here","_law_due"] (mO Ok6):=fu T (fu T (fu T (ok_bn T)))
theorem Cm {y:Str} (ty:TxN 3700 y):Ok6 (uu y):=by
 have vB:∀ {a b c:JB} {S:JB->Prop},S a->S b->S c->OkS S (.tuple [a,b,c]):=fun ha hb hc=>.inr (.inr ⟨_,rfl,by show 3<=1000; decide,fun e he=>by
  symm at he;rcases he with rfl | rfl | rfl
  ·exact ha
  ·exact hb
  ·exact hc⟩)
 cases h:ip y with
 | none =>
  rw [qW h];exact vB (mI (by decide +kernel)) (As _) (.inr (.inl ⟨[],rfl,by show 0<=1000; decide,fun e he=>by cases he⟩))
 | some bk =>
  rw [kz h];have hl:=(tZ h ty).2;have g:=(lH h).1;refine vB (mI (by decide +kernel)) (.inr (.inl ⟨_,rfl,by rw [ξ]; omega,fun e he=>?_⟩)) (mI (ty.tx (by decide)).ok);obtain ⟨nc,hm,rfl⟩:=Hv.mp he;have o:=g.ok nc hm;refine .inr (.inr ⟨_,rfl,by show 2<=1000; decide,fun e he=>?_⟩);symm at he;rcases he with rfl | rfl
  ·exact mI ((mH (g.ko.1 _ (Hv.mpr ⟨nc,hm,rfl⟩))).tx (by decide)).ok
  ·exact AK o.2.1 o.2.2
def zC (S:List ς) (H:Hp) (v:V) (nc:Str×Clo):Prop:=∃ a q x y,v=.ref a/\H a=some (.tup [.str nc.1,.ref q])/\H q=some (.tup [.int nc.2.1,.ref x,.ref y])/\H x=some (.lst (nc.2.2.1.map V.int))/\H y=some (.lst (nc.2.2.2.map V.int))/\(a∉S/\q∉S)/\x∉S/\y∉S
theorem zC.but {S:List ς} {H H':Hp} {v:V} {nc:Str×Clo} (h:zC S H v nc) (m:bX S H H'):zC S H' v nc:=by
 obtain ⟨a,q,x,y,e,h1,h2,h3,h4,⟨n1,n2⟩,n3,n4⟩:=h;exact ⟨a,q,x,y,e,m _ _ h1 n1,m _ _ h2 n2,m _ _ h3 n3,m _ _ h4 n4,⟨n1,n2⟩,n3,n4⟩
def RwP (S:List ς) (H:Hp) (xs:List V) (bk:Bk):Prop:=Paired (zC S H) xs bk
theorem RwP.but {S:List ς} {H H':Hp} {xs:List V} {bk:Bk} (h:RwP S H xs bk) (m:bX S H H'):RwP S H' xs bk:=Paired.mapP h fun _ _ r=>r.but m
theorem CN {α β:Type} {F:α->β->Prop} {xs:List α} {ys:List β} {a:α} {b:β} (h:Paired F xs ys) (f:F a b):Paired F (xs++[a]) (ys++[b]):=by
 induction h with
 | nil=>exact .cons f .nil
 | cons r _ ih=>exact .cons r ih
theorem ES {α β:Type} {F:α->β->Prop} {xs:List α} {ys:List β} (h:Paired F xs ys):xs.length=ys.length:=by
 induction h with
 | nil=>rfl
 | cons _ _ ih=>rw [HM,HM,ih]
theorem RwP.rep {S:List ς} {H:Hp} {xs:List V} {bk:Bk} (h:RwP S H xs bk) {l:ς} (e:H l=some (.lst xs)):Rep H (.list (bk.map Ds)) (.ref l):=by
 simp only [Rep];refine ⟨l,_,rfl,e,?_⟩;clear e
 induction h with
 | nil=>simp [RepL]
 | cons r _ ih =>
  obtain ⟨a,q,x,y,rfl,h1,h2,h3,h4,_⟩:=r;simp only [Ho,RepL];refine ⟨_,_,rfl,?_,ih⟩;simp only [Ds,Rep,RepL];exact ⟨a,_,rfl,h1,_,_,rfl,rfl,_,_,rfl,yO h2 h3 h4,rfl⟩
theorem Bf {H:Hp} {tp l:ς} (h:H tp=some (.tup [.str "no",.bl true,.ref l])) (e:H l=some (.lst [])):Rep H (.tuple [.str "no",.bool true,.list []]) (.ref tp):=by
 simp only [Rep,RepL];exact ⟨tp,_,rfl,h,_,_,rfl,rfl,_,_,rfl,rfl,_,_,rfl,⟨l,_,rfl,e,rfl⟩,rfl⟩
theorem rS {H:Hp} {tp l:ς} {d:JB} {y:Str} (h:H tp=some (.tup [.str "yes",.ref l,.str y])) (e:Rep H d (.ref l)):Rep H (.tuple [.str "yes",d,.str y]) (.ref tp):=by
 simp only [Rep,RepL];exact ⟨tp,_,rfl,h,_,_,rfl,rfl,_,_,rfl,e,_,_,rfl,rfl,rfl⟩
def sp_bd:Sp:=fun vs H Q _=>∃ y:Str,vs=[.str y]/\TxN 3700 y/\∀ tp H',ai H H'->Rep H' (uu y) (.ref tp)->Q (.ref tp) H'
theorem ok_bd (T:Txt K mg t):aR P w K mg base CX0 3 t.f_bd t.d_bd ["_law_text"] sp_bd:=by
 refine T.F_bd.ok sc_bd (by walk_at "l") (fun _ _ _ s H vs Q E hr h=>?_)
 ·obtain ⟨y,rfl,ty,k⟩:=h;refine aF (aI 1 sc_bd.nd (bO ae)) fun _ _=>aF (aI 2 sc_bd.nd (bO ae)) fun _ _=>aF (aK (aN bD (pv 0) ao) (aj (az (bh (aa ao (aa (bO ae) (aa ao ae)))))) aB) fun _ _=>aF (fG Iv rfl (dh (cQ Hu JV JU gF (pv 0) (aa ao ae))) (aY (i:=3) sc_bd.nd rfl (IQ rfl)) (aH (aI 4 sc_bd.nd (cQ Hu JV JU gF (pv 3) (aa ao ae))) (aH (aI 5 sc_bd.nd (aD (ok_aD T) (rmo hr) rfl T.mg_aD T.F_aD.kp T.b_aD .nil aV (aa (aU (bE K rfl) (pv 4) (bz ag) bu) ae))) (aH (aK (PW.pt (fK (aN rJ (pv 5) eU) (eF (aN gG (aD (ok_aE T) (rmo hr) rfl T.mg_aE T.F_aE.kp T.b_aE .nil aV (aa (pv 2) (aa (aw (aG K rfl) (pv 4) ag) ae))) ao)))) (aj (az (bh (aa ao (aa AB (aa (bO ae) ae)))))) aB) (aH (aZ (cQ HV HZ HY bS (pv 2) (aa (aw (aG K rfl) (pv 4) ag) ae))) (aj (aZ (cQ HV HZ HY bS (pv 1) (aa (bh (aa (aw (aG K rfl) (pv 4) ag) (aa (pv 5) ae))) ae))))))))) fun _ _=>cH (az (bh (aa ao (aa (pv 1) (aa (pv 0) ae))))) fun _ _=>?_;have no:ip y=none->∀ tp l H',ai H H'->H' tp=some (.tup [.str "no",.bl true,.ref l])->H' l=some (.lst [])->Q (.ref tp) H':=fun hn tp l H' s' e' el=>k tp H' s' (by rw [qW hn]; exact Bf e' el);apply nwL fun lr H1 slr nlr elr=>?_;apply nwL fun ln H2 sln nln eln=>?_;have nln0:=slr.free nln;have rn:lr≠ln:=fun z=>by rw [<- z,elr] at nln; cases nln
  have elr:=sln _ _ elr;have s2:=slr.trans sln;left;by_cases c0:y=""
  ·rw [aX c0];apply nwL fun le H3 sle nle ele=>?_;apply nwT fun tq H4 stq ntq etq=>?_;refine k tq H4 ((s2.trans sle).trans stq) ?_;rw [kz (bk:=[]) (by unfold ip; rw [if_pos c0]),c0];exact rS etq (RwP.rep (S:=[]) .nil (stq _ _ ele))
  rw [bI c0];apply ⟨rfl,?_⟩;apply ⟨y,"\n",rfl,rfl,by decide +kernel,BA ty.1 (by decide),fun l1 n1=>?_⟩;have hgo:ip y=goR [] (Txt.split y "\n"):=by unfold ip; rw [if_neg c0]
  have hwt:wts (Txt.split y "\n")<=3701:=by rw [tS (by decide +kernel)]; have:=ty.1; omega
  have htx:∀ r∈Txt.split y "\n",TxN 3700 r:=fun r h=>⟨BA (lP h) ty.1,fun c hc=>ty.2 c (jy h c hc)⟩
  have s3:=ai.new (o:=HO.lst ((Txt.split y "\n").map V.str)) n1;have e3:=af (H:=H2) (a:=l1) (o:=HO.lst ((Txt.split y "\n").map V.str));generalize upd H2 l1 (HO.lst ((Txt.split y "\n").map V.str))=H3 at s3 e3 ⊢;generalize Txt.split y "\n"=rs at hgo hwt htx e3;have nl1:l1∉[ln,lr]:=fun h=>by
   symm at h;rcases h with h | h
   ·rw [h,eln] at n1; cases n1
   ·rw [h,elr] at n1; cases n1
  apply ⟨⟨_,SqL.of e3⟩,?_⟩;refine gD (K:=K) (a:=l1) (xs:=rs.map V.str) (fun i σ' H'=>∃ (o3 o4 o5:Option V) (xs:List V) (acc:Bk),σ'=[some (.str y),some (.ref lr),some (.ref ln),o3,o4,o5]/\ai H H'/\H' l1=some (.lst (rs.map V.str))/\H' lr=some (.lst xs)/\H' ln=some (.lst (acc.map fun nc=>V.str nc.1))/\RwP [ln,lr] H' xs acc/\fc acc/\acc.map fM=rs.take i/\goR [] rs=goR acc (rs.drop i))
   ⟨none,none,none,[],[],rfl,s2.trans s3,e3,s3 _ _ elr,s3 _ _ eln,.nil,fc.nil,rfl,rfl⟩ (fun i σ' H' _ ⟨_,_,_,_,_,_,_,e,_⟩=>SqL.of e) ?_ ?_
  ·rintro i v σ' H4 hv ⟨o3,o4,o5,xs,acc,rfl,s4,e4,er4,en4,pw,gb,ea,eg⟩;rw [BD] at hv;obtain ⟨r,hr,rfl⟩:=JW.mp hv;have hi:=(F_.mp hr).1;have tr:=htx r (H_ hr);have lx:=ES pw
   have small:acc.length<=470:=by
    have h1:=rT gb;rw [ea] at h1;have h2:=dE rs i;omega
   have hd:rs.drop i=r::rs.drop (i+1):=by
    have:=LI hi
    rw [(F_.mp hr).2] at this;exact this
   rw [hd] at eg;have ht:rs.take (i+1)=rs.take i++[r]:=by rw [Jx,hr]; rfl
   have bad:goR acc (r::rs.drop (i+1))=none->ip y=none:=fun z=>by rw [hgo,eg,z]
   obtain ⟨wa,ws,hw⟩:∃ a ws,Txt.split r " "=a::ws:=by
    cases q:Txt.split r " " with
    | nil=>exact absurd q (gK _ _)
    | cons a ws=>exact ⟨a,ws,rfl⟩
   have hrow:lZ r=(clW ws).map fun c=>(wa,c):=by unfold lZ; rw [hw]
   have tw:∀ u∈wa::ws,Tx u:=fun u hu=>(tr.tx (by decide)).word (y:=" ") (by rw [hw]; exact hu);have twa:=tw wa Θ;apply ⟨rfl,?_⟩;apply ⟨r," ",rfl,rfl,by decide +kernel,BA tr.1 (by decide),fun l8 n8=>?_⟩;have s8:=ai.new (o:=HO.lst ((Txt.split r " ").map V.str)) n8;have e8:=af (H:=H4) (a:=l8) (o:=HO.lst ((Txt.split r " ").map V.str));generalize upd H4 l8 (HO.lst ((Txt.split r " ").map V.str))=H5 at s8 e8 ⊢;rw [hw] at e8;apply ed e8 fun l9 H6 s9 _ e9=>?_;rw [show (some 1:Option Int)=some ((1:Nat):Int) from rfl,fq] at e9;apply ⟨l9,ws,rfl,e9,fun u hu=>tw u (Au _ hu),fun hn H7 s7=>?_,fun c hc q a b H7 s7 fr eq' ex ey=>?_⟩
   ·have s47:=s8.trans (s9.trans s7);apply ⟨rfl,_,rfl,?_⟩;rw [aX rfl];apply nwL fun le H8 sle nle ele=>?_;apply nwT fun tq H9 stq ntq etq=>?_;exact no (bad (by unfold goR; rw [hrow,hn]; rfl)) tq le H9 (s4.trans (s47.trans (sle.trans stq))) etq (stq _ _ ele)
   ·have s47:=s8.trans (s9.trans s7);have s57:=s9.trans s7;apply ⟨rfl,_,rfl,?_⟩;rw [bI (by intro z; cases z)];apply aS (SqL.of (s57 _ _ e8)) (v:=.str wa) (show atI _ ((0:Nat):Int)=_ from cK rfl) ?_;apply ⟨ln,wa,acc,rfl,.inr ⟨s47 _ _ en4,fun nc hm=>((mH (gb.ko.1 _ (Hv.mpr ⟨nc,hm,rfl⟩))).tx (by decide)).ok,twa.ok⟩,twa.size,fun H8 s8'=>?_⟩;have s48:=s47.trans s8';have s58:=s57.trans s8';left
    have gor:goR acc (r::rs.drop (i+1))=if cO acc wa="" then goR (acc++[(wa,c)]) (rs.drop (i+1)) else none:=by
     conv=>lhs; unfold goR
     rw [hrow,hc];rfl
    refine jT ?_;by_cases nw:cO acc wa=""
    rotate_left
    ·rw [bI nw];apply nwL fun le H9 sle nle ele=>?_;apply nwT fun tq H10 stq ntq etq=>?_;exact no (bad (by rw [gor,if_neg nw])) tq le H10 (s4.trans (s48.trans (sle.trans stq))) etq (stq _ _ ele)
    rw [aX nw];rw [if_pos nw] at gor;left;have n48:∀ {x:ς},H6 x=none->x∉[ln,lr]:=fun {x} hx h=>by
     have s46:=s8.trans s9;symm at h;rcases h with h | h
     ·rw [h,s46 _ _ en4] at hx; cases hx
     ·rw [h,s46 _ _ er4] at hx; cases hx
    have en8:=s48 _ _ en4;refine cV en8 ?_;apply aS (SqL.of (s58 _ _ e8)) (v:=.str wa) (show atI _ ((0:Nat):Int)=_ from cK rfl) ?_;apply bT en8 (aQ (by rw [ξ]; omega)) ?_;have m9:bX [ln,lr] H8 (upd H8 ln (.lst ((acc.map fun nc=>V.str nc.1)++[V.str wa]))):=(bX.refl _ _).upd (by simp);have g9:=af (H:=H8) (a:=ln) (o:=HO.lst ((acc.map fun nc=>V.str nc.1)++[V.str wa]));have r9:upd H8 ln (.lst ((acc.map fun nc=>V.str nc.1)++[V.str wa])) lr=some (.lst xs):=by rw [aE rn]; exact s48 _ _ er4
    have s9':ai H (upd H8 ln (.lst ((acc.map fun nc=>V.str nc.1)++[V.str wa]))):=(s4.trans s48).later nln0;have l9':ln≠l8:=fun z=>by rw [<- z,en4] at n8; cases n8
    have e8':upd H8 ln (.lst ((acc.map fun nc=>V.str nc.1)++[V.str wa])) l8=some (.lst ((wa::ws).map V.str)):=by rw [aE (IL l9')]; exact s58 _ _ e8
    generalize upd H8 ln (.lst ((acc.map fun nc=>V.str nc.1)++[V.str wa]))=H9 at m9 g9 r9 s9' e8' ⊢;apply cV r9 ?_;apply aS (SqL.of e8') (v:=.str wa) (show atI _ ((0:Nat):Int)=_ from cK rfl) ?_;apply nwT fun b3 H10 sb3 nb3 eb3=>?_;left;have r10:=sb3 _ _ r9;refine bT r10 (aQ (by omega)) ?_;have mA:=((m9.trans (sb3.butL _)).upd (p:=lr) (o:=.lst (xs++[.ref b3])) (by simp))
    have nb3:b3∉[ln,lr]:=fun h=>by
     symm at h;rcases h with h | h
     ·rw [h,g9] at nb3; cases nb3
     ·rw [h,r9] at nb3; cases nb3
    have mB:bX [ln,lr] H10 (upd H10 lr (.lst (xs++[.ref b3]))):=(bX.refl _ _).upd (by simp);apply ⟨_,_,_,xs++[.ref b3],acc++[(wa,c)],rfl,(s9'.trans sb3).later nlr,mA _ _ (s48 _ _ e4) nl1,af,?_,?_,gb.snoc (nc:=(wa,c)) nw (fL (nc:=(wa,c)) (by rw [hrow,hc]; rfl)).2,?_,?_⟩
    ·rw [aE (IL rn),sb3 _ _ g9,HN]; rfl
    ·have q1:=n48 fr.1;have q2:=n48 fr.2.1;have q3:=n48 fr.2.2;have m7:=(s8'.butL [ln,lr]).trans mA;exact CN ((pw.but (s48.butL _)).but mA) ⟨b3,q,a,b,rfl,mB _ _ eb3 nb3,m7 _ _ eq' q1,m7 _ _ ex q2,m7 _ _ ey q3,⟨nb3,q1⟩,q2,q3⟩
    ·rw [HN,ea,ht,K8,(fL (nc:=(wa,c)) (by rw [hrow,hc]; rfl)).1]
    ·rw [eg,gor]
  ·rintro σ' H4 ⟨o3,o4,o5,xs,acc,rfl,s4,e4,er4,en4,pw,gb,ea,eg⟩;rw [ξ,List.drop_length] at eg;apply nwT fun tq H5 stq ntq etq=>?_;refine k tq H5 (s4.trans stq) ?_;rw [kz (bk:=acc) (by rw [hgo,eg]; rfl)];exact rS etq ((pw.but (stq.butL _)).rep (stq _ _ er4))
theorem Ge {α β:Type} {F:α->β->Prop}:∀ {xs:List α} {ys:List β},xs.length=ys.length->(∀ (i:Nat) a b,xs[i]?=some a->ys[i]?=some b->F a b)->Paired F xs ys:=by
 intro xs
 induction xs with
 | nil=>intro ys h _; cases ys with
  | nil => exact .nil
  | cons b r => cases h
 | cons a xs ih=>intro ys h k; cases ys with
  | nil => cases h
  | cons b ys => exact .cons (k 0 a b rfl rfl) (ih (LR h) fun i u v h1 h2 => k (i + 1) u v h1 h2)
def sp_bx:Sp:=fun vs H Q _=>∃ y:Str,vs=[.str y]/\TxN 3700 y/\∀ tp H',ai H H'->Rep H' (uu y) (.ref tp)->Q (.ref tp) H'
theorem ok_bx (T:Txt K mg t):aR P w K mg base CX0 11 t.f_bx t.d_bx ["_law_text"] sp_bx:=by
 refine T.F_bx.ok sc_bx (by walk_at "l") (fun _ _ _ s H vs Q E hr h=>?_)
 ·obtain ⟨y,rfl,ty,k⟩:=h;refine ⟨_,(aH (AM (i:=2) sc_bx.nd rfl rfl rfl T.mg_a5 (fun _ _=>(aj (fH (i:=1) sc_bx.nd rfl (L0 rfl) (AE (okx_aI T) (rmo hr) rfl T.mg_aI T.F_aI.kp T.b_aI .nil iG (aa (pv 0) ae))))) (fun _=>(aj (az (bh (aa ao (aa (av (cB K rfl) rfl T.no_bp (by rfl) (aa (pv 2) (aa (dv (v:=.ref _) rfl T.mg_af rfl) ae))) (aa (uS (qu T) (eP.mark (eP.mono hr.q (by first | decide | omega))) rfl T.mg_bv T.F_bv.kp T.b_bv .nil (aa (pv 2) ae)) ae)))))))) (aj (az (bh (aa ao (aa (cT (N:=["_law_name","_law_chest"]) (cap:=[none,some 1]) rfl ⟨rfl,rfl,rfl,rfl,rfl,rfl⟩ (dh (aT (pv 1) T.cl_ak T.m_aB (ok_aB T) (rmo hr) T.b_aB .nil aV)) (fun _ _ _=>(aY (i:=0) (show (["_law_name","_law_chest"]:List Str).Nodup by decide +kernel) rfl (IQ rfl))) (fun _ _ _=>cD) (fun _ _ _=>(bh (aa (pv 0) (aa (aD (ok_by T) (rmo hr) rfl T.mg_by T.F_by.kp T.b_by .nil aV (aa (bH (pv 1) T.cl_ak T.m_an (ok_an T) (rmo hr) T.b_an .nil aV (aa (pv 0) ae)) ae)) ae))))) (aa (aD (ok_aR T) (rmo hr) rfl T.mg_aR T.F_aR.kp T.b_aR .nil aV (aa (pv 1) ae)) ae))))))),?_⟩;apply ⟨y,rfl,ty,?_⟩
  cases hq:ip y with
  | none =>
   refine .inl ⟨rfl,fun H1 s1=>⟨t.a_af,rfl,T.cat_af,fun e he=>?_⟩⟩;have s2:=ai.new (o:=tU e t.a_af none) he;have ee:=af (H:=H1) (a:=e) (o:=tU e t.a_af none);generalize upd H1 e (tU e t.a_af none)=H2 at s2 ee ⊢;apply fj ee T.xi_af T.kt_af_af ?_;apply ⟨e,t.a_af,none,"text",[],rfl,ee,T.c8_BadText,fun l H3 s3 _ el=>?_⟩;apply nwT fun tq H4 stq ntq etq=>?_;dsimp only [Dh];left;exact k tq H4 ((s1.trans s2).trans (s3.trans stq)) (by rw [qW hq]; exact Bf etq (stq _ _ el))
  | some bk =>
   refine .inr ⟨bk,rfl,fun p la lb H1 s1 ch=>?_⟩;obtain ⟨g,hy⟩:=lH hq;obtain ⟨hw,hl⟩:=tZ hq ty;obtain ⟨dx,fs,d,f1,cl,_⟩:=ch.ob;apply ax f1 (cl.no _ (by decide +kernel)) ?_;apply ⟨p,la,lb,[],[],bk,rfl,ch,fun l1 n1=>?_⟩;have s2:=ai.new (o:=HO.lst (eD bk)) n1;have e2:=af (H:=H1) (a:=l1) (o:=HO.lst (eD bk));generalize upd H1 l1 (HO.lst (eD bk))=H2 at s2 e2 ⊢;have ln:(eD bk).length=bk.length:=ξ _;apply ⟨⟨_,SqL.of e2⟩,fun l2 n2=>?_⟩;refine ug (fun i v H'=>∀ nc,bk[i]?=some nc->zC [l2] H' v nc) (SqL.of e2) (by omega) n2 (fun i v Ha Hb sb h nc hn=>(h nc hn).but fun a o e n=>sb a o e fun z=>n (by rw [z]; exact Θ)) (fun i x o H3 Q' hx s3 hys q=>?_) (fun ys H3 s3 e3 ly hR=>?_)
   ·obtain ⟨ys,hl2⟩:=hys;unfold eD at hx;rw [BD] at hx;obtain ⟨nc,hnc,rfl⟩:=JW.mp hx;have hm:=H_ hnc;have s13:=s2.trans s3;apply ax (s13 _ _ f1) (cl.no _ (by decide +kernel)) ?_;apply ⟨p,la,lb,[],[],bk,nc.1,nc.2,rfl,ch.mono s13,xk g.ko.2 hm,fun v hv=>?_⟩;obtain ⟨x,rfl,hC,_⟩:=hv;apply ⟨x,_,_,_,rfl,hC,fun tp c r H4 s4 nc4 nr4 et ec er=>?_⟩;apply nwT fun tq H5 stq ntq etq=>?_;have hl4:=s4 _ _ hl2;have off:∀ {a:ς},(H3 a=none\/H4 a=none\/∃ xs,H4 a=some (.tup xs))->a∉[l2]:=fun {a} h z=>by
     rw [HL.mp z,hl2,hl4] at h;rcases h with h | h | ⟨_,h⟩<;>cases h
    refine q _ H5 (s4.trans stq) fun nc' h'=>?_;rw [hnc] at h'
    cases h';exact ⟨tq,tp,c,r,rfl,etq,stq _ _ et,stq _ _ ec,stq _ _ er,⟨off (.inr (.inl ntq)),off (.inr (.inr ⟨_,et⟩))⟩,off (.inl nc4),off (.inl nr4)⟩
   ·have s13:=s2.trans s3;have pw:RwP [l2] H3 ys bk:=Ge (by omega) fun i v nc h1 h2=>hR i v h1 nc h2;apply ⟨p,la,lb,[],[],bk,rfl,ch.mono s13,g.ko,by omega,hw,fun H4 s4=>?_⟩;apply nwT fun tq H5 stq ntq etq=>?_;refine k tq H5 (s1.trans (s13.trans (s4.trans stq))) ?_;rw [kz hq];rw [hy] at etq;have s45:=s4.trans stq;exact rS etq ((pw.but (s45.butL _)).rep (s45 _ _ e3))
theorem DI {L:List Str} {n:Nat} (h:(L.all fun x=>decide (x.length<=n)&&x.cps.toList.all fun c=>decide (c<128))=true):∀ y∈L,TxN n y:=fun y hy=>by
 have:=IW.mp h y hy
 rw [Hy,IW] at this;exact ⟨of_decide_eq_true this.1,fun c hc=>of_decide_eq_true (this.2 c hc)⟩
def sp_law (K:A_):Sp:=fun vs H Q _=>∃ (a:ς) (ns:List Int),vs=[.ref a]/\SqL K H a (ns.map V.int)/\ns.length<=63/\∀ H',Q (.bl true) H'
theorem EE (T:Txt K mg t):aR P w K mg base CX0 16 t.f_law t.d_law ["_law_script"] (sp_law K):=by
  have G_bn:=yI (P:=P) (w:=w) (base:=base) T;refine T.F_law.ok ig (fun vs H Q E h=>?_) (fun cdv A outer s H vs Q E hr h=>?_)
  · obtain ⟨a,ns,rfl,_⟩:=h; rfl
  · obtain ⟨a,ns,rfl,hS,hl,z⟩:=h
    refine aF (fH (i:=1) ig.nd rfl (L0 rfl) (aD (ok_bh T) (rmo hr) rfl T.mg_bh T.F_bh.kp T.b_bh .nil aV (aa (pv 0) (aa ag ae)))) fun _ _=>aF (nR (aD (ok_aw T) (rmo hr) rfl T.mg_aw T.F_aw.kp T.b_aw .nil aV (aa (pv 1) ae)) (ju (n:=2) K rfl rfl (cZ (aY (i:=2) ig.nd rfl (IQ rfl)) (cZ (aY (i:=3) ig.nd rfl (IQ rfl)) jv)))) fun _ _=>aF (fH (i:=4) ig.nd rfl (L0 rfl) (aD (ok_aR T) (rmo hr) rfl T.mg_aR T.F_aR.kp T.b_aR .nil aV (aa (pv 2) ae))) fun _ _=>zQ (nU (i:=5) (xs:=["\n"," ","a","a 0 - -\n","\na 0 - -","a 0 - -","a 0 - -\na 1 - -"]) ig.nd rfl (IQ rfl) rfl) fun _ _=>aF (aI 5 ig.nd (ay cP (pv 5) (bO (aa ao (aa ao (aa ao (aa ao (aa ao (aa ao ae))))))))) fun _ _=>aF (aI 5 ig.nd (ay cP (pv 5) (bO (aa ao (aa ao ae))))) fun _ _=>aF (rM (i:=6) ig.nd rfl (IQ rfl) (N:=["_law_k","_law_text","_law_some"]) (cap:=[none,some 4,some 1]) rfl ⟨rfl,rfl,rfl,rfl,rfl,rfl⟩ (ft rfl T.no_bz (aa ag ae)) (fun _ _ _=>(aY (i:=0) (show (["_law_k","_law_text","_law_some"]:List Str).Nodup by decide +kernel) rfl (IQ rfl))) (fun _ _ _=>cD) (fun _ _ _=>(aD (ok_a8 T) (rmo hr) rfl T.mg_a8 T.F_a8.kp T.b_a8 .nil aV (aa (pv 1) (aa (aU (bE K rfl) (pv 2) (bz (ay bf ag (ay jQ ag (pv 0)))) bu) ae)))) (by rfl)) fun _ _=>cH (az (av (gL K rfl rfl) rfl T.no_all (by rfl) (aa (cT (N:=["_law_one"]) (cap:=[none]) rfl ⟨rfl,rfl,rfl,rfl,rfl,rfl⟩ (dh (ay cP (ay cP (pv 5) (pv 6)) (bO (aa (pv 4) ae)))) (fun _ _ _=>(aY (i:=0) (show (["_law_one"]:List Str).Nodup by decide +kernel) rfl (IQ rfl))) (fun _ _ _=>cD) (fun _ _ _=>(aD G_bn (rmo hr) rfl T.mg_bn T.F_bn.kp T.b_bn .nil aV (aa (aD (ok_bx T) (rmo hr) rfl T.mg_bx T.F_bx.kp T.b_bx .nil aV (aa (pv 0) ae)) (aa (aD (ok_bd T) (rmo hr) rfl T.mg_bd T.F_bd.kp T.b_bd .nil aV (aa (pv 0) ae)) ae))))) ae))) fun _ _=>?_;apply ⟨a,200,ns,rfl,hS,hl,by decide,fun ls zs H1 s1 es lz _ sm=>?_⟩;apply ⟨ls,zs,rfl,es,by omega,fun tp p b la lb past bk H2 s2 et ch ko lk=>?_⟩;apply gZ et rfl ?_;left;have tn:=Ep ko ch.bkOk lk;have hw:=zO (bk:=bk) tn;refine ⟨p,la,lb,past,[],bk,rfl,ch,ko,by omega,by omega,fun H5 s5=>?_⟩;have es5:=s5 _ _ (s2 _ _ es);generalize chT bk=tx at tn ⊢;clear hw s5 ch ko lk et s2 es s1 hS;apply rR (ys:=(["\n"," ","a","a 0 - -\n","\na 0 - -","a 0 - -","a 0 - -\na 1 - -"]:List Str).map V.str) rfl ?_;refine ⟨by show 7<=BC; decide,fun lb1 nb1=>?_⟩;have slb1:=ai.new (o:=HO.lst ((["\n"," ","a","a 0 - -\n","\na 0 - -","a 0 - -","a 0 - -\na 1 - -"]:List Str).map V.str)) nb1;have elb1:=af (H:=H5) (a:=lb1) (o:=HO.lst ((["\n"," ","a","a 0 - -\n","\na 0 - -","a 0 - -","a 0 - -\na 1 - -"]:List Str).map V.str));generalize upd H5 lb1 (HO.lst ((["\n"," ","a","a 0 - -\n","\na 0 - -","a 0 - -","a 0 - -\na 1 - -"]:List Str).map V.str))=H6 at slb1 elb1 ⊢;apply nwL fun lb2 H7 slb2 nlb2 elb2=>?_;apply cA (slb2 _ _ elb1) elb2 (by decide) fun l3 H8 s8 _ e8=>?_;have es8:=s8 _ _ (slb2 _ _ (slb1 _ _ es5));clear elb1 elb2 slb1 slb2 s8 es5;apply nwL fun lb3 H9 slb3 nlb3 elb3=>?_;apply cA (slb3 _ _ e8) elb3 (by decide) fun ln H10 s10 _ e10=>?_;have es10:=s10 _ _ (slb3 _ _ es8);obtain ⟨ys0,en,ly0,ty0⟩:∃ ys:List Str,H10 ln=some (.lst (ys.map V.str))/\ys.length=15/\∀ y∈ys,TxN 3700 y:=⟨["\n"," ","a","a 0 - -\n","\na 0 - -","a 0 - -","a 0 - -\na 1 - -","A 0 - -","a 0 - - ","a  0 - -","a1 0 - -","abcdefghijkl 0 - -","abcdefghijklm 0 - -","a 0 - -\n\nb 0 - -","b 1 01 -\na 0 - 1"],e10,rfl,DI (by decide +kernel)⟩
    clear elb3 slb3 s10 e8 e10 es8;apply ⟨10,rfl,by decide,by decide,fun lk nk=>?_⟩;refine qR (fun i v H'=>∃ y:Str,v=.str y/\TxN 3700 y) (by decide) nk (fun i v H1 H2 _ h=>h) (fun i o H' Q' hi s' _ q=>?_) (fun ys Hk sk ek ly hR=>?_)
    · have hi8:i<10:=hi
      apply bV (by first | trivial | (unfold B7; omega)) ?_;left;rw [show (139:Int)+4*((0:Int)+(i:Nat))=((139+4*i:Nat):Int) by omega];refine ed (s' _ _ es10) fun lz Hc sz _ ez=>?_;rw [dq] at ez;left;exact ⟨tx,lz,zs.drop (139+4*i),rfl,tn,ez,by rw [IG]; omega,fun y H5 ty s5=>q _ _ (sz.trans s5) ⟨y,rfl,ty⟩⟩
    · have ly:ys.length=10:=ly
      apply cA (sk _ _ en) ek (by rw [ξ,ly0,ly]; decide) fun lp Hp' s19 _ e19=>?_;apply nwL fun lm Hm slm nlm elm=>?_;apply cA (slm _ _ e19) elm (by rw [Av,ξ,ly0,ly]; show 15+10+1<=BC; decide) fun lx Hx s21 _ e21=>?_;apply ⟨⟨_,SqL.of e21⟩,fun lw nw=>?_⟩;refine gN (fun _=>.bl true) (SqL.of e21) (by rw [Av,Av,ξ,ly0,ly]; show 15+10+1<=1000; decide) nw (fun v o H' Q' hv s' q=>?_) (fun H22 s22 e22=>?_)
      · obtain ⟨y,rfl,ty⟩:∃ y,v=.str y/\TxN 3700 y:=by
          rcases Hj.mp hv with h | h
          · rcases Hj.mp h with h | h
            · obtain ⟨y,hy,rfl⟩:=Hv.mp h
              exact ⟨y,rfl,ty0 y hy⟩
            · obtain ⟨i,hi⟩:=MH h
              exact hR i v hi
          · exact ⟨tx,HL.mp h,tn.le (by decide)⟩
        apply ⟨y,rfl,ty,fun t1 Ha sa r1=>?_⟩;apply ⟨y,rfl,ty,fun t2 Hb sb r2=>?_⟩;left;exact ⟨.ref t1,.ref t2,uu y,rfl,Cm ty,r1.mono sb,r2,fun Hc sc=>q _ ((sa.trans sb).trans sc)⟩
      · left
        generalize ys0.map V.str++ys++[V.str tx]=L at e22;have e22:H22 lw=some (.lst ((L.map fun _=>true).map V.bl)):=by rw [e22,IV]; rfl
        refine iL e22 ?_;rw [K1,show L.all (id∘fun _=>true)=true from IW.mpr fun _ _=>rfl];exact z _
end
end My
namespace PySem.W.Fast
theorem tw8358828362287238315:True:=⟨⟩
theorem tw13412450918443357261:True:=⟨⟩
theorem tw17375028241881633388:True:=⟨⟩
theorem tw10966715087124201764:True:=⟨⟩
theorem tw8199505135376763118:True:=⟨⟩
theorem tw1740942223508305744:True:=⟨⟩
theorem tw13719498764933943865:True:=⟨⟩
theorem tw3334987377288403579:True:=⟨⟩
theorem tw18291861386327478862:True:=⟨⟩
theorem tw10824595967676587007:True:=⟨⟩
theorem tw3424009769379625900:True:=⟨⟩
theorem tw2860523079844767204:True:=⟨⟩
theorem tw3312119312456506648:True:=⟨⟩
theorem tw15580102030806610070:True:=⟨⟩
theorem tw15413573285836003843:True:=⟨⟩
theorem tw17400555128766608329:True:=⟨⟩
theorem tw3886127482633680593:True:=⟨⟩
theorem tw16402639140768490858:True:=⟨⟩
theorem tw543016557552499089:True:=⟨⟩
theorem tw14196844362396853691:True:=⟨⟩
theorem tw12654344072380483746:True:=⟨⟩
theorem tw1132774062825369379:True:=⟨⟩
theorem tw18346373290032602873:True:=⟨⟩
theorem tw7106390280094213605:True:=⟨⟩
theorem tw17353632393968425415:True:=⟨⟩
theorem tw4393949639593306514:True:=⟨⟩
theorem tw90569498369904340:True:=⟨⟩
theorem tw3192227458018347499:True:=⟨⟩
theorem tw17403544243535932842:True:=⟨⟩
theorem tw271602528691372017:True:=⟨⟩
theorem tw6100693951858793637:True:=⟨⟩
theorem tw18358491175131989215:True:=⟨⟩
theorem tw1043701913221564348:True:=⟨⟩
theorem tw5750723154134454906:True:=⟨⟩
theorem tw723404995327544765:True:=⟨⟩
theorem tw2201930440623380016:True:=⟨⟩
theorem tw17063545346154588917:True:=⟨⟩
theorem tw9274112579494135921:True:=⟨⟩
theorem tw15462524750551841698:True:=⟨⟩
theorem tw3147895207137326050:True:=⟨⟩
theorem tw13492442885773888630:True:=⟨⟩
theorem tw5581176488423703605:True:=⟨⟩
theorem tw17553129663701124167:True:=⟨⟩
theorem tw2617896235325434542:True:=⟨⟩
theorem tw2678964424907584277:True:=⟨⟩
theorem tw5408844193105163271:True:=⟨⟩
theorem tw5623084755478690446:True:=⟨⟩
theorem tw11370269847280472280:True:=⟨⟩
theorem tw16195465356346923540:True:=⟨⟩
theorem tw2836475901494949107:True:=⟨⟩
theorem tw4548712691621172139:True:=⟨⟩
theorem tw14015112715378883010:True:=⟨⟩
theorem tw10626284845269517154:True:=⟨⟩
theorem tw2036133931852834000:True:=⟨⟩
theorem tw16313780508626989883:True:=⟨⟩
theorem tw8588822388152901419:True:=⟨⟩
theorem tw995135952503950609:True:=⟨⟩
theorem tw17537241603816036750:True:=⟨⟩
theorem tw2529683610414419465:True:=⟨⟩
theorem tw15783030659390999076:True:=⟨⟩
theorem tw11146508335435958100:True:=⟨⟩
theorem tw6021983470278224690:True:=⟨⟩
theorem tw269136230267303273:True:=⟨⟩
theorem tw12960769334346263858:True:=⟨⟩
theorem tw17208236923762558584:True:=⟨⟩
theorem tw4608340187885184637:True:=⟨⟩
theorem tw3127735886299871990:True:=⟨⟩
theorem tw13929757347825330621:True:=⟨⟩
theorem tw16196032860212892071:True:=⟨⟩
theorem tw9024265662968231710:True:=⟨⟩
theorem tw6457976799719031315:True:=⟨⟩
theorem tw10393371978452414866:True:=⟨⟩
theorem tw3907662699095289616:True:=⟨⟩
theorem tw5590289291046873654:True:=⟨⟩
theorem tw10045919290264251112:True:=⟨⟩
theorem tw6958920917376470169:True:=⟨⟩
theorem tw15212348236687518885:True:=⟨⟩
theorem tw16376769282918727040:True:=⟨⟩
theorem tw4600654197105388164:True:=⟨⟩
theorem tw9585139882455563585:True:=⟨⟩
theorem tw5883102114037581130:True:=⟨⟩
theorem tw10761528079230883880:True:=⟨⟩
theorem tw14567049495368640288:True:=⟨⟩
theorem tw3942465711821984616:True:=⟨⟩
theorem tw1552653861535830032:True:=⟨⟩
theorem tw12513209710094204603:True:=⟨⟩
theorem tw10620038620835723561:True:=⟨⟩
theorem tw12641031740103812427:True:=⟨⟩
theorem tw7275917928271559635:True:=⟨⟩
theorem tw17872973474675811785:True:=⟨⟩
theorem tw6165608240312115210:True:=⟨⟩
theorem tw13524775217676082648:True:=⟨⟩
theorem tw10875285898359502988:True:=⟨⟩
theorem tw12436605655475233099:True:=⟨⟩
theorem tw6173489132763288325:True:=⟨⟩
theorem tw16337858372543432795:True:=⟨⟩
theorem tw17367657235890625017:True:=⟨⟩
theorem tw3572649390033911115:True:=⟨⟩
theorem tw13691622722228654587:True:=⟨⟩
theorem tw12323496847306775671:True:=⟨⟩
theorem tw9950333661848300245:True:=⟨⟩
theorem tw7306709533451835882:True:=⟨⟩
theorem tw5627257671151720043:True:=⟨⟩
theorem tw6617323472771885258:True:=⟨⟩
theorem tw15323887196514385074:True:=⟨⟩
theorem tw5286072601306454723:True:=⟨⟩
theorem tw9007389671971201585:True:=⟨⟩
theorem tw6058872266964392639:True:=⟨⟩
theorem tw12071737138049018537:True:=⟨⟩
theorem tw10504659548641823625:True:=⟨⟩
theorem tw6103739861533861234:True:=⟨⟩
theorem tw5520694123906756702:True:=⟨⟩
theorem tw18084339364969050823:True:=⟨⟩
theorem tw9176214987261586166:True:=⟨⟩
theorem tw5797631115295874552:True:=⟨⟩
theorem tw4100719102554151988:True:=⟨⟩
theorem tw5123760507343004966:True:=⟨⟩
theorem tw17699125825360206126:True:=⟨⟩
theorem tw3435616776640483161:True:=⟨⟩
theorem tw15858676272373757717:True:=⟨⟩
theorem tw13194147128764319979:True:=⟨⟩
theorem tw17168436300970955802:True:=⟨⟩
theorem tw3402073034856021350:True:=⟨⟩
theorem tw144362240923395865:True:=⟨⟩
theorem tw3168494218294289298:True:=⟨⟩
theorem tw7092941732841018571:True:=⟨⟩
theorem tw6039584029754208661:True:=⟨⟩
theorem tw17215784156245525873:True:=⟨⟩
theorem tw4347970141125236875:True:=⟨⟩
theorem tw2511199578133268214:True:=⟨⟩
theorem tw11765952717461753075:True:=⟨⟩
theorem tw14713320691644698952:True:=⟨⟩
theorem tw4106084100655227711:True:=⟨⟩
theorem tw3972885753247951275:True:=⟨⟩
theorem tw8055400675520735614:True:=⟨⟩
theorem tw11287271244928892324:True:=⟨⟩
theorem tw13619363259864714434:True:=⟨⟩
theorem tw14171965262077077098:True:=⟨⟩
theorem tw439968396350094594:True:=⟨⟩
theorem tw1154683238184139037:True:=⟨⟩
theorem tw2650310934911657498:True:=⟨⟩
theorem tw1373481429439858587:True:=⟨⟩
theorem tw12355756940091568853:True:=⟨⟩
theorem tw2150710011901617988:True:=⟨⟩
theorem tw10286262890113459976:True:=⟨⟩
theorem tw9356271977330838326:True:=⟨⟩
theorem tw16242738704884270957:True:=⟨⟩
theorem tw9032168994285007988:True:=⟨⟩
theorem tw7473239964430848097:True:=⟨⟩
theorem tw11550332108463370164:True:=⟨⟩
theorem tw10788832045870615177:True:=⟨⟩
theorem tw7998343108238440386:True:=⟨⟩
theorem tw1966947229303482325:True:=⟨⟩
theorem tw13130605754335176935:True:=⟨⟩
theorem tw1936512934288573189:True:=⟨⟩
theorem tw10693059456776272883:True:=⟨⟩
theorem tw766217292713357564:True:=⟨⟩
theorem tw2131827638880853867:True:=⟨⟩
theorem tw5759899491749410036:True:=⟨⟩
theorem tw15403917774223226918:True:=⟨⟩
theorem tw14388006803126024249:True:=⟨⟩
theorem tw5035916037693858414:True:=⟨⟩
theorem tw3547857463297936921:True:=⟨⟩
theorem tw18148109265913427929:True:=⟨⟩
theorem tw8644248731945178657:True:=⟨⟩
theorem tw10760685225857095781:True:=⟨⟩
theorem tw16087437366808249328:True:=⟨⟩
theorem tw2102981398439601111:True:=⟨⟩
theorem tw11578070358737926708:True:=⟨⟩
theorem tw14454436622225872314:True:=⟨⟩
theorem tw1424695574613838289:True:=⟨⟩
theorem tw10429282810168111242:True:=⟨⟩
theorem tw12374576833802701147:True:=⟨⟩
theorem tw15887293380790262443:True:=⟨⟩
theorem tw10369076858611441188:True:=⟨⟩
theorem tw290679389923710250:True:=⟨⟩
theorem tw932267571187863912:True:=⟨⟩
theorem tw1036674074543950507:True:=⟨⟩
theorem tw12012224297848424687:True:=⟨⟩
theorem tw699888824411833743:True:=⟨⟩
theorem tw12850758758574169164:True:=⟨⟩
theorem tw4078614861350517924:True:=⟨⟩
theorem tw2811964813390030101:True:=⟨⟩
theorem tw16955221170628355488:True:=⟨⟩
theorem tw1900843797054282204:True:=⟨⟩
theorem tw16427927009243430961:True:=⟨⟩
theorem tw498564789812062975:True:=⟨⟩
theorem tw10114603207328763955:True:=⟨⟩
theorem tw12363642528102577950:True:=⟨⟩
theorem tw2433510623361624903:True:=⟨⟩
theorem tw5501465328248281154:True:=⟨⟩
theorem tw10616371294510368655:True:=⟨⟩
theorem tw749260340351480920:True:=⟨⟩
theorem tw12751930738281384247:True:=⟨⟩
theorem tw5581396122214247218:True:=⟨⟩
theorem tw10726451415183464051:True:=⟨⟩
theorem tw9417830476989569120:True:=⟨⟩
theorem tw4372319239744308129:True:=⟨⟩
theorem tw16604842737230308564:True:=⟨⟩
theorem tw2868749381815823177:True:=⟨⟩
theorem tw8383150944851784914:True:=⟨⟩
theorem tw16931712794671795753:True:=⟨⟩
theorem tw17522566473718064669:True:=⟨⟩
theorem tw16895654525011117483:True:=⟨⟩
theorem tw4395094731553400699:True:=⟨⟩
theorem tw4289581118255038787:True:=⟨⟩
theorem tw241930848764957395:True:=⟨⟩
theorem tw15205833129305116184:True:=⟨⟩
theorem tw11693417928496721362:True:=⟨⟩
theorem tw13333831976387764684:True:=⟨⟩
theorem tw14661160587536077817:True:=⟨⟩
theorem tw1891067846311900694:True:=⟨⟩
theorem tw779063414373925272:True:=⟨⟩
theorem tw7033480166505984916:True:=⟨⟩
theorem tw6860167383731379184:True:=⟨⟩
theorem tw6534925543816672862:True:=⟨⟩
theorem tw11292363523509253877:True:=⟨⟩
theorem tw3818112784509161715:True:=⟨⟩
theorem tw2208375486613017361:True:=⟨⟩
theorem tw3520656476252449212:True:=⟨⟩
theorem tw12111376243991782600:True:=⟨⟩
theorem tw7447557646110431713:True:=⟨⟩
theorem tw15109275614806752253:True:=⟨⟩
theorem tw4385268754943396316:True:=⟨⟩
theorem tw4305775091438695525:True:=⟨⟩
theorem tw9929588346117843066:True:=⟨⟩
theorem tw10035828340809495007:True:=⟨⟩
theorem tw13185646379565751072:True:=⟨⟩
theorem tw3347319097714790104:True:=⟨⟩
theorem tw481229820236255277:True:=⟨⟩
theorem tw2126881348618673172:True:=⟨⟩
theorem tw10121413009373241372:True:=⟨⟩
theorem tw3796017275494267599:True:=⟨⟩
theorem tw12291978923129574449:True:=⟨⟩
theorem tw17795047969331490927:True:=⟨⟩
theorem tw5112026437964535293:True:=⟨⟩
theorem tw7588053029036616597:True:=⟨⟩
theorem tw13475881939849645956:True:=⟨⟩
theorem tw969960817614305851:True:=⟨⟩
theorem tw13148000789124404413:True:=⟨⟩
theorem tw10657323590270518831:True:=⟨⟩
theorem tw4404267065876416623:True:=⟨⟩
theorem tw2703690637980147676:True:=⟨⟩
theorem tw14894363926757628332:True:=⟨⟩
theorem tw4087410327226238794:True:=⟨⟩
theorem tw5163391372126095334:True:=⟨⟩
theorem tw2834729848385906526:True:=⟨⟩
theorem tw1216403325596201914:True:=⟨⟩
theorem tw6018168596111163898:True:=⟨⟩
theorem tw1647873249058565477:True:=⟨⟩
theorem tw7522678325306626633:True:=⟨⟩
theorem tw10409490592335192576:True:=⟨⟩
theorem tw16996172348658013714:True:=⟨⟩
theorem tw9546665500538720357:True:=⟨⟩
theorem tw14302242125433633924:True:=⟨⟩
theorem tw17888699326737925524:True:=⟨⟩
theorem tw15526789361769412853:True:=⟨⟩
theorem tw2070165926000098379:True:=⟨⟩
theorem tw16340366326445641435:True:=⟨⟩
theorem tw10706555594078740387:True:=⟨⟩
theorem tw14172054813952133824:True:=⟨⟩
theorem tw16133605237480416359:True:=⟨⟩
theorem tw813204394873964052:True:=⟨⟩
theorem tw17832784765417960791:True:=⟨⟩
theorem tw16246830376706372414:True:=⟨⟩
theorem tw5351592723994388412:True:=⟨⟩
theorem tw17766901049006293477:True:=⟨⟩
theorem tw4838611379729427821:True:=⟨⟩
theorem tw2052064760805438252:True:=⟨⟩
theorem tw4381508142769803150:True:=⟨⟩
theorem tw9288741918500350472:True:=⟨⟩
theorem tw5001451654043945694:True:=⟨⟩
theorem tw15706497151550751741:True:=⟨⟩
theorem tw1422045174211312167:True:=⟨⟩
end PySem.W.Fast
open PySem PySem.W PyProof.Rows
set_option maxRecDepth 100000 in
set_option maxHeartbeats 0 in
theorem PySem.Challenge.cw_sashiko_k56_texts_of_no_chest_holds : PySem.Challenge.rw_sashiko_k56_texts_of_no_chest.Holds := by
 w_on; o_law; k_head; (case hw=>w_witness2)
 k_fill
 refine L2.walk_ofK (l:=PySem.Challenge.rw_sashiko_k56_texts_of_no_chest) (n:=63) (k:=16) (x:="_law_script") (CX:=L2.CX0) (sp:=My.sp_law) rfl (by decide) rfl ⟨rfl,by decide,by decide⟩ (fun w h Y=>PySem.W.kIn_of Y) ?F ?S ?C
 case F =>
  intro w mg fa h KX G hmg
  have T:∃ t:My.Ad,My.Txt (L2.KOf KX) mg t:=by
   dsimp only [L2.KOf];refine' My.txt_mk KX G ?aC_bA ?ga_bA ?rd_bA ?aC_ak ?pg_ak ?hd_ak ?po_ak ?sa_ak ?mk_ak ?kc_ak ?naC_cloths ?naC_ahead_of_deeds ?naC_behind_undone ?aC_ai ?pg_ai ?hd_ai ?po_ai ?sa_ai ?mk_ai ?kc_ai ?na_columns_count ?na_rows_count ?na_col_bits ?na_row_bits ?na_first_colour ?F_bc ?oi_ah ?of_ah ?ok_ah ?os_ah ?om_ah ?ox_ah ?a_ba ?F_ba ?a_aH ?F_aH ?a_bt ?F_bt ?a_bf ?F_bf ?a_bi ?F_bi ?a_bb ?F_bb ?fc_aY ?F_aY ?a_aq ?i_aq ?F_aq ?a_ap ?i_ap ?F_ap ?a_ax ?i_ax ?F_ax ?a_aF ?i_aF ?F_aF ?a_au ?i_au ?F_au ?a_ar ?i_ar ?F_ar ?a_am ?i_am ?F_am ?a_aK ?i_aK ?F_aK ?a_at ?i_at ?F_at ?a_bg ?F_bg ?a_as ?F_as ?a_aU ?F_aU ?a_bq ?F_bq ?a_put ?F_put ?a_putsew ?a_cut ?F_cut ?a_cutsew ?a_aW ?F_aW ?a_br ?F_br ?a_aA ?F_aA ?a_az ?F_az ?a_bs ?F_bs ?a_aS ?i_aS ?F_aS ?a_aB ?i_aB ?F_aB ?a_an ?i_an ?F_an ?a_ao ?i_ao ?F_ao ?a_av ?i_av ?F_av ?a_al ?i_al ?F_al ?a_aJ ?i_aJ ?F_aJ ?a_aL ?i_aL ?F_aL ?a_aP ?i_aP ?F_aP ?a_a3 ?i_a3 ?F_a3 ?a_a2 ?i_a2 ?F_a2 ?a_a4 ?i_a4 ?F_a4 ?a_aG ?i_aG ?F_aG ?a_a0 ?i_a0 ?F_a0 ?a_aZ ?i_aZ ?F_aZ ?a_ay ?i_ay ?F_ay ?a_a6 ?F_a6 ?a_aT ?F_aT ?a_aR ?F_aR ?a_a9 ?F_a9 ?a_a7 ?F_a7 ?a_aO ?F_aO ?a_aI ?F_aI ?a_bv ?F_bv ?a_by ?F_by ?a_aQ ?F_aQ ?a_aD ?F_aD ?a_aE ?F_aE ?a_bh ?F_bh ?a_be ?F_be ?a_bu ?F_bu ?a_aC ?F_aC ?a_bl ?F_bl ?a_bk ?F_bk ?a_aN ?F_aN ?a_aV ?F_aV ?a_a1 ?F_a1 ?a_bo ?F_bo ?a_aX ?F_aX ?a_aM ?F_aM ?a_Ldo ?F_Ldo ?a_aw ?F_aw ?a_a8 ?F_a8 ?a_bn ?F_bn ?a_bx ?F_bx ?a_bd ?F_bd ?a_law ?F_law ?aX_a5 ?aX_ah ?aX_ac ?aX_ag ?aX_bw ?aX_ae ?aX_ad ?aX_aj ?aX_ab ?aX_aa ?aX_af ?bb ?bm ?bt ?nb ?nm ?nt ?ogs ?otk ?x_ac ?xg_BadSize ?sb_ac ?sn_ac ?kt_ac_ad ?kt_ac_aj ?kt_ac_ab ?kt_ac_ae ?kt_ac_ag ?kt_ac_ac ?kt_ac_aa ?kt_ac_ah ?kt_ac_af ?kv_ac ?x_ag ?xg_BadBit ?sb_ag ?sn_ag ?kt_ag_ad ?kt_ag_aj ?kt_ag_ab ?kt_ag_ae ?kt_ag_ag ?kt_ag_ac ?kt_ag_aa ?kt_ag_ah ?kt_ag_af ?kv_ag ?x_bw ?xg_NoCell ?sb_bw ?x_ae ?xg_NoLine ?sb_ae ?sn_ae ?kt_ae_ad ?kt_ae_aj ?kt_ae_ab ?kt_ae_ae ?kt_ae_ag ?kt_ae_ac ?kt_ae_aa ?kt_ae_ah ?kt_ae_af ?kv_ae ?x_ad ?xg_BadName ?sb_ad ?sn_ad ?kt_ad_ad ?kt_ad_aj ?kt_ad_ab ?kt_ad_ae ?kt_ad_ag ?kt_ad_ac ?kt_ad_aa ?kt_ad_ah ?kt_ad_af ?kv_ad ?x_aj ?xg_Taken ?sb_aj ?sn_aj ?kt_aj_ad ?kt_aj_aj ?kt_aj_ab ?kt_aj_ae ?kt_aj_ag ?kt_aj_ac ?kt_aj_aa ?kt_aj_ah ?kt_aj_af ?kv_aj ?x_ab ?xg_NoCloth ?sb_ab ?sn_ab ?kt_ab_ad ?kt_ab_aj ?kt_ab_ab ?kt_ab_ae ?kt_ab_ag ?kt_ab_ac ?kt_ab_aa ?kt_ab_ah ?kt_ab_af ?kv_ab ?x_aa ?xg_NothingLeft ?sb_aa ?sn_aa ?kt_aa_ad ?kt_aa_aj ?kt_aa_ab ?kt_aa_ae ?kt_aa_ag ?kt_aa_ac ?kt_aa_aa ?kt_aa_ah ?kt_aa_af ?kv_aa ?x_af ?xg_BadText ?sb_af ?kt_af_ad ?kt_af_aj ?kt_af_ab ?kt_af_ae ?kt_af_ag ?kt_af_ac ?kt_af_aa ?kt_af_ah ?kt_af_af ?kv_af ?bg ?br ?ba ?nx_Unfit_at ?xg_Unfit ?sb_ah ?sc_ah ?kt_ah_ad ?kt_ah_aj ?kt_ah_ab ?kt_ah_ae ?kt_ah_ag ?kt_ah_ac ?kt_ah_aa ?kt_ah_ah ?v_LONGEST_SIDE ?v_LONGEST_NAME ?z_bp ?z_int ?z_bool ?z_all ?z_len ?z_bm ?z_list ?z_bz ?z_abs ?z_sum ?z_min ?z_max ?z_str ?z_zip ?z_bB ?z_bj ?z_dict
   (case aC_bA | aC_ak | aC_ai | aX_a5 | aX_ah | aX_ac | aX_ag | aX_bw | aX_ae | aX_ad | aX_aj | aX_ab | aX_aa | aX_af | a_ba | a_aH | a_bt | a_bf | a_bi | a_bb | a_bg | a_as | a_aU | a_bq | a_put | a_putsew | a_cut | a_cutsew | a_aW | a_br | a_aA | a_az | a_bs | a_a6 | a_aT | a_aR | a_a9 | a_a7 | a_aO | a_aI | a_bv | a_by | a_aQ | a_aD | a_aE | a_bh | a_be | a_bu | a_aC | a_bl | a_bk | a_aN | a_aV | a_a1 | a_bo | a_aX | a_aM | a_Ldo | a_aw | a_a8 | a_bn | a_bx | a_bd | a_law=>(unfold My.QNs; k_is))
   (case z_bp | z_int | z_bool | z_all | z_len | z_bm | z_list | z_bz | z_abs | z_sum | z_min | z_max | z_str | z_zip | z_bB | z_bj | z_dict=>(unfold My.QNn; k_is))
   (case oi_ah | a_aq | a_ap | a_ax | a_aF | a_au | a_ar | a_am | a_aK | a_at | a_aS | a_aB | a_an | a_ao | a_av | a_al | a_aJ | a_aL | a_aP | a_a3 | a_a2 | a_a4 | a_aG | a_a0 | a_aZ | a_ay=>(unfold My.QFi; k_is))
   (case ga_bA | rd_bA | pg_ak | hd_ak | po_ak | sa_ak | mk_ak | kc_ak | pg_ai | hd_ai | po_ai | sa_ai | mk_ai | kc_ai | of_ah | ok_ah | os_ah | om_ah | fc_aY | bb | bm | bt | nb | nm | nt | ogs | otk | sb_ac | sn_ac | sb_ag | sn_ag | sb_bw | sb_ae | sn_ae | sb_ad | sn_ad | sb_aj | sn_aj | sb_ab | sn_ab | sb_aa | sn_aa | sb_af | bg | br | ba | sb_ah | sc_ah | v_LONGEST_SIDE | v_LONGEST_NAME=>k_is)
   (case ox_ah=>(refine' L2.exi_mk ?xa ?xb ?xc ?xd ?xe ?xf; (case xa=>k_is); (case xb=>rfl); (case xc=>rfl); (case xd=>rfl); (case xe=>rfl); (case xf=>k_exc)))
   (case naC_cloths | naC_ahead_of_deeds | naC_behind_undone | na_columns_count | na_rows_count | na_col_bits | na_row_bits | na_first_colour | nx_Unfit_at=>(unfold My.QFn; k_is))
   (case i_aq | i_ap | i_ax | i_aF | i_au | i_ar | i_am | i_aK | i_at | i_aS | i_aB | i_an | i_ao | i_av | i_al | i_aJ | i_aL | i_aP | i_a3 | i_a2 | i_a4 | i_aG | i_a0 | i_aZ | i_ay=>(unfold My.QIf; k_is))
   (case kt_ac_ad | kt_ac_aj | kt_ac_ab | kt_ac_ae | kt_ac_ag | kt_ac_ac | kt_ac_aa | kt_ac_ah | kt_ac_af | kt_ag_ad | kt_ag_aj | kt_ag_ab | kt_ag_ae | kt_ag_ag | kt_ag_ac | kt_ag_aa | kt_ag_ah | kt_ag_af | kt_ae_ad | kt_ae_aj | kt_ae_ab | kt_ae_ae | kt_ae_ag | kt_ae_ac | kt_ae_aa | kt_ae_ah | kt_ae_af | kt_ad_ad | kt_ad_aj | kt_ad_ab | kt_ad_ae | kt_ad_ag | kt_ad_ac | kt_ad_aa | kt_ad_ah | kt_ad_af | kt_aj_ad | kt_aj_aj | kt_aj_ab | kt_aj_ae | kt_aj_ag | kt_aj_ac | kt_aj_aa | kt_aj_ah | kt_aj_af | kt_ab_ad | kt_ab_aj | kt_ab_ab | kt_ab_ae | kt_ab_ag | kt_ab_ac | kt_ab_aa | kt_ab_ah | kt_ab_af | kt_aa_ad | kt_aa_aj | kt_aa_ab | kt_aa_ae | kt_aa_ag | kt_aa_ac | kt_aa_aa | kt_aa_ah | kt_aa_af | kt_af_ad | kt_af_aj | kt_af_ab | kt_af_ae | kt_af_ag | kt_af_ac | kt_af_aa | kt_af_ah | kt_af_af | kt_ah_ad | kt_ah_aj | kt_ah_ab | kt_ah_ae | kt_ah_ag | kt_ah_ac | kt_ah_aa | kt_ah_ah=>(unfold My.QKt; kit_is))
   (case x_ac | x_ag | x_bw | x_ae | x_ad | x_aj | x_ab | x_aa | x_af=>(unfold My.QXc; k_exc))
   (case F_bc | F_ba | F_aH | F_bt | F_bf | F_bi | F_bb | F_aY | F_aq | F_ap | F_ax | F_aF | F_au | F_ar | F_am | F_aK | F_at | F_bg | F_as | F_aU | F_bq | F_put | F_cut | F_aW | F_br | F_aA | F_az | F_bs | F_aS | F_aB | F_an | F_ao | F_av | F_al | F_aJ | F_aL | F_aP | F_a3 | F_a2 | F_a4 | F_aG | F_a0 | F_aZ | F_ay | F_a6 | F_aT | F_aR | F_a9 | F_a7 | F_aO | F_aI | F_bv | F_by | F_aQ | F_aD | F_aE | F_bh | F_be | F_bu | F_aC | F_bl | F_bk | F_aN | F_aV | F_a1 | F_bo | F_aX | F_aM | F_Ldo | F_aw | F_a8 | F_bn | F_bx | F_bd | F_law=>exact L2.fun_mk (by k_is) (by k_is) (by k_is))
   (case xg_BadSize | xg_BadBit | xg_NoCell | xg_NoLine | xg_BadName | xg_Taken | xg_NoCloth | xg_NothingLeft | xg_BadText | xg_Unfit=>exact ⟨by k_is,by k_is,by k_is,by k_is,by k_is⟩)
   (case kv_ac | kv_ag | kv_ae | kv_ad | kv_aj | kv_ab | kv_aa | kv_af=>kit_is)
  obtain ⟨t,T⟩:=T;have e0:=hmg.symm.trans T.mg_law
  cases e0;exact ⟨t.d_law,T.F_law.bl fun _ _ _ _ _ _ _=>rfl,fun base _ _=>My.EE T⟩
 case S=>exact fun K H a ns hl _ hS=>⟨a,ns,rfl,hS,hl,fun _=>rfl⟩
 case C=>exact fun _ _ _ _ z=>z
