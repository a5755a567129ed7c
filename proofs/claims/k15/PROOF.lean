import PyProof.Rows.All
import Wide.All
import OpenK.AllK
import Wide.FinOn
import Lean
import PyProof.EqAt
import PyProof.EqKinds
import PyProof.TupleCall
import PyProof.NeKinds
import KE.KSortTup
import KE.KItemsList
import KE.KPairComp
import KE.KDictOf
import PyProof.AttrMissHeap
import KE.KLam
import KE.KNestM
import PyProof.ListRange
import PySem.Challenge.RW_sashiko_k15_seams_around
import KE.KDictSum
open List renaming getElem?_eq_getElem->ξ,mem_cons_self->Θ,length_map->Ξ,mem_cons_of_mem->Au,getElem?_eq_some_iff->Aw,mem_singleton->Ax,mem_cons->B_,length_cons->C_,length_append->DZ,mem_append_right->D6,size_toArray->D8,range->ED,mem_append->EE,append_assoc->EF,mem_map->EJ,pairwise_append->EK,map_cons->EL,take_of_length_le->EN,length_singleton->EO,nodup_cons->ER,getElem?_map->EU,mem_of_getElem?->EW,mem_append_left->Ea,map_append->Ef,not_mem_nil->Ek,filter_cons->Em,length_range->Eo,mem_iff_getElem?->Ep,getElem_mem->Er,mem_range->Et,nodup_append->Ey,map_map->Ez,getElem?_append_right->E1,append_nil->E2,getElem?_cons_zero->E3,pairwise_cons->E6,mem_filter->E7,take_sublist->FG,getElem?_eq_none->FJ,getElem?_cons_succ->FL,getElem?_append_left->FO,length_take->FP,getD_eq_getElem?_getD->Fb,pairwise_map->Fd,mem_of_mem_take->Fg,eq_nil_of_length_eq_zero->Fi,dropLast_concat_getLast->Fl,take_append_drop->Fq,take_add_one->Ft,drop_sublist->Fv,range_succ->Fw,find?_cons->Fx,all_eq_true->Fy,nodup_nil->F0,mem_of_mem_drop->F4,drop_eq_getElem_cons->GC,length_drop->GH,getElem?_take_of_lt->GI,ext_getElem?->GS,take_succ_cons->GZ,map_congr_left->Ga,mem_reverse->Gh,take_zero->Gm,drop_drop->Gn,length_filter_le->Gq,getElem?_zip_eq_some->Gu,getElem?_range->G1,filterMap_cons->G2,set_set->HB,filter_append->HC,drop_of_length_le->HD,extract_eq_drop_take->HW,mem_filterMap->Hg,reverse_cons->Hr,map_nil->Hs,getElem?_set_self->Ht,flatMap_cons->Hu,mem_flatMap->IF,reverse_reverse->IU,lookup->IV,nil_append->IZ,reverse_append->Ih,getElem?_drop->Iu,drop_take->Iv,pairwise_iff_getElem->JA,pairwise_singleton->JP,getElem_inj->JQ,cons_append->JR,pairwise_lt_range->JW,length_pos_of_mem->JX,of_mem_zip->Jb,perm_append_comm->Jd,filterMap_append->Je,range_eq_range'->Jm,range'->Jo,length->Jp,getElem?_set_ne->Jq,drop_zero->Jr,map_eq_nil_iff->J2,length_pos_iff->J4,filter_eq_self->J5,map_singleton->J9,getElem_take->KQ,getElem_drop->KR,filter_congr->KS,map_fst_zip->Km,lookup_cons->Kn,getLast?_eq_some_getLast->Ks,exists_mem_of_length_pos->Ku,length_zip->Kx,forIn_cons->Ky,perm_ext_iff_of_nodup->LG,Nodup->LH,mem_of_find?_eq_some->LU,getElem?_eq_none_iff->LV,nil_perm->Lb,length_erase_of_mem->Lc,any_cons->Ld,length_eq_zero_iff->Ln,filter_cons_of_pos->Lo,filter_cons_of_neg->Lp,append_inj_right'->Lv,append_inj_left'->MF,mem_iff_getElem->MI,mem_erase_of_ne->MJ,map_id->MK,getElem?_append->ML,toList_toArray->MR,length_reverse->MS,flatMap_append->MT,foldl->Mm,find?_eq_none->Mn
open PySem renaming wpAny_bind->θ,Value->ς,Addr->Δ,Shared->Ω,wpAny_pure->A_,sizeLine->D7,Program->D_,wpAny->EA,model->EH,starEach->EV,Around->Eg,World->Eh,Heap->E5,wpAny_mono->E8,bootBuiltins->FA,Expr->FE,FuncData->FU,wpAny_holding->FW,sysModules->Fe,wpAny_Call_Name_kw->Fz,wpAny_truthy_bool->F1,eval->F3,mainGlobals->F7,compareOp->F8,mem_of_lookup->F_,Obj->GN,wpAny_rule->GO,backTo->GW,PyData->Gp,Builtin->Gw,codeAny_builtin->Gz,codeAny_mono->G0,codeAny->HA,wpAny_typeNameOfWhole_keyiter->HG,wpAny_passesOwn->HJ,tupleKind->HM,plainId_quiet->HN,behindInMarks->HP,rawInt->HQ,wpAny_newObj_type->HU,Pos->HV,wpAny_call_entry->HY,wpAny_newList->Hj,wpAny_attempt->Hl,cLine->Ho,Scope->Hq,tupleKind_room_in1->Hx,wpAny_dictEntries->II,dictSetDefault->IM,bindArgs->IP,wpAny_notOrdered_dict->IY,wpAny_eqBool_int->Ib,wpAny_call->Ic,Stmt->Ie,attributeBase->Ii,wpAny_letGo->Ij,sliceBounds->Ik,call->Io,Model->Iq,valueAt->JC,call_meetsIn->JD,wpAny_tryCatch->JK,wpAny_seqItems->JL,assignEach->JN,NameKind->JO,wpAny_pyIter_list->JU,sizeLine_eq->JV,pyNext->Ja,binaryOp->Jh,typeLookup->Jt,holding->Jv,entryOfKey->Jw,wpAny_updateSeq->Jx,wpAny_execs_nil->Jy,letOwnedTupleGo->Jz,atKey->J1,builtinLookup_eq_fast->J6,Env->J_,keywordEach->KG,Sem->KH,swapsWith->KO,call_meets->Kp,Result->Kq,wpAny_Call_method->Kz,numAt->K2,foldedSetIterable->K3,callerA->K5,GenState->K7,wpAny_isInstance->LN,getMethod->LP,DictEntry->LW,Arguments->LX,subscripted->LY,IsRangeIter->Lf,CmpOp->Lg,wpAny_specialOf->Li,wpAny_dictEpoch->Lj,typeLookup_type->Lk,Within->Ll,getItem->Ls,BindsTo->L0,wpAny_newTuple->L6,wpAny_newFunctionEnv_cells->L7,setField->L8,checkCount->L_,builtinsNs->MA,backToKw->MC,wpAny_comprehension_free->MO,wpAny_callSpecial?_slot->MY,codeAmong->MZ,cellsFrom->Ma,bindL->Mb,bindC->Mc,TriplesOk->Me
open PySem.Heap renaming get?_push_of_some->χ,lt_size->D0,get?_push_size->D4,get?_update_other->EX,SameBut->F2,get?_update_self->GF,get?_update_ne->Gb,size_update->Gi,size_push->Hv,get?_push_ne->JF,MadeExcOf->LI,FlyingW->Lx
open Nat renaming le_refl->Av,ne_of_lt->D5,lt_of_lt_of_le->EG,lt_of_le_of_lt->Ej,zero_le->El,le_trans->Ew,lt_irrefl->Fo,le_add_right->Fp,succ_le_succ->F6,le_succ->Gg,lt_succ_of_lt->Gx,not_lt->HS,le_of_eq->H_,le_of_lt->Ip,min_eq_left->Jc,sub_self->Ka,ne_of_gt->Kc,add_zero->Kd,lt_succ_self->Kr,add_sub_cancel_left->Lu,zero_add->ME
open PyProof.Rows renaming Keyed->C0,wpS_bind->D3,wpS_pure->D9,arrOf->EI,pendingOf->EY,seqObj->Eb,SortSt->E9,callWith_type1->FD,wpS_forRange->FT,get?_update_seq->F5,kindOf->GA,failedOf->GK,SortKind->GL,listUpdate_at->GQ,wpS_mono->GV,wpS_modify->Ge,numOf->Hf,size_push'->Hz,wpS_get->IG,pairsOf_toList->IJ,pairsOf->IK,mem_zip_self->IL,seqEpoch_at->Il,mirror->Iw,envOfC->Iz,IntsAre->JE,AllBare->JH,sortedHeap->JM,reverseSlice'->JZ,wpS_lift->Jg,listItems_at->Ju,entry_list_sort->J0,slot_list_sort->KD,zipApart_new->KJ,tuples'->K0,plain_sorted->K1,entry_sorted->K4,wpS->LM,sortedAll->LO,kind_sorted->LZ,boot_range->MB,subscriptTail->MP
open Array renaming toList_append->DY,length_toList->EC,getElem?_toList->Ex,perm_iff_toList_perm->FZ,toList_reverse->Ff,toList_push->F9,getElem_mem_toList->Gy,toArray_toList->HL,toList_map->IE,toList_extract->IS,size_map->Jj,toList_setIfInBounds->LA,getElem?_eq_some_iff->LB,getElem?_eq_getElem->LL,getElem_toList->MG,size_extract->MV,forIn_toList->MW,append_assoc->MX
open PySem.Value renaming ref->EB,none->GR,type->Gj,int->HR,bool->Im,str->KW,float->MD
open PySem.F renaming plainAttrs_list->EM,type_list_append->Ec,slot_list_append->Ed,excBase_ValueError->FY,slot_dict_keyiterator_next->Gd,slot_dict_setdefault->G7,plain_min_loop->G9,plainAttrs_dict->HX,slot_dict_get->JS,slot_list_getattribute->JT,args_dict_setdefault_3->KI,entry_dict_setdefault->KP,type_dict_setdefault->KZ,entry_min_loop->K8,args_dict_keyiterator_next_1->K9,slot_dict_items->LC,args_dict_get_3->LD,entry_dict_keyiterator_next->LJ,entry_dict_get->LQ,attrBase_ValueError->Mp
open PySem.Obj renaming mapSeq->ES,data_mapDictKeys->IX,mapFields->Lm,isFreed_of_dict->Ml
open List.Pairwise renaming sublist->EZ,filter->GB,nil->GD,imp->IW,imp_of_mem->KN
open Bool renaming false_ne_true->Ei,and_eq_true->Eu,false_eq_true->FI,eq_iff_iff->GU,or_eq_true->HZ,and_false->Hw,eq_false_iff->JG,false_or->JJ,and_eq_false_iff->Jf,false_and->Js,true_and->J7,not_true->J8
open PySem.PassesOwn renaming never->En
open False renaming elim->Es
open Option.some renaming inj->E4,injEq->FN
open Or renaming inl->E_,inr->I_
open Ne renaming symm->FH
open Int renaming toNat_natCast->FQ,emod_nonneg->GX,emod_lt_of_pos->Hh,zero_add->Ir,eq_ofNat_of_zero_le->Lw
open PySem.Calls renaming spliced_cons->Fj,spliced_nil->GP,callWith_builtin->G_,evalArgs_plain->HK,Name_function_global->K_,call_function_entry->LK
open PySem.Builtin.Range renaming rangeSize->GG,small->HF
open PySem.Around renaming under_plainId->GJ,under->Lh,frames_deeper->L5
open Prod renaming ext->GY,fst->Jl,snd->MH
open PySem.Str renaming ofString->Gf
open True renaming intro->Gk
open PySem.Heap.SameBut renaming update->Gs
open PySem.PyData renaming eqv->Gv,bool->HH,canLayAll0->Hi,int->IB,eqvAll->IC,depthAll->Kg,canLay0->Kw,depth->La
open List.Perm renaming append_right->G3,append_left->G8,trans->KL,of_eq->MM
open Sum renaming inl->G4,inr->KY
open PySem.Builtin.List renaming listExtendWith->G5,listTooLong->Ia,listSameRef->KU,listItems->Ko
open Option renaming map_eq_some_iff->G6,map_some->IT,any_some->Kh,any_none->Kl,isSome_iff_exists->LF,bind_eq_some_iff->LS,isSome_map->MQ,getD_some->Mf,getD_none->Mi
open PySem.Sem renaming bind->HE,wp->IQ
open PySem.NameKind renaming free->IA
open List.cons renaming injEq->ID
open PySem.SeqAt renaming shaped->Ig
open PySem.Builtin.Dict renaming showsAll->JB,keyAndDefault->KA,updateFrom->Ke
open ForInStep renaming yield->JI
open PySem.EntryCells renaming newEntry->JY
open PySem.Builtin.Builtins renaming bindParams->Ji
open Prod.mk renaming injEq->Jk
open Array.Perm renaming refl->KC
open StateT renaming run_pure->Kf
open PyProof.Rows.SortSt renaming mk'->Kv
open PySem.Walks renaming list->K6
open PyProof renaming noPylong_small->LR
open PySem.IsRange renaming new->Lq
open PySem.W renaming kla_obj->Lr
open PySem.Heap.DictOf renaming new->Ly
open PySem.Code renaming isFrame->Lz
open PySem.Flow renaming ret->MN
open PySem.Fin renaming done->MU
set_option Elab.async false
set_option linter.all false
set_option maxRecDepth 100000
namespace L2
open PySem PySem.Spec PyProof.Rows
noncomputable abbrev Key:=Sum Int Str
noncomputable def jY:Key->ς->Bool
 | .inl k,v=>Value.isInt k v
 | .inr x,v=>Value.isStrOf x v
noncomputable def DN (w:Eh):Key->Int
 | .inl k=>hashInt k
 | .inr x=>hashStr w x
theorem bE:∀ {k:Key} {v:ς},jY k v=true->(∃ i t,k=G4 i/\v=HR i t)\/(∃ x t,k=KY x/\v=KW x t)
 | .inl i,v,h=>by
  obtain ⟨t,e⟩:=Value.isInt_shape (k:=i) (v:=v) h;exact .inl ⟨i,t,rfl,e⟩
 | .inr x,v,h=>by
  obtain ⟨t,e⟩:=Value.isStrOf_shape (x:=x) (v:=v) h;exact .inr ⟨x,t,rfl,e⟩
theorem ug (i:Int) (t:Tok):jY (.inl i) (.int i t)=true:=by simp [jY,Value.isInt]
theorem uh (x:Str) (t:Tok):jY (.inr x) (.str x t)=true:=by simp [jY,Value.isStrOf]
theorem BF (a b:Int):decide ((G4 a:Key)=G4 b)=(a==b):=by
 by_cases e:a=b
 ·subst e; simp
 ·have h:¬ (G4 a:Key)=G4 b:=fun q=>e (Sum.inl.inj q);rw [decide_eq_false h];exact (beq_eq_false_iff_ne.mpr e).symm
theorem BI (a b:Str):decide ((KY a:Key)=KY b)=decide (a=b):=by
 by_cases e:a=b
 ·subst e; simp
 ·have h:¬ (KY a:Key)=KY b:=fun q=>e (Sum.inr.inj q);rw [decide_eq_false h,decide_eq_false e]
theorem BG (a:Int) (b:Str):decide ((G4 a:Key)=KY b)=false:=decide_eq_false (fun q=>nomatch q)
theorem BH (a:Str) (b:Int):decide ((KY a:Key)=G4 b)=false:=decide_eq_false (fun q=>nomatch q)
noncomputable def a7 (prog:D_) (w:Eh):PySem.KeyKind prog w Key where
 is:=jY
 hash:=DN w
 inj:=fun v a b ha hb=>by
  rcases bE ha with ⟨i,t,rfl,rfl⟩ | ⟨x,t,rfl,rfl⟩
  ·rcases bE hb with ⟨j,u,rfl,e⟩ | ⟨y,u,rfl,e⟩
   ·injection e with e1 _; rw [e1]
   ·exact nomatch e
  ·rcases bE hb with ⟨j,u,rfl,e⟩ | ⟨y,u,rfl,e⟩
   ·exact nomatch e
   ·injection e with e1 _; rw [e1]
 byValue:=fun k v h=>by
  rcases bE h with ⟨i,t,rfl,rfl⟩ | ⟨x,t,rfl,rfl⟩<;>rfl
 pyHash:=fun hv h=>by
  rcases bE hv with ⟨i,t,rfl,rfl⟩ | ⟨x,t,rfl,rfl⟩
  ·exact wpAny_pyHash_int h
  ·exact wpAny_pyHash_str h
 eqBool:=fun hu hv h=>by
  rcases bE hu with ⟨i,t,rfl,rfl⟩ | ⟨x,t,rfl,rfl⟩
  ·rcases bE hv with ⟨j,u,rfl,rfl⟩ | ⟨y,u,rfl,rfl⟩
   ·rw [BF] at h; exact Ib h
   ·rw [BG] at h; exact SeqAt.EqAt.int_str i t y u _ _ _ _ h
  ·rcases bE hv with ⟨j,u,rfl,rfl⟩ | ⟨y,u,rfl,rfl⟩
   ·rw [BH] at h; exact SeqAt.EqAt.str_int x t j u _ _ _ _ h
   ·rw [BI] at h; exact wpAny_eqBool_str h
 «strs»:=fun k x t v h=>by
  rcases bE h with ⟨i,u,rfl,e⟩ | ⟨y,u,rfl,e⟩
  ·exact nomatch e
  ·injection e with e1 _;subst e1
   cases v<;>rfl
theorem pK (prog:D_) (w:Eh) (i:Int) (t:Tok):(a7 prog w).is (.inl i) (.int i t)=true:=ug i t
theorem pM (prog:D_) (w:Eh) (x:Str) (t:Tok):(a7 prog w).is (.inr x) (.str x t)=true:=uh x t
inductive V where
 | non | bl (b:Bool) | int (i:Int) | str (x:Str) | byt (b:Array UInt8) | flt (b:UInt64) | ref (a:Δ) | ty (n:String)
 deriving DecidableEq
def aL:V->ς->Prop
 | .non,u=>u=GR
 | .bl b,u=>u=Im b
 | .int i,u=>∃ t,u=HR i t
 | .str x,u=>∃ t,u=KW x t
 | .byt b,u=>∃ t,u=Value.bytes b t
 | .flt b,u=>∃ t,u=MD b t
 | .ref a,u=>u=EB a
 | .ty n,u=>u=Gj n
abbrev Vals:List V->List ς->Prop:=Paired aL
theorem Vals.length {xs:List V} {us:List ς} (r:Vals xs us):xs.length=us.length:=Paired.length r
theorem Vals.get:∀ {xs:List V} {us:List ς} {i:Nat} {x:V},Vals xs us->xs[i]?=some x->∃ u,us[i]?=some u/\aL x u
 | _,_,_,_,.nil,e=>by simp at e
 | _,_,0,_,.cons r _,e=>by simp at e; subst e; exact ⟨_,rfl,r⟩
 | _,_,i+1,x,.cons _ t,e=>by
  obtain ⟨u,h1,h2⟩:=Vals.get (i:=i) (x:=x) t (by simpa using e);exact ⟨u,by simpa using h1,h2⟩
theorem Vals.append:∀ {xs ys:List V} {us ws:List ς},Vals xs us->Vals ys ws->Vals (xs++ys) (us++ws)
 | _,_,_,_,.nil,s=>s
 | _,_,_,_,.cons r t,s=>.cons r (Vals.append t s)
theorem Vals.take:∀ {xs:List V} {us:List ς} (n:Nat),Vals xs us->Vals (xs.take n) (us.take n)
 | _,_,0,_=>.nil
 | _,_,_+1,.nil=>.nil
 | _,_,n+1,.cons r t=>.cons r (Vals.take n t)
theorem Vals.drop:∀ {xs:List V} {us:List ς} (n:Nat),Vals xs us->Vals (xs.drop n) (us.drop n)
 | _,_,0,r=>r
 | _,_,_+1,.nil=>.nil
 | _,_,n+1,.cons _ t=>Vals.drop n t
def fA:Option V->Option ς->Prop
 | some v,some u=>aL v u
 | none,none=>True
 | _,_=>False
def KV {κ:Type}:List (κ×V)->List (κ×ς)->Prop:=Paired fun (p:κ×V) (q:κ×ς)=>p.1=q.1/\aL p.2 q.2
noncomputable def kV:Key->V
 | .inl i=>.int i
 | .inr x=>.str x
inductive HO where
 | lst (xs:List V)
 | tup (xs:List V)
 | dK (kvs:List (Key×V)) | dT (kvs:List (List Key×V))
 | set (S:Int->Bool) (n:Nat)
 | ins (C dx:Δ) (fs:List (Str×V))
 | own (x:Δ)
 | xd (fs:List (Str×V))
 | met (f x:Δ)
 | rng (lo hi:Int)
 | frz (o:GN) (u:HO)
 | tbl (ps:Array ς)
 | ext (φ:E5->Prop)
noncomputable abbrev Hp:=Δ->Option HO
noncomputable def upd (H:Hp) (a:Δ) (o:HO):Hp:=fun b=>if b=a then some o else H b
theorem ag {H:Hp} {a:Δ} {o:HO}:upd H a o a=some o:=by unfold upd; rw [if_pos rfl]
theorem ai {H:Hp} {a b:Δ} {o:HO} (h:b≠a):upd H a o b=H b:=by unfold upd; rw [if_neg h]
theorem AB {H:Hp} {a:Δ} {o u:HO}:upd (upd H a o) a u=upd H a u:=by
 funext b; unfold upd; split<;>rfl
theorem aZ {H:Hp} {a b:Δ} {o u:HO} (h:H a=some o) (h':H b=some u) (d:o≠u):a≠b:=by
 intro e; subst e; rw [h] at h'; exact d (E4 h')
theorem aC {H:Hp} {a b:Δ} {o:HO} (h:H a=some o) (h':H b=none):a≠b:=by
 intro e; subst e; rw [h] at h'; cases h'
section
variable (P:D_) (w:Eh)
def aY (H:Hp) (h:E5) (a:Δ):HO->Prop
  | .lst xs => xs.length <= D7 /\ ∃ (its : List ς) (n : Nat), Vals xs its /\ h.get? a = some { cls := .type "list", data := .seq its.toArray n }
  | .tup xs => xs.length <= D7 /\ ∃ its : List ς, Vals xs its /\ IsTup h a its.toArray
  | .dK kvs => kvs.length <= D7 /\ (a == Fe) = false /\ ∃ vs, KV kvs vs /\ h.DictOf (a7 P w) a vs
  | .dT kvs => kvs.length <= D7 /\ (a == Fe) = false /\ ∃ xs : List (List Key × Δ × ς),
      Paired (fun (p:List Key×V) (q:List Key×Δ×ς)=>p.1=q.1/\H q.2.1=some (.tup (p.1.map kV))/\aL p.2 q.2.2) kvs xs /\
      ∃ o es ep,h.get? a=some o/\o.ExactDict/\o.data=.dict es ep/\es.toList=xs.map (Jw (HM (a7 P w)))/\(xs.map (·.1)).Nodup
  | .set S n => h.SetOf (intKind P w) a S n
  | .ins C dx fs => H dx = some (.own a) /\ fs.length <= 1000 /\ dx ≠ a /\ h.get? a = some (W.instObj C dx) /\
      ∃ mA,h.Ns1 dx mA/\(∀ f,fA (fs.lookup f) (mA f))/\Ll mA (fs.map (·.1))
  | .own _ => ∃ o, h.get? a = some o
  | .xd fs => ∃ mA, h.Ns1 a mA /\ ∀ f, fA (fs.lookup f) (mA f)
  | .rng lo hi => ∃ t u v, h.get? a = some { cls := .type "range", data := .fields #[.int lo t, .int hi u, .int 1 v] }
  | .frz o u => h.get? a = some o /\ aY H h a u
  | .tbl ps => h.get? a = some { cls := .none, data := .fields ps }
  | .met f x => h.get? a = some (W.methodObj (.ref f) (.ref x))
  | .ext φ => φ h /\ (∃ o, h.get? a = some o) /\ ∀ h1 h2 : E5, φ h1 -> (∀ o, h1.get? a = some o -> h2.get? a = some o) -> φ h2
def HOk (H:Hp) (h:E5):Prop:=∀ a o,H a=some o->aY P w H h a o
end
section
variable {P:D_} {w:Eh} {H H':Hp} {h h':E5} {a:Δ} {o:HO}
theorem aY.lt (x:aY P w H h a o):a<h.objs.size:=by
 cases o with
 | lst xs=>obtain ⟨_,_,_,_,e⟩:=x; exact D0 e
 | tup xs=>obtain ⟨_,_,_,p⟩:=x; exact p.lt
 | dK kvs=>obtain ⟨_,_,_,_,o,_,_,e,_⟩:=x; exact D0 e
 | dT kvs=>obtain ⟨_,_,_,_,o,_,_,e,_⟩:=x; exact D0 e
 | set S n=>obtain ⟨o,_,_,_,e,_⟩:=x; exact D0 e
 | ins C dx fs=>obtain ⟨_,_,_,e,_⟩:=x; exact D0 e
 | own y=>obtain ⟨_,e⟩:=x; exact D0 e
 | xd fs=>obtain ⟨_,⟨_,_,_,e,_⟩,_⟩:=x; exact D0 e
 | rng lo hi=>obtain ⟨_,_,_,e⟩:=x; exact D0 e
 | frz ob u=>obtain ⟨e,_⟩:=x; exact D0 e
 | tbl ps=>exact D0 (show h.get? a=some _ from x)
 | met f y=>exact D0 (show h.get? a=some _ from x)
 | ext φ=>obtain ⟨_,⟨_,e⟩,_⟩:=x; exact D0 e
theorem Paired.mapP {α β:Type} {F G:α->β->Prop}:∀ {l₁:List α} {l₂:List β},Paired F l₁ l₂->(∀ a b,F a b->G a b)->Paired G l₁ l₂
 | _,_,.nil,_=>.nil
 | _,_,.cons r t,f=>.cons (f _ _ r) (Paired.mapP t f)
theorem aY.stay (x:aY P w H h a o) (k:∀ b u,(b=a\/H b=some (.own a))->h.get? b=some u->h'.get? b=some u)
  (ho:∀ b,H b=some (.own a)->H' b=some (.own a)) (ht:∀ b xs,H b=some (.tup xs)->H' b=some (.tup xs)):aY P w H' h' a o:=by
 induction o with
 | lst xs=>obtain ⟨z,its,n,r,e⟩:=x; exact ⟨z,its,n,r,k _ _ (.inl rfl) e⟩
 | tup xs=>obtain ⟨z,its,r,ob,e,c⟩:=x; exact ⟨z,its,r,ob,k _ _ (.inl rfl) e,c⟩
 | dK kvs=>obtain ⟨z,y,vs,r,ob,es,ep,e,c⟩:=x; exact ⟨z,y,vs,r,ob,es,ep,k _ _ (.inl rfl) e,c⟩
 | dT kvs =>
  obtain ⟨z,y,xs,r,ob,es,ep,e,c⟩:=x;exact ⟨z,y,xs,Paired.mapP r fun p q z=>⟨z.1,ht _ _ z.2.1,z.2.2⟩,ob,es,ep,k _ _ (.inl rfl) e,c⟩
 | set S n=>obtain ⟨ob,es,ep,t,e,c⟩:=x; exact ⟨ob,es,ep,t,k _ _ (.inl rfl) e,c⟩
 | ins C dx fs =>
  obtain ⟨d,z,ne,e,mA,⟨od,es,ep,e2,c⟩,r⟩:=x;exact ⟨ho _ d,z,ne,k _ _ (.inl rfl) e,mA,⟨od,es,ep,k _ _ (.inr d) e2,c⟩,r⟩
 | own y=>obtain ⟨ob,e⟩:=x; exact ⟨ob,k _ _ (.inl rfl) e⟩
 | xd fs=>obtain ⟨mA,⟨od,es,ep,e,c⟩,r⟩:=x; exact ⟨mA,⟨od,es,ep,k _ _ (.inl rfl) e,c⟩,r⟩
 | rng lo hi=>obtain ⟨t,u,v,e⟩:=x; exact ⟨t,u,v,k _ _ (.inl rfl) e⟩
 | frz ob u ih=>obtain ⟨e,q⟩:=x; exact ⟨k _ _ (.inl rfl) e,ih q⟩
 | tbl ps =>
  have e:h.get? a=some { cls:=.none,data:=.fields ps }:=x
  show h'.get? a=some { cls:=.none,data:=.fields ps }
  exact k a _ (.inl rfl) e
 | met f y =>
  have e:h.get? a=some (W.methodObj (.ref f) (.ref y)):=x
  show h'.get? a=some (W.methodObj (.ref f) (.ref y))
  exact k a _ (.inl rfl) e
 | ext φ=>obtain ⟨p,⟨o,e⟩,st⟩:=x; exact ⟨st _ _ p fun o q=>k _ _ (.inl rfl) q,⟨o,k _ _ (.inl rfl) e⟩,st⟩
theorem HOk.lt (x:HOk P w H h) (e:H a=some o):a<h.objs.size:=(x a o e).lt
theorem HOk.fresh (x:HOk P w H h) (e:h.objs.size<=a):H a=none:=by
 cases q:H a with
 | none=>rfl
 | some u=>exact absurd (EG (x.lt q) e) (Fo _)
theorem HOk.kept (x:HOk P w H h) (k:∀ b u,h.get? b=some u->h'.get? b=some u):HOk P w H h':=fun a o e =>
 (x a o e).stay (fun b u _ q=>k b u q) (fun _ q=>q) fun _ _ q=>q
theorem HOk.laid (x:HOk P w H h) (k:∀ b u,h.get? b=some u->h'.get? b=some u) (hp:h.objs.size<=a) (new:aY P w (upd H a o) h' a o):HOk P w (upd H a o) h':=fun b u e=>by
 have hn:=x.fresh hp;by_cases hb:b=a
 ·subst hb; rw [ag] at e; cases e; exact new
 ·rw [ai hb] at e;exact (x b u e).stay (fun c v _ q=>k c v q) (fun c q=>by rw [ai (aC q hn)]; exact q) fun c xs q=>by rw [ai (aC q hn)]; exact q
end
def Rd (H:Hp) (a:Δ) (u:HO):Prop:=H a=some u\/∃ o,H a=some (.frz o u)
theorem Rd.ok {P:D_} {w:Eh} {H:Hp} {h:E5} {a:Δ} {u:HO} (r:Rd H a u) (x:HOk P w H h):aY P w H h a u:=by
 rcases r with r | ⟨o,r⟩
 ·exact x a u r
 ·obtain ⟨_,q⟩:=x a _ r;exact q
def Mut:Option HO->Prop
 | some (.lst _)=>True
 | some (.dK _)=>True
 | some (.dT _)=>True
 | some (.set _ _)=>True
 | some (.ins _ _ _)=>True
 | some (.ext _)=>True
 | _=>False
section
variable {P:D_} {w:Eh} {H:Hp} {h h':E5} {x e:Δ} {o':HO}
theorem HOk.write (ok:HOk P w H h) (mu:Mut (H x)) (he:e=x\/H e=some (.own x)) (k:∀ b u,b≠e->h.get? b=some u->h'.get? b=some u) (heo:∃ u,h'.get? e=some u)
    (new:aY P w (upd H x o') h' x o'):HOk P w (upd H x o') h':=fun b u q=>by
  have nown:∀ c y,H c=some (.own y)->c≠x:=fun c y r z=>by subst z; rw [r] at mu; exact mu
  have ntup:∀ c xs,H c=some (.tup xs)->c≠x:=fun c xs r z=>by subst z; rw [r] at mu; exact mu
  by_cases hb:b=x
  · subst hb; rw [ag] at q; cases q; exact new
  · rw [ai hb] at q
    by_cases hbe:b=e
    · have q':H b=some (.own x):=by
        rcases he with z | z
        · exact absurd (hbe.trans z) hb
        · rw [hbe]; exact z
      rw [q] at q'; cases q';obtain ⟨v,hv⟩:=heo;exact ⟨v,by rw [hbe]; exact hv⟩
    · refine (ok b u q).stay (fun c v hc r=>k c v ?_ r) (fun c r=>by rw [ai (nown c b r)]; exact r) fun c xs r=>by rw [ai (ntup c xs r)]; exact r
      rcases hc with rfl | hc
      · exact hbe
      · rintro rfl
        rcases he with z | z
        · exact nown c b hc z
        · rw [hc] at z; cases z; exact hb rfl
end
structure Un (fs ex:List Δ) (H H':Hp) (h h':E5):Prop where
 keep:∀ b o,h.get? b=some o->H b=none->b∉fs->b∉ex->h'.get? b=some o
 slot:∀ b o,h.get? b=some o->H b=none->b∈fs->b∉ex->∃ sl,h'.get? b=some { o with slots:=sl }
 free:∀ b o,h.get? b=some o->H b=none->b∉ex->H' b=none
 there:∀ b o,h.get? b=some o->b∉ex->∃ o',h'.get? b=some o'
 tups:∀ b xs,H b=some (.tup xs)->H' b=some (.tup xs)
 frzs:∀ b o u,H b=some (.frz o u)->H' b=some (.frz o u)
 tbls:∀ b ps,H b=some (.tbl ps)->∃ more,H' b=some (.tbl (ps++more))
section
variable {fs fs' ex ex':List Δ} {H H1 H2:Hp} {h h1 h2 h':E5} {a x e:Δ} {o:HO}
theorem Un.any (u:Un fs ex H H1 h h1) {b:Δ} {ob:GN} (q:h.get? b=some ob) (n:H b=none) (hx:b∉ex):∃ sl,h1.get? b=some { ob with slots:=sl }:=by
 by_cases hb:b∈fs
 ·exact u.slot b ob q n hb hx
 ·exact ⟨ob.slots,u.keep b ob q n hb hx⟩
theorem Un.trans (a:Un fs ex H H1 h h1) (b:Un fs ex H1 H2 h1 h2):Un fs ex H H2 h h2 where
 keep:=fun c ob q n hc hx=>b.keep c ob (a.keep c ob q n hc hx) (a.free c ob q n hx) hc hx
 slot:=fun c ob q n hc hx=>by
  obtain ⟨sl,e1⟩:=a.slot c ob q n hc hx;obtain ⟨sl',e2⟩:=b.slot c _ e1 (a.free c ob q n hx) hc hx;exact ⟨sl',e2⟩
 free:=fun c ob q n hx=>by
  obtain ⟨o',e1⟩:=a.there c ob q hx;exact b.free c o' e1 (a.free c ob q n hx) hx
 there:=fun c ob q hx=>by
  obtain ⟨o',e1⟩:=a.there c ob q hx;exact b.there c o' e1 hx
 tups:=fun c xs q=>b.tups c xs (a.tups c xs q)
 frzs:=fun c ob xs q=>b.frzs c ob xs (a.frzs c ob xs q)
 tbls:=fun c ps q=>by
  obtain ⟨m1,e1⟩:=a.tbls c ps q;obtain ⟨m2,e2⟩:=b.tbls c _ e1;exact ⟨m1++m2,by rw [e2,MX]⟩
theorem Un.kept (k:∀ b u,h.get? b=some u->h'.get? b=some u):Un fs ex H H h h' :=
 ⟨fun b ob q _ _ _=>k b ob q,fun b ob q _ _ _=>⟨ob.slots,k b ob q⟩,fun _ _ _ n _=>n,fun b ob q _=>⟨ob,k b ob q⟩,fun _ _ q=>q,fun _ _ _ q=>q,fun _ ps q=>⟨#[],by rw [q]; simp⟩⟩
theorem Un.refl:Un fs ex H H h h:=Un.kept fun _ _ q=>q
theorem Un.laid (k:∀ b u,h.get? b=some u->h'.get? b=some u) (hp:h.objs.size<=a) (hn:H a=none):Un fs ex H (upd H a o) h h' where
 keep:=fun b u q _ _ _=>k b u q
 slot:=fun b u q _ _ _=>⟨u.slots,k b u q⟩
 free:=fun b u q n _=>by rw [ai (D5 (EG (D0 q) hp))]; exact n
 there:=fun b u q _=>⟨u,k b u q⟩
 tups:=fun b xs q=>by rw [ai (aC q hn)]; exact q
 frzs:=fun b u xs q=>by rw [ai (aC q hn)]; exact q
 tbls:=fun b ps q=>⟨#[],by rw [ai (aC q hn),q]; simp⟩
theorem Un.write (mu:Mut (H x)) (he:e=x\/H e=some (.own x)) (k:∀ b u,b≠e->h.get? b=some u->h'.get? b=some u) (heo:∃ u,h'.get? e=some u):Un fs ex H (upd H x o) h h':=by
 have hx:∀ b,H b=none->b≠x:=fun b n z=>by subst z; rw [n] at mu; exact mu
 have hb:∀ b,H b=none->b≠e:=fun b n z=>by
  subst z;rcases he with r | r
  ·exact hx b n r
  ·rw [n] at r; cases r
 have hm:∀ b u,H b=some u->¬ Mut (some u)->b≠x:=fun b u q nm z=>by subst z; rw [q] at mu; exact nm mu
 refine ⟨fun b u q n _ _=>k b u (hb b n) q,fun b u q n _ _=>⟨u.slots,k b u (hb b n) q⟩,fun b u q n _=>by rw [ai (hx b n)]; exact n,fun b u q _=>?_,
  fun b xs q=>by rw [ai (hm b _ q fun z=>z)]; exact q,fun b u xs q=>by rw [ai (hm b _ q fun z=>z)]; exact q,fun b ps q=>⟨#[],by rw [ai (hm b _ q fun z=>z),q]; simp⟩⟩
 by_cases hbe:b=e
 ·subst hbe; exact heo
 ·exact ⟨u,k b u hbe q⟩
end
noncomputable def trk (h:E5) (H:Hp):List Addr:=(ED h.objs.size).filter fun a=>(H a).isSome
noncomputable def lh (h:E5) (H:Hp):Heap:=W.hideAll h (trk h H)
theorem ud (h:E5) (H:Hp):(lh h H).objs.size=h.objs.size:=W.hideAll_size _ _
theorem vU {h:E5} {H:Hp} {b:Δ} {o:GN} (e:h.get? b=some o) (n:H b=none):(lh h H).get? b=some o :=
 W.hideAll_get _ e fun hm=>by
  have q:(H b).isSome=true:=(E7.mp hm).2;rw [n] at q; simp at q
theorem zz {h:E5} {H:Hp} {b:Δ} {o:GN} (e:(lh h H).get? b=some o):h.get? b=some o/\H b=none:=by
 have e':h.get? b=some o:=W.of_hideAll (trk h H) e;refine ⟨e',?_⟩
 cases q:H b with
 | none=>rfl
 | some x =>
  have hm:b∈trk h H:=E7.mpr ⟨Et.mpr (D0 e'),by simp [q]⟩;have z:(lh h H).get? b=none:=W.hideAll_none (trk h H) hm;rw [z] at e; cases e
noncomputable def y9 (g h:E5) (L:Δ):List (Δ×GN):=(ED h.objs.size).filterMap fun a=>if a=L\/(g.get? a).isSome=true then none else (h.get? a).map fun o=>(a,o)
noncomputable def gw (g h:E5) (L d:Δ):List (Δ×GN):=(y9 g h L).filter fun p=>decide (p.1≠d)
structure Mod (K:W.Frag) (mg:Str->Option ς) (base:E5):Prop where
 kin:K.In base
 glob:base.Ns F7 mg
 blt:∃ mb,base.Ns MA mb/\∀ x:Str,x≠"__name__"->mb x=FA x
 nolimit:base.NoLimit
structure Cx where
 prog:D_
 w:Eh
 K:W.Frag
 mg:Str->Option ς
 base:E5
 A:Eg
 N:List Str
 s₀:Ω
 H₀:Hp
 env:J_
 outer:List J_
 stack:List J_
 ex:List Δ
 fn:Str->Bool
 calm:Bool
 pn:List (Δ×GN)
 xe:ς->Ω->Prop
noncomputable def frs (l:List J_):List Addr:=l.filterMap (·.frame)
noncomputable abbrev Cx.fs (X:Cx):List Addr:=frs X.outer
def Vis (sc:Hq) (x:Str):Prop:=sc.names.lookup x=some .local\/sc.names.lookup x=some .cell\/sc.names.lookup x=some .free
def Loc (sc:Hq) (x:Str):Prop:=sc.names.lookup x=some .local\/sc.names.lookup x=some .cell
def DF (env:J_) (h:E5) (m:Str->Option ς) (x:Str) (u:ς):Prop :=
 (env.kindOf x=some .local/\m x=some u)\/((env.kindOf x=some .cell\/env.kindOf x=some .free)/\∃ c,env.cells.lookup x=some c/\h.IsCell c (some u))
structure Cx.Ok (X:Cx):Prop where
 mod:Mod X.K X.mg X.base
 kind:X.env.scope.kind=.function
 glob:X.env.globals=F7
 blt:X.env.builtins=MA
 above:X.s₀.heap.objs.size<=X.env.locals
 inj:∀ x y c,X.env.cells.lookup x=some c->X.env.cells.lookup y=some c->x=y
 has:∀ x,(X.env.kindOf x=some .cell\/X.env.kindOf x=some .free)->∃ c,X.env.cells.lookup x=some c
 cab:∀ x c,X.fn x=true->X.env.cells.lookup x=some c->X.s₀.heap.objs.size<=c
 hd:X.calm=true->X.A.handled=none
 frames:X.A.frames=some X.stack
 stk:X.stack=X.outer\/(X.stack=X.env::X.outer/\X.env.frame=some X.env.locals)
 exf:∀ b∈X.ex,b≠X.env.locals/\∀ x c,X.env.cells.lookup x=some c->c≠b
 bs:∀ b o,X.base.get? b=some o->X.s₀.heap.get? b=some o/\X.H₀ b=none
 bsz:X.base.objs.size<=X.s₀.heap.objs.size
 noex:∀ b o,X.base.get? b=some o->b∉X.ex
 exfs:∀ b∈X.ex,b∉X.fs
 funs:X.s₀.heap.FunFrames X.base X.outer
 frf:∀ b∈X.fs,X.H₀ b=none
structure Inv (X:Cx) (pins:List (Δ×GN)) (σ:List (Option V)) (H:Hp) (s:Ω):Prop where
 ok:X.Ok
 os:s.os=X.s₀.os
 bare:JH s.gens
 base:Un X.fs X.ex X.H₀ H X.s₀.heap s.heap
 loc:∃ m,s.heap.Ns X.env.locals m/\∀ (i:Nat) (x:Str) (v:V),X.N[i]?=some x->σ[i]?=some (some v)->Vis X.env.scope x->∃ u,aL v u/\DF X.env s.heap m x u
 cell:∀ x c,X.env.cells.lookup x=some c->∃ v,s.heap.IsCell c v
 free:H X.env.locals=none
 freeC:∀ x c,X.env.cells.lookup x=some c->H c=none
 pin:∀ p∈X.pn++pins,s.heap.get? p.1=some p.2/\H p.1=none/\p.1≠X.env.locals/\p.1∉X.fs/\∀ v,p.2.data≠.cell v
 hok:HOk X.prog X.w H s.heap
 len:σ.length=X.N.length
section
variable {X:Cx} {pins:List (Δ×GN)} {σ:List (Option V)} {H H':Hp} {s:Ω} {h':E5}
theorem Cx.Ok.nofr (ok:X.Ok) {b:Δ} {o:GN} (e:X.base.get? b=some o):b∉X.fs:=fun hb=>by
 have:=(ok.funs.mem hb).1
 rw [e] at this; cases this
theorem Inv.bs (I:Inv X pins σ H s):∀ b o,X.base.get? b=some o->s.heap.get? b=some o/\H b=none:=fun b o e =>
 ⟨I.base.keep b o (I.ok.bs b o e).1 (I.ok.bs b o e).2 (I.ok.nofr e) (I.ok.noex b o e),I.base.free b o (I.ok.bs b o e).1 (I.ok.bs b o e).2 (I.ok.noex b o e)⟩
theorem Inv.bk (I:Inv X pins σ H s):∀ b o,X.base.get? b=some o->s.heap.get? b=some o:=fun b o e=>(I.bs b o e).1
theorem Inv.mod (I:Inv X pins σ H s):Mod X.K X.mg X.base:=I.ok.mod
theorem Inv.kIn (I:Inv X pins σ H s):X.K.In s.heap:=I.ok.mod.kin.keeps I.bk
theorem Inv.nolimit (I:Inv X pins σ H s):s.heap.NoLimit:=I.ok.mod.nolimit.keeps I.bk
theorem Inv.lt (I:Inv X pins σ H s):X.env.locals<s.heap.objs.size:=let ⟨_,hn,_⟩:=I.loc; hn.lt
theorem Inv.sz (I:Inv X pins σ H s):X.s₀.heap.objs.size<=s.heap.objs.size:=Ew I.ok.above (Ip I.lt)
theorem Inv.nofs (I:Inv X pins σ H s) {a:Δ} (h:s.heap.objs.size<=a):a∉X.fs:=fun hb=>by
 obtain ⟨_,o,ho,_⟩:=I.ok.funs.mem hb;exact absurd (EG (D0 ho) (Ew I.sz h)) (Fo _)
theorem Inv.cne (I:Inv X pins σ H s):∀ x c,X.env.cells.lookup x=some c->c≠X.env.locals:=fun x c e z=>by
 obtain ⟨v,o,ho,hd⟩:=I.cell x c e;obtain ⟨m,⟨o',es,ep,ho',hd',_⟩,_⟩:=I.loc;rw [z,ho'] at ho; cases ho; rw [hd'] at hd; cases hd
theorem Inv.funs (I:Inv X pins σ H s):s.heap.FunFrames X.base X.outer:=by
 have all:∀ (l:List J_),(∀ b∈frs l,b∈X.fs)->X.s₀.heap.FunFrames X.base l->s.heap.FunFrames X.base l:=by
  intro l
  induction l with
  | nil => intro _ _; trivial
  | cons env r ih =>
   intro hs hl;obtain ⟨hk,⟨L,o,hf,hn,ho,hd⟩,hr⟩:=hl;have hL:L∈X.fs:=hs L (by unfold frs; rw [G2,hf]; exact Θ);obtain ⟨sl,e⟩:=I.base.slot L o ho (I.ok.frf L hL) hL fun z=>I.ok.exfs L z hL;exact ⟨hk,⟨L,_,hf,hn,e,hd⟩,ih (fun b hb=>hs b (by unfold frs; rw [G2,hf]; exact Au _ hb)) hr⟩
 exact all X.outer (fun _ hb=>hb) I.ok.funs
theorem Inv.stack (I:Inv X pins σ H s):s.heap.FunFrames X.base X.stack:=by
 rcases I.ok.stk with e | ⟨e,hf⟩
 ·rw [e]; exact I.funs
 ·rw [e];obtain ⟨m,hn,_⟩:=I.loc;refine .cons (by rw [I.ok.kind]; decide) hf hn ?_ I.funs;exact Heap.get?_none_of_le (Ew I.ok.bsz I.ok.above)
theorem Inv.stkSub (I:Inv X pins σ H s):∀ b∈frs X.stack,b∈X.env.locals::X.fs:=fun b hb=>by
 rcases I.ok.stk with e | ⟨e,hf⟩
 ·rw [e] at hb; exact Au _ hb
 ·rw [e] at hb;unfold frs at hb;rw [G2,hf] at hb;exact hb
theorem Inv.stkFree (I:Inv X pins σ H s):∀ b∈frs X.stack,H b=none:=fun b hb=>by
 rcases B_.mp (I.stkSub b hb) with e | hb
 ·rw [e]; exact I.free
 ·obtain ⟨_,o,ho,_⟩:=I.ok.funs.mem hb;exact I.base.free b o ho (I.ok.frf b hb) fun z=>I.ok.exfs b z hb
theorem Inv.step {g':Array K7} {t':Nat} {d':Drawn} {ch:List Δ} (I:Inv X pins σ H s)
  (hch:∀ b∈ch,(b∈X.ex\/X.s₀.heap.objs.size<=b)/\b≠X.env.locals/\(∀ x c,X.env.cells.lookup x=some c->c≠b)/\∀ p∈X.pn++pins,p.1≠b)
  (keep:∀ b o,b≠X.env.locals->b∉X.fs->b∉ch->s.heap.get? b=some o->H b=none->h'.get? b=some o)
  (slot:∀ b o,b≠X.env.locals->b∈X.fs->b∉ch->s.heap.get? b=some o->H b=none->∃ sl,h'.get? b=some { o with slots:=sl }) (free:∀ b o,b∉ch->s.heap.get? b=some o->H b=none->H' b=none)
  (there:∀ b o,b∉ch->s.heap.get? b=some o->∃ o',h'.get? b=some o')
  (tups:∀ b xs,H b=some (.tup xs)->H' b=some (.tup xs)) (frzs:∀ b o u,H b=some (.frz o u)->H' b=some (.frz o u)) (tbls:∀ b ps,H b=some (.tbl ps)->∃ more,H' b=some (.tbl (ps++more)))
  (ns:∀ m,s.heap.Ns X.env.locals m->h'.Ns X.env.locals m) (hok:HOk X.prog X.w H' h') (hg:JH g') :
  Inv X pins σ H' { s with heap:=h',gens:=g',drawn:=d',toks:=t' }:=by
 have neL:∀ b o,X.s₀.heap.get? b=some o->b≠X.env.locals:=fun b o e=>D5 (EG (D0 e) I.ok.above);have neC:∀ b o,X.s₀.heap.get? b=some o->b∉X.ex->b∉ch:=fun b o e hx hb=>by
  rcases (hch b hb).1 with z | z
  ·exact hx z
  ·exact absurd (EG (D0 e) z) (Fo _)
 have cellK:∀ x c,X.env.cells.lookup x=some c->∀ v,s.heap.IsCell c v->h'.IsCell c v:=fun x c e v ⟨o,ho,hd⟩=>by
  have nch:c∉ch:=fun z=>(hch c z).2.2.1 x c e rfl;by_cases hc:c∈X.fs
  ·obtain ⟨sl,q⟩:=slot c o (I.cne x c e) hc nch ho (I.freeC x c e);exact ⟨_,q,hd⟩
  ·exact ⟨o,keep c o (I.cne x c e) hc nch ho (I.freeC x c e),hd⟩
 refine ⟨I.ok,I.os,hg,⟨fun b o e n hb hx=>?_,fun b o e n hb hx=>?_,fun b o e n hx=>?_,fun b o e hx=>?_,fun b xs e=>tups b xs (I.base.tups b xs e),fun b o xs e=>frzs b o xs (I.base.frzs b o xs e),fun b ps e=>?_⟩,?_,fun x c e=>?_,?_,fun x c e=>?_,fun p hp=>?_,hok,I.len⟩
 ·exact keep b o (neL b o e) hb (neC b o e hx) (I.base.keep b o e n hb hx) (I.base.free b o e n hx)
 ·obtain ⟨sl,e1⟩:=I.base.slot b o e n hb hx;obtain ⟨sl',e2⟩:=slot b _ (neL b o e) hb (neC b o e hx) e1 (I.base.free b o e n hx);exact ⟨sl',e2⟩
 ·obtain ⟨o',e1⟩:=I.base.there b o e hx;exact free b o' (neC b o e hx) e1 (I.base.free b o e n hx)
 ·obtain ⟨o',e1⟩:=I.base.there b o e hx;exact there b o' (neC b o e hx) e1
 ·obtain ⟨m1,e1⟩:=I.base.tbls b ps e;obtain ⟨m2,e2⟩:=tbls b _ e1;exact ⟨m1++m2,by rw [e2,MX]⟩
 ·obtain ⟨m,hn,hl⟩:=I.loc;refine ⟨m,ns m hn,fun i x v e1 e2 e3=>?_⟩;obtain ⟨u,r,l⟩:=hl i x v e1 e2 e3;refine ⟨u,r,?_⟩;rcases l with l | ⟨k,c,e,z⟩
  ·exact .inl l
  ·exact .inr ⟨k,c,e,cellK x c e _ z⟩
 ·obtain ⟨v,z⟩:=I.cell x c e;exact ⟨v,cellK x c e v z⟩
 ·obtain ⟨m,⟨o,_,_,ho,_⟩,_⟩:=I.loc;exact free _ o (fun z=>(hch _ z).2.1 rfl) ho I.free
 ·obtain ⟨v,o,ho,hd⟩:=I.cell x c e;exact free c o (fun z=>(hch c z).2.2.1 x c e rfl) ho (I.freeC x c e)
 ·obtain ⟨e,n,ne,nf,d⟩:=I.pin p hp;have nch:p.1∉ch:=fun z=>(hch p.1 z).2.2.2 p hp rfl;exact ⟨keep p.1 p.2 ne nf nch e n,free p.1 p.2 nch e n,ne,nf,d⟩
theorem Inv.un {t':Nat} (I:Inv X pins σ H s) (u:Un X.fs [] H H' s.heap h') (hok:HOk X.prog X.w H' h'):Inv X pins σ H' { s with heap:=h',toks:=t' }:=by
 obtain ⟨m,⟨o,es,ep,ho,r⟩,_⟩:=id I.loc;obtain ⟨sl,hL⟩:=u.any ho I.free (by simp);exact I.step (g':=s.gens) (d':=s.drawn) (ch:=[]) (fun _ z=>nomatch z) (fun b o _ hb _ e n=>u.keep b o e n hb (by simp)) (fun b o _ hb _ e n=>u.slot b o e n hb (by simp)) (fun b o _ e n=>u.free b o e n (by simp)) (fun b o _ e=>u.there b o e (by simp)) u.tups u.frzs u.tbls (fun m' hm=>by
  obtain ⟨o',es',ep',ho',r'⟩:=hm;rw [ho] at ho'; cases ho';exact ⟨_,es',ep',hL,r'⟩) hok I.bare
theorem Inv.call {g':Array K7} {t':Nat} {d':Drawn} {ch:List Δ} (I:Inv X pins σ H s) (u:Un (frs X.stack) ch H H' s.heap h') (hok:HOk X.prog X.w H' h') (hg:JH g')
  (hch:∀ b∈ch,(b∈X.ex\/X.s₀.heap.objs.size<=b)/\b≠X.env.locals/\(∀ x c,X.env.cells.lookup x=some c->c≠b)/\∀ p∈X.pn++pins,p.1≠b) :
  Inv X pins σ H' { s with heap:=h',gens:=g',drawn:=d',toks:=t' }:=by
 obtain ⟨m,⟨o,es,ep,ho,r⟩,_⟩:=id I.loc;obtain ⟨sl,hL⟩:=u.any ho I.free fun z=>(hch _ z).2.1 rfl;exact I.step (ch:=ch) hch (fun b o hL hb hc e n=>u.keep b o e n (fun z=>(B_.mp (I.stkSub b z)).elim hL hb) hc) (fun b o _ _ hc e n=>u.any e n hc) (fun b o hc e n=>u.free b o e n hc) (fun b o hc e=>u.there b o e hc) u.tups u.frzs u.tbls (fun m' hm=>by
  obtain ⟨o',es',ep',ho',r'⟩:=hm;rw [ho] at ho'; cases ho';exact ⟨_,es',ep',hL,r'⟩) hok hg
theorem Inv.turned {t':Nat} {it:Δ} (I:Inv X pins σ H s) (k:∀ b o,b≠it->s.heap.get? b=some o->h'.get? b=some o) (hn:H it=none) (hL:it≠X.env.locals)
  (h1:it∈X.ex\/X.s₀.heap.objs.size<=it) (h2:∀ x c,X.env.cells.lookup x=some c->c≠it) (h3:∀ p∈X.pn++pins,p.1≠it):Inv X pins σ H { s with heap:=h',toks:=t' }:=by
 have nit:∀ b u,H b=some u->b≠it:=fun b u e z=>by rw [z,hn] at e; cases e
 refine I.step (g':=s.gens) (d':=s.drawn) (ch:=[it]) (fun b hb=>?_) (fun b o _ _ hc e _=>k b o (fun z=>hc (by simp [z])) e) (fun b o _ _ hc e _=>⟨o.slots,k b o (fun z=>hc (by simp [z])) e⟩) (fun _ _ _ _ n=>n)
  (fun b o hc e=>⟨o,k b o (fun z=>hc (by simp [z])) e⟩) (fun _ _ e=>e) (fun _ _ _ e=>e) (fun b ps e=>⟨#[],by rw [e]; simp⟩) (fun m hm=>?_) (fun b u e=>?_) I.bare
 ·have e:b=it:=by simpa using hb
  subst e;exact ⟨h1,hL,h2,h3⟩
 ·obtain ⟨o,es,ep,ho,r⟩:=hm;exact ⟨o,es,ep,k _ o (FH hL) ho,r⟩
 ·refine (I.hok b u e).stay (fun c v hc q=>k c v ?_ q) (fun _ q=>q) fun _ _ q=>q;rcases hc with z | z
  ·rw [z]; exact nit b u e
  ·exact nit c _ z
theorem Inv.tok (I:Inv X pins σ H s) (t:Nat):Inv X pins σ H { s with toks:=t }:=I.un (h':=s.heap) (t':=t) Un.refl I.hok
theorem Inv.kept {t':Nat} (I:Inv X pins σ H s) (k:∀ b u,s.heap.get? b=some u->h'.get? b=some u):Inv X pins σ H { s with heap:=h',toks:=t' }:=I.un (Un.kept k) (I.hok.kept k)
theorem Inv.laid {a:Δ} {o:HO} {t':Nat} (I:Inv X pins σ H s) (k:∀ b u,s.heap.get? b=some u->h'.get? b=some u) (hp:s.heap.objs.size<=a) (new:aY X.prog X.w (upd H a o) h' a o) :
  Inv X pins σ (upd H a o) { s with heap:=h',toks:=t' }:=I.un (Un.laid k hp (I.hok.fresh hp)) (I.hok.laid k hp new)
theorem Inv.write {x e:Δ} {o:HO} {t':Nat} (I:Inv X pins σ H s) (mu:Mut (H x)) (he:e=x\/H e=some (.own x)) (k:∀ b u,b≠e->s.heap.get? b=some u->h'.get? b=some u) (heo:∃ u,h'.get? e=some u)
  (new:aY X.prog X.w (upd H x o) h' x o):Inv X pins σ (upd H x o) { s with heap:=h',toks:=t' }:=I.un (Un.write mu he k heo) (I.hok.write mu he k heo new)
theorem Inv.pins_of {pins':List (Δ×GN)} (I:Inv X pins σ H s) (h:∀ p∈pins',s.heap.get? p.1=some p.2/\H p.1=none/\p.1≠X.env.locals/\p.1∉X.fs/\∀ v,p.2.data≠.cell v):Inv X pins' σ H s :=
 ⟨I.ok,I.os,I.bare,I.base,I.loc,I.cell,I.free,I.freeC,fun p hp=>(EE.mp hp).elim (fun z=>I.pin p (Ea _ z)) (h p),I.hok,I.len⟩
theorem j2 {N:List Str} (hN:N.Nodup) {i j:Nat} {x:Str} (a:N[i]?=some x) (b:N[j]?=some x):i=j:=by
 obtain ⟨h1,e1⟩:=Aw.mp a;obtain ⟨h2,e2⟩:=Aw.mp b;exact (JQ hN).mp (e1.trans e2.symm)
theorem vf {M:Iq} {A:Eg} {E:ς->Ω->Prop} {i:Nat} {x:Str} {v:V} {u:ς} {Q:Unit->Ω->Prop} (I:Inv X pins σ H s) (hN:X.N.Nodup) (hi:X.N[i]?=some x) (hx:Loc X.env.scope x) (r:aL v u)
    (h:∀ s',Inv X pins (σ.set i (some v)) H s'->(∃ a,F2 a s.heap s'.heap/\(a=X.env.locals\/X.env.cells.lookup x=some a))->Q () s') (hf:X.fn x=true\/X.env.scope.names.lookup x=some .local:=by first | exact .inl rfl | exact .inr rfl | assumption):EA M A (storeName X.env x u) Q E s:=by
  obtain ⟨m,hn,hl⟩:=id I.loc;have hcls:(X.env.scope.kind==.class||(X.env.scope.kind==.module&&X.env.locals != X.env.globals))=false:=by rw [I.ok.kind]; rfl
  have hiσ:i<σ.length:=by rw [I.len]; exact (Aw.mp hi).1
  have cne:=I.cne;have tracked:∀ {a:Δ} {h':E5},(∃ o,s.heap.get? a=some o/\H a=none)->F2 a s.heap h'->HOk X.prog X.w H h':=fun {a h'} ha hs b ob e=>by
    obtain ⟨_,_,hfree⟩:=ha;refine (I.hok b ob e).stay (fun c w' hc q=>(hs.2 c ?_).trans q) (fun _ q=>q) fun _ _ q=>q;rintro rfl;rcases hc with rfl | hc
    · rw [hfree] at e; cases e
    · rw [hfree] at hc; cases hc
  rcases hx with hk | hk
  · refine wpAny_storeName_local hk hn (fun h' hn' hs=>?_) hcls
    obtain ⟨oL,_,_,hoL,_⟩:=id hn;refine h _ ⟨I.ok,I.os,I.bare,⟨fun b o e n hb hx=>?_,fun b o e n hb hx=>?_,I.base.free,fun b o e hx=>?_,I.base.tups,I.base.frzs,I.base.tbls⟩,⟨_,hn',fun j y v' e1 e2 e3=>?_⟩,fun y c e=>?_,I.free,I.freeC,fun p hp=>?_,tracked ⟨oL,hoL,I.free⟩ hs,by simpa using I.len⟩ ⟨_,hs,.inl rfl⟩
    · exact (hs.2 b (D5 (EG (D0 e) I.ok.above))).trans (I.base.keep b o e n hb hx)
    · obtain ⟨sl,e1⟩:=I.base.slot b o e n hb hx
      exact ⟨sl,(hs.2 b (D5 (EG (D0 e) I.ok.above))).trans e1⟩
    · obtain ⟨o',e1⟩:=I.base.there b o e hx
      exact ⟨o',(hs.2 b (D5 (EG (D0 e) I.ok.above))).trans e1⟩
    · by_cases hj:j=i
      · subst hj
        rw [hi] at e1; cases e1;rw [Ht hiσ] at e2
        cases e2;exact ⟨u,r,.inl ⟨hk,by simp⟩⟩
      · rw [Jq (FH hj)] at e2
        obtain ⟨u',r',q⟩:=hl j y v' e1 e2 e3;refine ⟨u',r',?_⟩;rcases q with ⟨k,e⟩ | ⟨k,c,e,z⟩
        · refine .inl ⟨k,?_⟩
          have:y≠x:=fun e=>hj (j2 hN e1 (e ▸ hi))
          simp [this,e]
        · exact .inr ⟨k,c,e,z.sameBut hs (cne y c e)⟩
    · obtain ⟨w',z⟩:=I.cell y c e
      exact ⟨w',z.sameBut hs (cne y c e)⟩
    · obtain ⟨e,n,ne,nf,d⟩:=I.pin p hp
      exact ⟨(hs.2 p.1 ne).trans e,n,ne,nf,d⟩
  · have hfn:X.fn x=true:=by
      rcases hf with z | z
      · exact z
      · rw [z] at hk; cases hk
    obtain ⟨c,hc⟩:=I.ok.has x (.inl hk);obtain ⟨w',z⟩:=I.cell x c hc;refine wpAny_storeName_cell I.ok.kind hk hc z (fun h' hc' hs=>?_);obtain ⟨oc,hoc,hocd⟩:=id z;refine h { s with heap:=h' } ⟨I.ok,I.os,I.bare,⟨fun b o e n hb hx=>?_,fun b o e n hb hx=>?_,I.base.free,fun b o e hx=>?_,I.base.tups,I.base.frzs,I.base.tbls⟩,⟨m,hn.sameBut hs (FH (cne x c hc)),fun j y v' e1 e2 e3=>?_⟩,fun y c' e=>?_,I.free,I.freeC,fun p hp=>?_,tracked ⟨oc,hoc,I.freeC x c hc⟩ hs,by simpa using I.len⟩ ⟨c,hs,.inr hc⟩
    · exact (hs.2 b (D5 (EG (D0 e) (I.ok.cab x c hfn hc)))).trans (I.base.keep b o e n hb hx)
    · obtain ⟨sl,e1⟩:=I.base.slot b o e n hb hx
      exact ⟨sl,(hs.2 b (D5 (EG (D0 e) (I.ok.cab x c hfn hc)))).trans e1⟩
    · obtain ⟨o',e1⟩:=I.base.there b o e hx
      exact ⟨o',(hs.2 b (D5 (EG (D0 e) (I.ok.cab x c hfn hc)))).trans e1⟩
    · by_cases hj:j=i
      · subst hj
        rw [hi] at e1; cases e1;rw [Ht hiσ] at e2
        cases e2;exact ⟨u,r,.inr ⟨.inl hk,c,hc,hc'⟩⟩
      · rw [Jq (FH hj)] at e2
        obtain ⟨u',r',q⟩:=hl j y v' e1 e2 e3;refine ⟨u',r',?_⟩;rcases q with q | ⟨k,c',e,z'⟩
        · exact .inl q
        · refine .inr ⟨k,c',e,z'.sameBut hs ?_⟩
          rintro rfl;exact hj (j2 hN e1 (I.ok.inj _ _ _ e hc ▸ hi))
    · by_cases hcc:c'=c
      · subst hcc; exact ⟨_,hc'⟩
      · obtain ⟨w2,z2⟩:=I.cell y c' e
        exact ⟨w2,z2.sameBut hs hcc⟩
    · obtain ⟨e,n,ne,nf,d⟩:=I.pin p hp
      refine ⟨(hs.2 p.1 ?_).trans e,n,ne,nf,d⟩;intro q;rw [q,hoc] at e;have q':oc=p.2:=E4 e;exact d w' (by rw [<- q']; exact hocd)
theorem iL {M:Iq} {A:Eg} {E:ς->Ω->Prop} {i:Nat} {x:Str} {v:V} {u:ς} {Q:Unit->Ω->Prop} (I:Inv X pins σ H s) (hN:X.N.Nodup) (hi:X.N[i]?=some x) (hx:Loc X.env.scope x) (r:aL v u)
  (h:∀ s',Inv X pins (σ.set i (some v)) H s'->Q () s') (hf:X.fn x=true\/X.env.scope.names.lookup x=some .local:=by first | exact .inl rfl | exact .inr rfl | assumption):EA M A (storeName X.env x u) Q E s :=
 vf I hN hi hx r (fun s' I' _=>h s' I') hf
theorem Inv.call' {s':Ω} {ch:List Δ} (I:Inv X pins σ H s) (ho:s'.os=s.os) (u:Un (frs X.stack) ch H H' s.heap s'.heap) (hok:HOk X.prog X.w H' s'.heap) (hg:JH s'.gens)
  (hch:∀ b∈ch,(b∈X.ex\/X.s₀.heap.objs.size<=b)/\b≠X.env.locals/\(∀ x c,X.env.cells.lookup x=some c->c≠b)/\∀ p∈X.pn++pins,p.1≠b):Inv X pins σ H' s':=by
 obtain ⟨h',g',d',t',o'⟩:=s';have e:o'=s.os:=ho;subst e;exact I.call (g':=g') (t':=t') (d':=d') u hok hg hch
end
noncomputable abbrev XK:=ς->Option Δ->Hp->Prop
noncomputable abbrev St:=List (Option V)
noncomputable abbrev VK:=V->Hp->Prop
noncomputable abbrev TE:=St->Hp->VK->Prop
noncomputable abbrev TT:=St->Hp->(Bool->Hp->Prop)->Prop
noncomputable abbrev TA:=St->Hp->(List V->Hp->Prop)->Prop
structure cO where
 nx:St->Hp->Prop
 rt:VK
 bk:St->Hp->Prop:=fun _ _=>False
 ct:St->Hp->Prop:=fun _ _=>False
noncomputable abbrev TS:=cO->St->Hp->Prop
def EP (X:Cx) (pins:List (Δ×GN)) (σ:St) (Q:VK) (u:ς) (s':Ω):Prop:=∃ v H',Inv X pins σ H' s'/\aL v u/\Q v H'
def TP (X:Cx) (pins:List (Δ×GN)) (σ:St) (Q:Bool->Hp->Prop) (b:Bool) (s':Ω):Prop:=∃ H',Inv X pins σ H' s'/\Q b H'
def AP (X:Cx) (pins:List (Δ×GN)) (σ:St) (Q:List V->Hp->Prop) (us:List ς) (s':Ω):Prop:=∃ vs H',Inv X pins σ H' s'/\Vals vs us/\Q vs H'
def SP (X:Cx) (pins:List (Δ×GN)) (D:cO) (f:Flow) (s':Ω):Prop :=
 match f with
 | .next=>∃ σ' H',Inv X pins σ' H' s'/\D.nx σ' H'
 | .brk=>∃ σ' H',Inv X pins σ' H' s'/\D.bk σ' H'
 | .cont=>∃ σ' H',Inv X pins σ' H' s'/\D.ct σ' H'
 | .ret u=>∃ v σ' H',Inv X pins σ' H' s'/\aL v u/\D.rt v H'
def PE (X:Cx) (e:FE) (t:TE):Prop :=
 ∀ (pins:List (Δ×GN)) (s:Ω) (σ:St) (H:Hp) (Q:VK),Inv X pins σ H s->t σ H Q->EA (EH X.prog X.w) X.A (F3 e X.env) (EP X pins σ Q) X.xe s
def PT (X:Cx) (e:FE) (t:TT):Prop :=
 ∀ (pins:List (Δ×GN)) (s:Ω) (σ:St) (H:Hp) (Q:Bool->Hp->Prop),Inv X pins σ H s->t σ H Q->EA (EH X.prog X.w) X.A (isTrue e X.env (F3 e X.env)) (TP X pins σ Q) X.xe s
def PW (X:Cx) (e:FE) (t:TT):Prop :=
 ∀ (whole:KH ς) (pins:List (Δ×GN)) (s:Ω) (σ:St) (H:Hp) (Q:Bool->Hp->Prop),Inv X pins σ H s->t σ H Q->EA (EH X.prog X.w) X.A (isTrue e X.env whole) (TP X pins σ Q) X.xe s
theorem PW.pt {X:Cx} {e:FE} {t:TT} (h:PW X e t):PT X e t:=h _
def PA (X:Cx) (es:List FE) (t:TA):Prop :=
 ∀ (pos:HV) (pins:List (Δ×GN)) (s:Ω) (σ:St) (H:Hp) (Q:List V->Hp->Prop),Inv X pins σ H s->t σ H Q->EA (EH X.prog X.w) X.A (spliced (GW pos (EV es X.env))) (AP X pins σ Q) X.xe s
def PS (X:Cx) (st:Ie) (t:TS):Prop :=
 ∀ (pins:List (Δ×GN)) (s:Ω) (σ:St) (H:Hp) (D:cO),Inv X pins σ H s->t D σ H->EA (EH X.prog X.w) X.A (exec st X.env) (SP X pins D) X.xe s
def PSs (X:Cx) (st:List Ie) (t:TS):Prop :=
 ∀ (pins:List (Δ×GN)) (s:Ω) (σ:St) (H:Hp) (D:cO),Inv X pins σ H s->t D σ H->EA (EH X.prog X.w) X.A (execs st X.env) (SP X pins D) X.xe s
theorem thn {α:Type} {t:KH α} {Q Q':α->Ω->Prop} {M:Iq} {A:Eg} {E:ς->Ω->Prop} {s:Ω} (h:EA M A t Q E s) (hQ:∀ a s,Q a s->Q' a s):EA M A t Q' E s:=E8 h hQ fun _ _ x=>x
section
variable {X:Cx}
def CC (i:Nat):TE:=fun σ H Q=>∃ v,σ[i]?=some (some v)/\Q v H
def tC (v:V):TE:=fun _ H Q=>Q v H
theorem BZ {i:Nat} {x:Str} {pos:HV} (hN:X.N[i]?=some x) (hv:Vis X.env.scope x) (hd:(x==("__debug__":Str))=false:=by decide) (hcd:(x==("__classdict__":Str))=false:=by decide):PE X (.Name x pos) (CC i):=by
 intro pins s σ H Q I h;obtain ⟨v,e,h⟩:=h;obtain ⟨m,hn,hl⟩:=I.loc;obtain ⟨u,r,l⟩:=hl i x v hN e hv;have fin:EP X pins σ Q u s:=⟨v,H,I,r,h⟩
 rcases l with ⟨hk,hm⟩ | ⟨hk,c,hc,hcell⟩
 ·exact wpAny_Name (wpAny_loadName_local I.ok.kind hk hn hm fin) hd
 ·rcases hk with hk | hk
  ·exact wpAny_Name (wpAny_loadName_cell I.ok.kind hk hc hcell fin) hd
  ·exact wpAny_Name (wpAny_loadName_free I.ok.kind hk hc hcell fin hcd) hd
theorem ah {i j pos}:PE X (.Constant (.int i) j pos) (tC (.int i)):=fun _ _ _ H _ I h=>wpAny_Constant_int ⟨.int i,H,I.tok _,⟨_,rfl⟩,h⟩
theorem eu {b j pos}:PE X (.Constant (.bool b) j pos) (tC (.bl b)):=fun _ _ _ H _ I h=>Constant_bool ⟨.bl b,H,I,rfl,h⟩
theorem q8 {j pos}:PE X (.Constant .none j pos) (tC .non):=fun _ _ _ H _ I h=>Constant_none ⟨.non,H,I,rfl,h⟩
theorem bS {x j pos}:PE X (.Constant (.str x) j pos) (tC (.str x)):=fun _ _ _ H _ I h=>Calls.Constant_str ⟨.str x,H,I.tok _,⟨_,rfl⟩,h⟩
def Gl (X:Cx) (x:Str):Prop:=X.env.kindOf x=some .globalImplicit
theorem d9 {E:ς->Ω->Prop} {pins:List (Δ×GN)} {s:Ω} {σ:St} {H:Hp} {x:Str} {u:ς} {pos:HV} {Q:ς->Ω->Prop} (I:Inv X pins σ H s) (hg:Gl X x) (hm:X.mg x=some u) (h:Q u s)
  (hd:(x==("__debug__":Str))=false:=by decide):EA (EH X.prog X.w) X.A (F3 (.Name x pos) X.env) Q E s :=
 K_ I.ok.kind hg (Calls.loadGlobal_global (by rw [I.ok.glob]; exact I.mod.glob.keeps I.bk) hm h) hd
theorem cX {E:ς->Ω->Prop} {pins:List (Δ×GN)} {s:Ω} {σ:St} {H:Hp} {x:Str} {u:ς} {pos:HV} {Q:ς->Ω->Prop} (I:Inv X pins σ H s) (hg:Gl X x) (hm:X.mg x=none) (hv:FA x=some u) (h:Q u s)
  (hn:x≠"__name__":=by decide) (hd:(x==("__debug__":Str))=false:=by decide):EA (EH X.prog X.w) X.A (F3 (.Name x pos) X.env) Q E s:=by
 obtain ⟨mb,h1,h2⟩:=I.mod.blt;exact K_ I.ok.kind hg (Calls.loadGlobal_builtin (by rw [I.ok.glob]; exact I.mod.glob.keeps I.bk) hm (by rw [I.ok.blt]; exact h1.keeps I.bk) ((h2 x hn).trans hv) h) hd
theorem eD {x:Str} {v:V} {u:ς} {pos:HV} (hg:Gl X x) (hm:X.mg x=some u) (r:aL v u) (hd:(x==("__debug__":Str))=false:=by decide):PE X (.Name x pos) (tC v) :=
 fun _ _ _ H _ I h=>d9 I hg hm ⟨v,H,I,r,h⟩ hd
theorem bW {x:Str} {v:V} {u:ς} {pos:HV} (hg:Gl X x) (hm:X.mg x=none) (hv:FA x=some u) (r:aL v u) (hn:x≠"__name__":=by decide) (hd:(x==("__debug__":Str))=false:=by decide):PE X (.Name x pos) (tC v) :=
 fun _ _ _ H _ I h=>cX I hg hm hv ⟨v,H,I,r,h⟩ hn hd
variable {a b:FE} {ta tb:TE} {pos:HV}
def PC (X:Cx) (op:Lg) (a b:FE) (t:TE):Prop :=
 ∀ (pins:List (Δ×GN)) (s:Ω) (σ:St) (H:Hp) (Q:VK),Inv X pins σ H s->t σ H Q ->
  EA (EH X.prog X.w) X.A (F3 a X.env) (fun v s₁=>EA (EH X.prog X.w) X.A (F3 b X.env) (fun u s₂=>EA (EH X.prog X.w) X.A (F8 op v u) (EP X pins σ Q) X.xe s₂) X.xe s₁) X.xe s
def tB (t:TE):TT:=fun σ H Q=>t σ H fun x H1=>∃ c,x=.bl c/\Q c H1
theorem wX {op:Lg} {t:TE} (h:PC X op a b t) (h1:HP op b=false:=by first | exact nobehind _ (by decide) (by decide) | rfl):PE X (.Compare a [op] [b] pos) t:=fun pins s σ H Q I hw=>wpAny_Compare1 (h pins s σ H Q I hw) h1
theorem xr {op:Lg} {t:TE} (h:PC X op a b t) (h1:HP op b=false:=by first | exact nobehind _ (by decide) (by decide) | rfl):PT X (.Compare a [op] [b] pos) (tB t):=by
 intro pins s σ H Q I hw;refine wpAny_isTrue_Compare1 (thn (h pins s σ H _ I hw) fun v s1 h1=>thn h1 fun u s2 h2=>thn h2 fun c s3 ⟨x,H1,I1,r1,q1⟩=>?_) h1;obtain ⟨d,rfl,q⟩:=q1
 cases r1;exact F1 ⟨H1,I1,q⟩
theorem bO {e:FE} {t:TE} (h:PE X e t) (he:∀ whole,isTrue e X.env whole=(do let v <- whole; standAt e.pos; Jv [v] (truthy v)):=by intro _; rfl):PT X e (tB t):=by
 intro pins s σ H Q I hw;refine isTrue_plain (thn (h pins s σ H _ I hw) fun v s1 ⟨x,H1,I1,r1,q1⟩=>?_) (he _);obtain ⟨d,rfl,q⟩:=q1
 cases r1;exact F1 ⟨H1,I1,q⟩
variable {tA tB':TT} {gw:List FE}
def Dr (t u:TT):TT:=fun σ H Q=>t σ H fun c H1=>if c=true then u σ H1 Q else Q false H1
def tOr (t u:TT):TT:=fun σ H Q=>t σ H fun c H1=>if c=true then Q true H1 else u σ H1 Q
def Dx (t:TT):TT:=fun σ H Q=>t σ H fun c H1=>Q (!c) H1
theorem fi (ha:PT X a tA):PW X (.BoolOp .And [a] pos) tA:=by
 intro wh pins s σ H Q I h;refine isTrue_and (thn (ha pins s σ H Q I h) fun c s1 e=>?_)
 cases c with
 | true=>exact isTrue_and_nil e
 | false=>exact e
theorem nF (ha:PT X a tA):PW X (.BoolOp .Or [a] pos) tA:=by
 intro wh pins s σ H Q I h;refine isTrue_or (thn (ha pins s σ H Q I h) fun c s1 e=>?_)
 cases c with
 | false=>exact isTrue_or_nil e
 | true=>exact e
theorem fN (ha:PT X a tA) (hb:PW X (.BoolOp .And (b::gw) pos) tB'):PW X (.BoolOp .And (a::b::gw) pos) (Dr tA tB'):=by
 intro wh pins s σ H Q I h;refine isTrue_and (thn (ha pins s σ H _ I h) fun c s1 ⟨H1,I1,q1⟩=>?_)
 cases c with
 | true=>exact hb wh pins s1 σ H1 Q I1 q1
 | false=>exact ⟨H1,I1,q1⟩
theorem sY (ha:PT X a tA) (hb:PW X (.BoolOp .Or (b::gw) pos) tB'):PW X (.BoolOp .Or (a::b::gw) pos) (tOr tA tB'):=by
 intro wh pins s σ H Q I h;refine isTrue_or (thn (ha pins s σ H _ I h) fun c s1 ⟨H1,I1,q1⟩=>?_)
 cases c with
 | true=>exact ⟨H1,I1,q1⟩
 | false=>exact hb wh pins s1 σ H1 Q I1 q1
theorem cY (ha:PT X a tA):PT X (.UnaryOp .Not a pos) (Dx tA):=by
 intro pins s σ H Q I h;exact isTrue_not (ha pins s σ H (fun c H1=>Q (!c) H1) I h)
def A7 (ta tb:TE):TE:=fun σ H Q=>ta σ H fun x H1=>∃ c,x=.bl c/\if c=true then tb σ H1 Q else Q (.bl false) H1
def Bg (ta:TE):TE:=fun σ H Q=>ta σ H fun x H1=>∃ c,x=.bl c/\Q (.bl (!c)) H1
theorem ki {op} {t:TE} (h:PE X a t):PE X (.BoolOp op [a] pos) t:=fun pins s σ H Q I hw=>BoolOp_one (h pins s σ H Q I hw)
theorem j9 (ha:PE X a ta) (hb:PE X (.BoolOp .And (b::gw) pos) tb):PE X (.BoolOp .And (a::b::gw) pos) (A7 ta tb):=by
 intro pins s σ H Q I h;refine BoolOp_and (thn (ha pins s σ H _ I h) fun v s1 ⟨x,H1,I1,r1,q1⟩=>?_);obtain ⟨c,rfl,q1⟩:=q1
 cases r1;refine F1 ?_
 cases c with
 | true=>exact hb pins s1 σ H1 Q I1 q1
 | false=>exact ⟨.bl false,H1,I1,rfl,q1⟩
theorem BY (ha:PE X a ta):PE X (.UnaryOp .Not a pos) (Bg ta):=by
 intro pins s σ H Q I h;refine UnaryOp_ (thn (ha pins s σ H _ I h) fun v s1 ⟨x,H1,I1,r1,q1⟩=>?_);obtain ⟨c,rfl,q1⟩:=q1
 cases r1;exact not_of (F1 ⟨.bl (!c),H1,I1,rfl,q1⟩)
def tIf (t:TT) (ta tb:TE):TE:=fun σ H Q=>t σ H fun c H1=>if c=true then ta σ H1 Q else tb σ H1 Q
theorem kg {c:FE} (hc:PT X c tA) (ha:PE X a ta) (hb:PE X b tb):PE X (.IfExp c a b pos) (tIf tA ta tb):=by
 intro pins s σ H Q I h;refine wpAny_IfExp (thn (hc pins s σ H _ I h) fun d s1 ⟨H1,I1,q1⟩=>?_)
 cases d with
 | true=>exact ha pins s1 σ H1 Q I1 q1
 | false=>exact hb pins s1 σ H1 Q I1 q1
end
def SqL (K:W.Frag) (H:Hp) (a:Δ) (xs:List V):Prop :=
 Rd H a (.lst xs) \/
  ∃ (o:GN) (its:Array ς) (n:Nat),K.lookup a=some o/\o.cls=.type "list"/\o.dict=none/\o.data=.seq its n/\its.size<=D7/\Vals xs its.toList
def SqT (K:W.Frag) (H:Hp) (a:Δ) (xs:List V):Prop :=
 Rd H a (.tup xs) \/
  ∃ (o:GN) (its:Array ς) (n:Nat),K.lookup a=some o/\o.cls=.type "tuple"/\o.data=.seq its n/\its.size<=D7/\Vals xs its.toList
noncomputable def DJ:ς->Option V
 | .none=>some .non
 | .bool b=>some (.bl b)
 | .int i _=>some (.int i)
 | .str x _=>some (.str x)
 | .bytes b _=>some (.byt b)
 | .float b _=>some (.flt b)
 | .ref a=>some (.ref a)
 | .type n=>some (.ty n)
 | _=>none
theorem aL.abs {x:V} {u:ς} (r:aL x u):DJ u=some x:=by
 cases x with
 | non=>cases r; rfl
 | bl _=>cases r; rfl
 | int _=>obtain ⟨t,rfl⟩:=r; rfl
 | str _=>obtain ⟨t,rfl⟩:=r; rfl
 | byt _=>obtain ⟨t,rfl⟩:=r; rfl
 | flt _=>obtain ⟨t,rfl⟩:=r; rfl
 | ref _=>cases r; rfl
 | ty _=>cases r; rfl
theorem aL.inj {x y:V} {u:ς} (r:aL x u) (q:aL y u):x=y:=E4 (r.abs.symm.trans q.abs)
theorem Vals.inj:∀ {xs ys:List V} {us:List ς},Vals xs us->Vals ys us->xs=ys
 | _,_,_,.nil,.nil=>rfl
 | _,_,_,.cons r t,.cons r' t'=>by rw [r.inj r',Vals.inj t t']
section
variable {X:Cx} {pins:List (Δ×GN)} {σ:St} {H:Hp} {s:Ω} {a:Δ} {xs ys:List V}
theorem SqL.of {K:W.Frag} (h:H a=some (.lst xs)):SqL K H a xs:=.inl (.inl h)
theorem SqT.of {K:W.Frag} (h:H a=some (.tup xs)):SqT K H a xs:=.inl (.inl h)
theorem Inv.list (I:Inv X pins σ H s) (h:SqL X.K H a xs):∃ its:List ς,Vals xs its/\PlainL s.heap a its.toArray/\xs.length<=sizeLine:=by
 rcases h with h | ⟨o,its,n,hk,hc,hd,hs,hz,r⟩
 ·obtain ⟨z,its,n,r,e⟩:=h.ok I.hok;exact ⟨its,r,⟨_,n,e,rfl,rfl,rfl⟩,z⟩
 ·refine ⟨its.toList,r,⟨o,n,I.kIn a o hk,hc,hd,by simpa using hs⟩,?_⟩;have e:=r.length;simp only [EC] at e;omega
theorem Inv.tuple (I:Inv X pins σ H s) (h:SqT X.K H a xs):∃ its:List ς,Vals xs its/\IsTup s.heap a its.toArray/\xs.length<=sizeLine:=by
 rcases h with h | ⟨o,its,n,hk,hc,hs,hz,r⟩
 ·obtain ⟨z,its,r,p⟩:=h.ok I.hok;exact ⟨its,r,p,z⟩
 ·refine ⟨its.toList,r,⟨o,I.kIn a o hk,hc,n,by simpa using hs⟩,?_⟩;have e:=r.length;simp only [EC] at e;omega
theorem Inv.list_inj (I:Inv X pins σ H s) (h:SqL X.K H a xs) (h':SqL X.K H a ys):xs=ys:=by
 obtain ⟨its,r,⟨o,n,e,_,_,d⟩,_⟩:=I.list h;obtain ⟨its',r',⟨o',n',e',_,_,d'⟩,_⟩:=I.list h';rw [e] at e'; cases e';rw [d] at d';injection d' with d1 _;have:its=its':=by simpa using congrArg Array.toList d1
 subst this;exact r.inj r'
end
noncomputable abbrev Cx.wish (X:Cx) (E:ς->Ω->Prop):Cx:={ X with xe:=E }
noncomputable abbrev Cx.nox (X:Cx):Cx:=X.wish fun _ _=>False
theorem Cx.Ok.wish {X:Cx} (ok:X.Ok) (E:ς->Ω->Prop):(X.wish E).Ok :=
 ⟨ok.mod,ok.kind,ok.glob,ok.blt,ok.above,ok.inj,ok.has,ok.cab,ok.hd,ok.frames,ok.stk,ok.exf,ok.bs,ok.bsz,ok.noex,ok.exfs,ok.funs,ok.frf⟩
theorem Cx.Ok.unwish {X:Cx} {E:ς->Ω->Prop} (ok:(X.wish E).Ok):X.Ok :=
 ⟨ok.mod,ok.kind,ok.glob,ok.blt,ok.above,ok.inj,ok.has,ok.cab,ok.hd,ok.frames,ok.stk,ok.exf,ok.bs,ok.bsz,ok.noex,ok.exfs,ok.funs,ok.frf⟩
section
variable {X:Cx} {pins:List (Δ×GN)} {σ:St} {H:Hp} {s:Ω} {E:ς->Ω->Prop}
theorem Inv.wish (I:Inv X pins σ H s) (E:ς->Ω->Prop):Inv (X.wish E) pins σ H s:=⟨I.ok.wish E,I.os,I.bare,I.base,I.loc,I.cell,I.free,I.freeC,I.pin,I.hok,I.len⟩
theorem Inv.unwish (I:Inv (X.wish E) pins σ H s):Inv X pins σ H s:=⟨I.ok.unwish,I.os,I.bare,I.base,I.loc,I.cell,I.free,I.freeC,I.pin,I.hok,I.len⟩
theorem SP.unwish {D:cO} {f:Flow} {s':Ω} (h:SP (X.wish E) pins D f s'):SP X pins D f s':=by
 cases f with
 | next=>obtain ⟨σ',H',I,q⟩:=h; exact ⟨σ',H',I.unwish,q⟩
 | brk=>obtain ⟨σ',H',I,q⟩:=h; exact ⟨σ',H',I.unwish,q⟩
 | cont=>obtain ⟨σ',H',I,q⟩:=h; exact ⟨σ',H',I.unwish,q⟩
 | ret u=>obtain ⟨v,σ',H',I,r,q⟩:=h; exact ⟨v,σ',H',I.unwish,r,q⟩
theorem PSs.nox {st:List Ie} {t:TS} (h:PSs X.nox st t):PSs X st t:=fun pins s σ H D I hw =>
 E8 (h pins s σ H D (I.wish _) hw) (fun _ _ q=>q.unwish) fun _ _ z=>Es z
end
section
variable {X:Cx} {st:Ie} {gw:List Ie} {t u:TS} {e:FE} {te:TE} {pos:HV}
def Bf:TS:=fun D σ H=>D.nx σ H
def CB (t u:TS):TS:=fun D σ H=>t { D with nx:=u D } σ H
theorem aM:PSs X [] Bf:=fun _ _ σ H _ I h=>Jy ⟨σ,H,I,h⟩
theorem aK (h1:PS X st t) (h2:PSs X gw u):PSs X (st::gw) (CB t u):=by
 intro pins s σ H D I h;refine wpAny_execs_cons (thn (h1 pins s σ H { D with nx:=u D } I h) fun f s1 q=>?_)
 cases f with
 | next =>
  obtain ⟨σ',H',I',q⟩:=q;exact h2 pins s1 σ' H' D I' q
 | ret v=>exact q
 | brk=>exact q
 | cont=>exact q
theorem ao (h1:PS X st t):PSs X [st] t:=by
 intro pins s σ H D I h;refine wpAny_execs_cons (thn (h1 pins s σ H D I h) fun f s1 q=>?_)
 cases f with
 | next=>exact Jy q
 | ret v=>exact q
 | brk=>exact q
 | cont=>exact q
theorem Inv.quiet {pins:List (Δ×GN)} {σ:St} {H:Hp} {s:Ω} (I:Inv X pins σ H s):interactive X.env=false:=by simp [interactive,I.ok.kind]
def Bc (te:TE):TS:=fun D σ H=>te σ H fun _ H1=>D.nx σ H1
theorem bo (he:PE X e te) (hs:KO e none pos.line X.env=pure false:=by rfl):PS X (.Expr e pos) (Bc te):=by
 intro pins s σ H D I h;exact wpAny_Expr_any (thn (he pins s σ H _ I h) fun v s1 ⟨x,H1,I1,r1,q1⟩=>⟨σ,H1,I1,q1⟩) I.quiet hs
def Dy (te:TE):TS:=fun D σ H=>te σ H D.rt
theorem aD (he:PE X e te):PS X (.Return (some e) pos) (Dy te):=by
 intro pins s σ H D I h;exact wpAny_Return_some (thn (he pins s σ H _ I h) fun v s1 ⟨x,H1,I1,r1,q1⟩=>⟨x,σ,H1,I1,r1,q1⟩)
def Dv (c:TT) (t u:TS):TS:=fun D σ H=>c σ H fun b H1=>if b=true then t D σ H1 else u D σ H1
theorem bD {c:FE} {a b:List Ie} {tc:TT} (hc:PT X c tc) (ha:PSs X a t) (hb:PSs X b u):PS X (.If c a b pos) (Dv tc t u):=by
 intro pins s σ H D I h;refine wpAny_If (thn (hc pins s σ H _ I h) fun d s1 ⟨H1,I1,q1⟩=>?_)
 cases d with
 | true=>exact ha pins s1 σ H1 D I1 q1
 | false=>exact hb pins s1 σ H1 D I1 q1
def Cz:TS:=fun _ _ _=>False
theorem uH {sts:List Ie}:PSs X sts Cz:=fun _ _ _ _ _ _ h=>h.elim
end
noncomputable abbrev TG:=V->St->Hp->(St->Hp->Prop)->Prop
noncomputable abbrev TGs:=List V->St->Hp->(St->Hp->Prop)->Prop
def PG (X:Cx) (target:FE) (t:TG):Prop :=
 ∀ (pins:List (Δ×GN)) (s:Ω) (σ:St) (H:Hp) (v:V) (u:ς) (Q:St->Hp->Prop),Inv X pins σ H s->aL v u->t v σ H Q ->
  EA (EH X.prog X.w) X.A (assign target X.env u) (fun _ s'=>∃ σ' H',Inv X pins σ' H' s'/\Q σ' H') X.xe s
def PGs (X:Cx) (ts:List FE) (t:TGs):Prop :=
 ∀ (pins:List (Δ×GN)) (s:Ω) (σ:St) (H:Hp) (vs:List V) (us:List ς) (Q:St->Hp->Prop),Inv X pins σ H s->Vals vs us->t vs σ H Q ->
  EA (EH X.prog X.w) X.A (assignInOrder ((JN ts X.env).map (·.2)) us) (fun _ s'=>∃ σ' H',Inv X pins σ' H' s'/\Q σ' H') X.xe s
noncomputable abbrev DI:=V->V->V->Hp->(Hp->Prop)->Prop
section
variable {X:Cx} {pos:HV}
def cR (i:Nat):TG:=fun v σ H Q=>Q (σ.set i (some v)) H
theorem aw {i:Nat} {x:Str} (hN:X.N.Nodup) (hi:X.N[i]?=some x) (hx:Loc X.env.scope x) (hf:X.fn x=true\/X.env.scope.names.lookup x=some .local:=by first | exact .inl rfl | exact .inr rfl | assumption):PG X (.Name x pos) (cR i):=by
 intro pins s σ H v u Q I r h;exact wpAny_assign_Name (iL I hN hi hx r (fun s' I'=>⟨_,H,I',h⟩) hf)
def vR:TGs:=fun vs σ H Q=>vs=[]/\Q σ H
def jd (t:TG) (u:TGs):TGs:=fun vs σ H Q=>∃ v r,vs=v::r/\t v σ H fun σ' H'=>u r σ' H' Q
theorem cH:PGs X [] vR:=by
 intro pins s σ H vs us Q I r h;obtain ⟨e,h⟩:=h;subst e
 cases r;exact assignInOrder_nil ⟨σ,H,I,h⟩
theorem aU {e:FE} {es:List FE} {t:TG} {u:TGs} (h1:PG X e t) (h2:PGs X es u)
  (hs:(JN (e::es) X.env).map (·.2)=assign e X.env::(JN es X.env).map (·.2):=by rfl):PGs X (e::es) (jd t u):=by
 intro pins s σ H vs us Q I r h;obtain ⟨v,vr,e1,h⟩:=h;subst e1
 cases r with
 | cons r rr =>
  rw [hs];refine assignInOrder_cons (thn (h1 pins s σ H _ _ _ I r h) fun _ s1 ⟨σ1,H1,I1,q1⟩=>?_);exact h2 pins s1 σ1 H1 _ _ Q I1 rr q1
def ub (K:W.Frag) (n:Nat) (t:TGs):TG:=fun v σ H Q=>∃ a xs,v=.ref a/\SqT K H a xs/\xs.length=n/\t xs σ H Q
theorem B0 {es:List FE} {k:Nat} {t:TGs} {n:Nat} (hc:X.calm=true) (h:PGs X es t)
  (hn:(JN es X.env).length=n:=by rfl) (hst:(JN es X.env).findIdx? (·.1)=none:=by rfl):PG X (.Tuple es k pos) (ub X.K n t):=by
 intro pins s σ H v u Q I r hw;obtain ⟨a,xs,e1,hq,hl,hw⟩:=hw;subst e1
 cases r;obtain ⟨its,rv,ht,hz⟩:=I.tuple hq;refine assign_Tuple_tuple (I.ok.hd hc) ht (by simp [hn,<- hl,rv.length]) hst fun h' hx=>?_;have I1:Inv X pins σ H { s with heap:=h' }:=I.kept (t':=s.toks) fun b o e=>hx b o (D5 (D0 e)) e;exact h pins _ σ H xs _ Q I1 (by simpa using rv) hw
def AA (te:TE) (g:TG):TS:=fun D σ H=>te σ H fun x H1=>g x σ H1 D.nx
theorem fg {i:Nat} {x:Str} {e:FE} {te:TE} {pos':HV} (hN:X.N.Nodup) (hi:X.N[i]?=some x) (hx:Loc X.env.scope x) (he:PE X e te) (hs:KO e (some (.Name x pos')) pos.line X.env=pure false:=by rfl) (hf:X.fn x=true\/X.env.scope.names.lookup x=some .local:=by first | exact .inl rfl | exact .inr rfl | assumption) :
  PS X (.Assign [.Name x pos'] e pos) (AA te (cR i)):=by
 intro pins s σ H D I h;refine wpAny_Assign_Name (thn (he pins s σ H _ I h) fun v s1 ⟨y,H1,I1,r1,q1⟩=>?_) hs;exact iL I1 hN hi hx r1 (fun s2 I2=>⟨_,H1,I2,q1⟩) hf
def yT (c:TT) (tb:TS):TS:=fun D σ H=>∃ W:Nat->St->Hp->Prop,(∃ m,W m σ H)/\∀ m σ H,W m σ H ->
 c σ H fun b H1=>if b=true then ∃ N:St->Hp->Prop,(∀ σ' H',N σ' H'->∃ m',m'<m/\W m' σ' H')/\tb { D with nx:=N,ct:=N,bk:=D.nx } σ H1 else D.nx σ H1
theorem km {c:FE} {body:List Ie} {tc:TT} {tb:TS} (hp:PassesOwn (EH X.prog X.w) X.A X.env X.xe) (hc:PT X c tc) (hb:PSs X body tb):PS X (.While c body [] pos) (yT tc tb):=by
 intro pins s σ H D I h;obtain ⟨W,⟨m0,w0⟩,turn⟩:=h;refine wpAny_While (codeAny_whileLoop (fun n s'=>∃ σ' H',Inv X pins σ' H' s'/\W n σ' H') ?_ m0 ⟨σ,H,I,w0⟩);rintro n s1 ⟨σ1,H1,I1,w1⟩;refine HJ hp (thn (hc pins s1 σ1 H1 _ I1 (turn n σ1 H1 w1)) fun b s2 ⟨H2,I2,q2⟩=>?_)
 cases b with
 | true =>
  obtain ⟨N,hN,q2⟩:=q2;rw [if_pos rfl];refine HJ hp (thn (hb pins s2 σ1 H2 _ I2 q2) fun f s3 q3=>?_)
  cases f with
  | next =>
   obtain ⟨σ3,H3,I3,n3⟩:=q3;obtain ⟨m',hm,w3⟩:=hN σ3 H3 n3;exact ⟨m',hm,σ3,H3,I3,w3⟩
  | cont =>
   obtain ⟨σ3,H3,I3,n3⟩:=q3;obtain ⟨m',hm,w3⟩:=hN σ3 H3 n3;exact ⟨m',hm,σ3,H3,I3,w3⟩
  | brk => exact q3
  | ret v => exact q3
 | false =>
  rw [if_neg Ei];exact Jy ⟨σ1,H2,I2,q2⟩
end
structure It where
 go:Nat->Hp->Prop
 yld:Nat->Hp->V->Hp->Prop
 stop:Nat->Hp->Prop
def gB (X:Cx) (pins:List (Δ×GN)) (H:Hp) (b:Δ):Prop :=
 H b=none/\b≠X.env.locals/\b∉X.fs/\(b∈X.ex\/X.s₀.heap.objs.size<=b)/\(∀ x c,X.env.cells.lookup x=some c->c≠b)/\∀ p∈X.pn++pins,p.1≠b
theorem Inv.fpOk {X:Cx} {pins:List (Δ×GN)} {σ:St} {H H':Hp} {s:Ω} {b:Δ} (I:Inv X pins σ H s) (hb:s.heap.objs.size<=b) (hn:H' b=none):gB X pins H' b:=by
 refine ⟨hn,Kc (EG I.lt hb),I.nofs hb,.inr (Ew I.sz hb),fun x c e z=>?_,fun p hp z=>?_⟩
 ·obtain ⟨v,q⟩:=I.cell x c e;exact absurd (EG q.lt (by rw [z]; exact hb)) (Fo _)
 ·exact absurd (EG (D0 (I.pin p hp).1) (by rw [z]; exact hb)) (Fo _)
structure oF (P:D_) (w:Eh) (K:W.Frag) (tg:FE) (J:It) (fp:List Δ) (it:Δ) (tn:Nat->E5->Prop):Prop where
 mem:it∈fp
 obj:∀ i h,tn i h->∀ b∈fp,∃ o,h.get? b=some o/\∀ v,o.data≠.cell v
 keep:∀ i h h',tn i h->(∀ b∈fp,∀ o,h.get? b=some o->h'.get? b=some o)->tn i h'
 item:∀ (X:Cx),X.prog=P->X.w=w->X.K=K->X.calm=true->∀ (i:Nat) (pins:List (Δ×GN)) (s:Ω) (σ:St) (H:Hp) (E:ς->Ω->Prop),Inv X pins σ H s->(∀ b∈fp,gB X pins H b)->tn i s.heap->J.go i H ->
  EA (EH P w) X.A (Ja (.ref it)) (fun r s1=>∃ u,r=some u /\
   EA (EH P w) X.A (Jz tg (.ref it) u) (fun _ s2=>∃ x H',Inv X pins σ H' s2/\aL x u/\J.yld i H x H'/\tn (i+1) s2.heap/\∀ b∈fp,H' b=none) E s1) E s
 done:∀ (X:Cx),X.prog=P->X.w=w->X.K=K->X.calm=true->∀ (i:Nat) (pins:List (Δ×GN)) (s:Ω) (σ:St) (H:Hp) (E:ς->Ω->Prop),Inv X pins σ H s->(∀ b∈fp,gB X pins H b)->tn i s.heap->J.stop i H ->
  EA (EH P w) X.A (Ja (.ref it)) (fun r s1=>r=none/\Inv X pins σ H s1) E s
 self:∀ (A:Eg) (i:Nat) (s:Ω) (Q:ς->Ω->Prop) (E:ς->Ω->Prop),tn i s.heap->Q (.ref it) s->EA (EH P w) A (pyIter (.ref it)) Q E s
noncomputable abbrev TI:=St->Hp->(It->Hp->Prop)->Prop
def PIE (X:Cx) (pins:List (Δ×GN)) (σ:St) (tg:FE) (R:It->Hp->Prop) (itv:ς) (s2:Ω):Prop :=
 ∃ (it:Δ) (fp:List Δ) (tn:Nat->E5->Prop) (J:It) (H':Hp),itv=.ref it/\Inv X pins σ H' s2/\oF X.prog X.w X.K tg J fp it tn/\tn 0 s2.heap/\(∀ b∈fp,gB X pins H' b)/\R J H'
def PI (X:Cx) (tg iter:FE) (wi:TI):Prop :=
 ∀ (pins:List (Δ×GN)) (s:Ω) (σ:St) (H:Hp) (R:It->Hp->Prop),Inv X pins σ H s->wi σ H R ->
  EA (EH X.prog X.w) X.A (F3 iter X.env) (fun v s1=>EA (EH X.prog X.w) X.A (pyIter v) (PIE X pins σ tg R) X.xe s1) X.xe s
theorem sL {M:Iq} {A:Eg} {E:ς->Ω->Prop} {s:Ω} {tg:FE} {it:Δ} {u:ς} {o:GN} {n:String} {vs:Array ς} {Q:Unit->Ω->Prop} (ho:s.heap.get? it=some o) (hc:o.cls=.type n) (hd:o.data=.fields vs)
    (hn:["enumerate","zip","dict_itemiterator","dict_reverseitemiterator","odict_iterator","itertools.zip_longest","itertools.pairwise"].contains n=false) (hQ:Q () s):EA M A (Jz tg (.ref it) u) Q E s:=by
  unfold Jz
  cases tg<;>first
    | exact A_ hQ
    | (cases u<;>first
        | exact A_ hQ
        | (refine θ (wpAny_load ho ?_)
           rw [hc,hd]
           show EA M A (if (["enumerate","zip","dict_itemiterator","dict_reverseitemiterator","odict_iterator","itertools.zip_longest","itertools.pairwise"].contains n&&vs[0]?==some (HQ _))=true then _ else _) Q E s
           rw [if_neg (by intro h; rw [hn,Js] at h; cases h)];exact A_ hQ))
noncomputable def Itl (K:W.Frag) (a:Δ):It :=
 ⟨fun i H=>∃ xs x,SqL K H a xs/\xs[i]?=some x,fun i H x H'=>H'=H/\∀ xs,SqL K H a xs->xs[i]?=some x,fun i H=>∃ xs,SqL K H a xs/\xs.length<=i⟩
noncomputable def Itr (lo:Int) (n:Nat):It:=⟨fun i _=>i<n,fun i H x H'=>H'=H/\x=.int (lo+i),fun i _=>n<=i⟩
theorem vn {P:D_} {w:Eh} {K:W.Frag} {tg:FE} (a it:Δ):oF P w K tg (Itl K a) [it] it (fun i h=>h.IsListIter it a i) where
 mem:=by simp
 obj:=fun i h st b hb=>by
  have e:b=it:=by simpa using hb
  subst e;obtain ⟨o,e,c,d⟩:=st;exact ⟨o,e,fun v z=>by rw [d] at z; cases z⟩
 keep:=fun i h h' st k=>st.at fun o e=>k it (by simp) o e
 item:=by
  intro X hP hw hK hc i pins s σ H E I hf st hg;subst hP hw hK;obtain ⟨xs,x,hq,hx⟩:=hg;obtain ⟨its,rv,p,hz⟩:=I.list hq;obtain ⟨u,hu,ru⟩:=rv.get hx;obtain ⟨f0,f1,f2,f3,f4,f5⟩:=hf it (by simp);refine wpAny_pyNext_list_item st p.isList (x:=u) (by simpa using hu) fun h' st' sb=>?_;have I1:Inv X pins σ H { s with heap:=h' }:=I.turned (t':=s.toks) (fun b o hb e=>(sb.2 b hb).trans e) f0 f1 f3 f4 f5;obtain ⟨o,e,c,d⟩:=id st';exact ⟨u,rfl,sL (s:={ s with heap:=h' }) e c d (by decide) ⟨x,H,I1,ru,⟨rfl,fun ys hy=>by rw [I.list_inj hy hq]; exact hx⟩,st',fun b hb=>(hf b hb).1⟩⟩
 done:=by
  intro X hP hw hK hc i pins s σ H E I hf st hg;subst hP hw hK;obtain ⟨xs,hq,hx⟩:=hg;obtain ⟨its,rv,p,hz⟩:=I.list hq;obtain ⟨f0,f1,f2,f3,f4,f5⟩:=hf it (by simp);have hl:=rv.length;exact wpAny_pyNext_list_end (I.ok.hd hc) st p.isList (by simp; omega) fun h' eb=>⟨rfl,I.turned (t':=s.toks) (fun b o hb e=>eb b o hb e) f0 f1 f3 f4 f5⟩
 self:=fun _ _ _ _ _ st h=>wpAny_pyIter_listiter st h
theorem rW {P:D_} {w:Eh} {K:W.Frag} {tg:FE} (it:Δ) (lo:Int) (n:Nat):oF P w K tg (Itr lo n) [it] it (fun i h=>Lf h it (lo+(i:Nat)*1) ((n:Int) - (i:Nat)) 1) where
 mem:=by simp
 obj:=fun i h st b hb=>by
  have e:b=it:=by simpa using hb
  subst e;exact ⟨_,st,fun v z=>by
   have z':Data.fields _=Data.cell v:=z
   cases z'⟩
 keep:=fun i h h' st k=>k it (by simp) _ st
 item:=by
  intro X hP hw hK hc i pins s σ H E I hf st hg;subst hP hw hK;obtain ⟨f0,f1,f2,f3,f4,f5⟩:=hf it (by simp);have W:=Walks.range (prog:=X.prog) (w:=X.w) (I.ok.hd hc) it lo 1 n;refine W.item i s _ _ hg st fun v h' tk hv st' kk=>?_;obtain ⟨t,rfl⟩:=hv;have I1:Inv X pins σ H { s with heap:=h',toks:=tk }:=I.turned (fun b o hb e=>kk b o (by simpa using hb) e) f0 f1 f3 f4 f5;refine ⟨_,rfl,sL (s:={ s with heap:=h',toks:=tk }) (n:="range_iterator") st' rfl rfl (by decide) ⟨.int (lo+i),H,I1,⟨t,?_⟩,⟨rfl,rfl⟩,st',fun b hb=>(hf b hb).1⟩⟩;rw [Int.mul_one]
 done:=by
  intro X hP hw hK hc i pins s σ H E I hf st hg;subst hP hw hK;obtain ⟨f0,f1,f2,f3,f4,f5⟩:=hf it (by simp);exact wpAny_pyNext_range_end (I.ok.hd hc) st (by have:n<=i:=hg; omega) fun h' eb=>⟨rfl,I.turned (t':=s.toks) (fun b o hb e=>eb b o hb e) f0 f1 f3 f4 f5⟩
 self:=fun _ _ _ _ _ st h=>wpAny_pyIter_rangeiter st h
section
variable {X:Cx} {tg:FE}
def vX (K:W.Frag) (tl:TE):TI:=fun σ H R=>tl σ H fun x H1=>∃ a,x=.ref a/\(∃ xs,SqL K H1 a xs)/\R (Itl K a) H1
theorem bz {l:FE} {tl:TE} (hl:PE X l tl):PI X tg l (vX X.K tl):=by
 intro pins s σ H R I h;refine thn (hl pins s σ H _ I h) fun v s1 ⟨x,H1,I1,r1,q1⟩=>?_;obtain ⟨a,e,⟨xs,hq⟩,q⟩:=q1;subst e
 cases r1;obtain ⟨its,rv,p,hz⟩:=I1.list hq;refine JU p.isList ?_;refine ⟨s1.heap.objs.size,[s1.heap.objs.size],_,_,H1,rfl,I1.kept (t':=s1.toks) fun b o e=>χ _ e,vn a _,⟨_,D4 _ rfl,rfl,rfl⟩,fun b hb=>?_,q⟩;have e:b=s1.heap.objs.size:=by simpa using hb
 subst e;exact I1.fpOk (Av _) (I1.hok.fresh (Av _))
theorem pX {pins:List (Δ×GN)} {σ:St} {H:Hp} {s:Ω} {R:It->Hp->Prop} {E:ς->Ω->Prop} {lo hi:Int} {t u v:Tok} {tk:Nat} (I:Inv X pins σ H s) (h1:-(2 ^ 62)<=lo) (h2:lo<2 ^ 62) (h3:-(2 ^ 62)<=hi) (h4:hi<2 ^ 62)
  (q:R (Itr lo (hi - lo).toNat) H):EA (EH X.prog X.w) X.A (pyIter (.ref s.heap.objs.size)) (PIE X pins σ tg R) E { s with heap:=s.heap.push { cls:=.type "range",data:=.fields #[.int lo t,.int hi u,.int 1 v] },toks:=tk }:=by
 refine wpAny_pyIter_range (Lq ..) (small_one h1 h2 h3 h4) ?_;have I1:Inv X pins σ H { s with heap:=s.heap.push { cls:=.type "range",data:=.fields #[.int lo t,.int hi u,.int 1 v] },toks:=tk }:=I.kept fun b o e=>χ _ e;refine ⟨(s.heap.push { cls:=.type "range",data:=.fields #[.int lo t,.int hi u,.int 1 v] }).objs.size,[(s.heap.push { cls:=.type "range",data:=.fields #[.int lo t,.int hi u,.int 1 v] }).objs.size],_,_,H,rfl,
  I1.kept (t':=tk) fun b o e=>χ _ e,rW _ lo (hi - lo).toNat,?_,fun b hb=>?_,q⟩
 ·have e1:lo+((0:Nat):Int)*1=lo:=by simp
  have e2:(((hi - lo).toNat:Nat):Int) - ((0:Nat):Int)=GG lo hi 1:=by rw [rangeSize_one]; split<;>omega
  show Lf _ _ (lo+((0:Nat):Int)*1) ((((hi - lo).toNat:Nat):Int) - ((0:Nat):Int)) 1
  rw [e1,e2];exact D4 _ rfl
 ·have e:b=(s.heap.push { cls:=.type "range",data:=.fields #[.int lo t,.int hi u,.int 1 v] }).objs.size:=by simpa using hb
  subst e;exact I1.fpOk (Av _) (I1.hok.fresh (Av _))
def AN (ta:TA):TI:=fun σ H R=>ta σ H fun vs H1=>∃ j:Int,vs=[.int j]/\-(2 ^ 62)<=j/\j<2 ^ 62/\R (Itr 0 j.toNat) H1
def AO (ta:TA):TI:=fun σ H R=>ta σ H fun vs H1=>∃ i j:Int,vs=[.int i,.int j]/\(-(2 ^ 62)<=i/\i<2 ^ 62/\-(2 ^ 62)<=j/\j<2 ^ 62)/\R (Itr i (j - i).toNat) H1
theorem cC {a:FE} {ta:TA} {p pos:HV} (hg:Gl X "range") (hm:X.mg "range"=none) (ha:PA X [a] ta) (hs:EV [a] X.env=[(false,F3 a X.env)]:=by rfl):PI X tg (.Call (.Name "range" p) [a] [] pos) (AN ta):=by
 intro pins s σ H R I h;refine Call_ (cX I hg hm MB (FD (thn (ha pos pins s σ H _ I h) fun us s1 ⟨vs,H1,I1,r1,q1⟩=>?_) hs rfl));obtain ⟨j,e,q1,q2,q⟩:=q1;subst e
 cases r1 with
 | cons r rr =>
  cases rr;obtain ⟨t,rfl⟩:=r;exact call_range_1 (pX I1 (by omega) (by omega) q1 q2 (by simpa using q))
theorem iX {a b:FE} {ta:TA} {p pos:HV} (hg:Gl X "range") (hm:X.mg "range"=none) (ha:PA X [a,b] ta) (hs:EV [a,b] X.env=[(false,F3 a X.env),(false,F3 b X.env)]:=by rfl) (hs2:EV [b] X.env=[(false,F3 b X.env)]:=by rfl) :
  PI X tg (.Call (.Name "range" p) [a,b] [] pos) (AO ta):=by
 intro pins s σ H R I h;refine Call_ (cX I hg hm MB (FD (thn (ha pos pins s σ H _ I h) fun us s1 ⟨vs,H1,I1,r1,q1⟩=>?_) (by rw [hs,hs2]) (by rw [hs2]; rfl)));obtain ⟨i,j,e,⟨q1,q2,q3,q4⟩,q⟩:=q1;subst e
 cases r1 with
 | cons r rr =>
  cases rr with
  | cons r' rr =>
   cases rr;obtain ⟨t,rfl⟩:=r;obtain ⟨t',rfl⟩:=r';exact call_range_2 (pX I1 q1 q2 q3 q4 q)
def Du (wi:TI) (g:TG) (tb:TS):TS:=fun D σ H=>wi σ H fun J H1=>∃ W:Nat->Nat->St->Hp->Prop,(∃ m,W 0 m σ H1)/\∀ i m σ H,W i m σ H ->
 (J.stop i H/\D.nx σ H)\/(J.go i H/\∃ N:St->Hp->Prop,(∀ σ' H',N σ' H'->∃ m',m'<m/\W (i+1) m' σ' H')/\∀ x H',J.yld i H x H'->g x σ H' fun σ2 H2=>tb { D with nx:=N,ct:=N,bk:=D.nx } σ2 H2)
noncomputable def kj (fp:List Δ) (h:E5):List (Δ×GN):=fp.filterMap fun b=>(h.get? b).map fun o=>(b,o)
theorem fb {fp:List Δ} {h:E5} {b:Δ} {o:GN} (hb:b∈fp) (e:h.get? b=some o):(b,o)∈kj fp h:=Hg.mpr ⟨b,hb,by rw [e]; rfl⟩
theorem uy {fp:List Δ} {h:E5} {p:Δ×GN} (hp:p∈kj fp h):p.1∈fp/\h.get? p.1=some p.2:=by
 obtain ⟨b,hb,e⟩:=Hg.mp hp
 cases q:h.get? b with
 | none=>rw [q] at e; cases e
 | some o =>
  rw [q] at e;have e':(b,o)=p:=E4 e;subst e';exact ⟨hb,q⟩
theorem Inv.pinned {pins:List (Δ×GN)} {σ:St} {H:Hp} {s:Ω} {fp:List Δ} (I:Inv X pins σ H s) (hf:∀ b∈fp,gB X pins H b) (ho:∀ b∈fp,∃ o,s.heap.get? b=some o/\∀ v,o.data≠.cell v):Inv X (pins++kj fp s.heap) σ H s :=
 I.pins_of fun p hp=>(EE.mp hp).elim (fun z=>I.pin p (D6 _ z)) fun z=>by
  obtain ⟨hb,e⟩:=uy z;obtain ⟨f0,f1,f2,_⟩:=hf p.1 hb;obtain ⟨o,e',d⟩:=ho p.1 hb;rw [e] at e'; cases e';exact ⟨e,f0,f1,f2,d⟩
theorem Inv.unpinned {pins pl:List (Δ×GN)} {σ:St} {H:Hp} {s:Ω} (I:Inv X (pins++pl) σ H s):Inv X pins σ H s:=I.pins_of fun p hp=>I.pin p (D6 _ (Ea _ hp))
theorem bX {iter:FE} {body:List Ie} {wi:TI} {g:TG} {tb:TS} {pos:HV} (hp:PassesOwn (EH X.prog X.w) X.A X.env X.xe) (hc:X.calm=true) (hi:PI X tg iter wi) (hg:PG X tg g) (hb:PSs X body tb)
  (hs:∀ x,K3 iter X.env x=pure x:=by intro _; rfl):PS X (.For tg iter body [] pos) (Du wi g tb):=by
 intro pins s σ H D I h;refine wpAny_For (thn (hi pins s σ H _ I h) fun v s1 h1=>thn h1 fun itv s2 h2=>?_) hs;obtain ⟨it,fp,tn,J,H2,e,I2,T,st2,f2,W,⟨m0,w0⟩,turn⟩:=h2;subst e
 -- what stays true of the iterator's objects through the loop
 have stat:∀ {H':Hp},(∀ b∈fp,H' b=none)->∀ b∈fp,gB X pins H' b:=fun hn b hb=>⟨hn b hb,(f2 b hb).2⟩
 refine codeAny_forLoop_any (fun n s'=>∃ i σ' H',Inv X pins σ' H' s'/\tn i s'.heap/\(∀ b∈fp,H' b=none)/\W i n σ' H') ?_ m0 ⟨0,σ,H2,I2,st2,fun b hb=>(f2 b hb).1,w0⟩;rintro n s3 ⟨i,σ3,H3,I3,st3,fr3,w3⟩;rcases turn i n σ3 H3 w3 with ⟨stop,qn⟩ | ⟨go,N,hN,step⟩
 ·refine HJ hp (thn (T.done X rfl rfl rfl hc i pins s3 σ3 H3 X.xe I3 (stat fr3) st3 stop) fun r s4 ⟨hr,I4⟩=>?_);subst hr;exact Jy ⟨σ3,H3,I4,qn⟩
 ·refine HJ hp (thn (T.item X rfl rfl rfl hc i pins s3 σ3 H3 X.xe I3 (stat fr3) st3 go) fun r s4 ⟨u,hr,h4⟩=>?_);subst hr;refine HJ hp (thn h4 fun _ s5 ⟨x,H5,I5,r5,y5,st5,fr5⟩=>?_);have I5':=I5.pinned (stat fr5) (T.obj _ _ st5);refine HJ hp (thn (hg _ s5 σ3 H5 x u _ I5' r5 (step x H5 y5)) fun _ s6 ⟨σ6,H6,I6,q6⟩=>?_);refine HJ hp (thn (hb _ s6 σ6 H6 _ I6 q6) fun f s7 q7=>?_);have again:∀ {σ7:St} {H7:Hp},Inv X (pins++kj fp s5.heap) σ7 H7 s7->N σ7 H7->∃ m,m<n/\∃ i σ' H',Inv X pins σ' H' s7/\tn i s7.heap/\(∀ b∈fp,H' b=none)/\W i m σ' H':=fun {σ7 H7} I7 n7=>by
   obtain ⟨m',hm,w7⟩:=hN σ7 H7 n7;refine ⟨m',hm,i+1,σ7,H7,I7.unpinned,T.keep _ _ _ st5 fun b hb o e=>(I7.pin (b,o) (D6 _ (D6 _ (fb hb e)))).1,fun b hb=>?_,w7⟩;obtain ⟨o,e,d⟩:=T.obj _ _ st5 b hb;exact (I7.pin (b,o) (D6 _ (D6 _ (fb hb e)))).2.1
  cases f with
  | next => obtain ⟨σ7, H7, I7, n7⟩ := q7; exact again I7 n7
  | cont => obtain ⟨σ7, H7, I7, n7⟩ := q7; exact again I7 n7
  | brk => obtain ⟨σ7, H7, I7, q7⟩ := q7; exact ⟨σ7, H7, I7.unpinned, q7⟩
  | ret v => obtain ⟨x7, σ7, H7, I7, r7, q7⟩ := q7; exact ⟨x7, σ7, H7, I7.unpinned, r7, q7⟩
end
theorem vQ {K:W.Frag} {a:Δ} {xs:List V} {g:TG} {tb:TS} {D:cO} {σ:St} {H:Hp} (Pv:Nat->St->Hp->Prop) (h0:Pv 0 σ H) (hl:∀ i σ H,i<=xs.length->Pv i σ H->SqL K H a xs)
  (hs:∀ i x σ H,xs[i]?=some x->Pv i σ H->g x σ H fun σ2 H2=>tb { D with nx:=Pv (i+1),ct:=Pv (i+1),bk:=D.nx } σ2 H2) (hd:∀ σ H,Pv xs.length σ H->D.nx σ H) :
  ∃ W:Nat->Nat->St->Hp->Prop,(∃ m,W 0 m σ H)/\∀ i m σ H,W i m σ H ->
   ((Itl K a).stop i H/\D.nx σ H)\/((Itl K a).go i H/\∃ N:St->Hp->Prop,(∀ σ' H',N σ' H'->∃ m',m'<m/\W (i+1) m' σ' H')/\∀ x H',(Itl K a).yld i H x H'->g x σ H' fun σ2 H2=>tb { D with nx:=N,ct:=N,bk:=D.nx } σ2 H2):=by
 refine ⟨fun i m σ H=>m=xs.length - i/\i<=xs.length/\Pv i σ H,⟨xs.length,by simp,El _,h0⟩,?_⟩;rintro i m σ H ⟨rfl,hi,p⟩;have q:=hl i σ H hi p;by_cases hlt:i<xs.length
 ·refine .inr ⟨⟨xs,xs[i],q,by simp [hlt]⟩,Pv (i+1),fun σ' H' p'=>⟨xs.length - (i+1),by omega,rfl,hlt,p'⟩,fun x H' y=>?_⟩;obtain ⟨e,y⟩:=y;subst e;exact hs i x σ _ (y xs q) p
 ·have e:i=xs.length:=by omega
  subst e;exact .inl ⟨⟨xs,q,Av _⟩,hd σ H p⟩
theorem ua {lo:Int} {n:Nat} {g:TG} {tb:TS} {D:cO} {σ:St} {H:Hp} (Pv:Nat->St->Hp->Prop) (h0:Pv 0 σ H)
  (hs:∀ i σ H,i<n->Pv i σ H->g (.int (lo+i)) σ H fun σ2 H2=>tb { D with nx:=Pv (i+1),ct:=Pv (i+1),bk:=D.nx } σ2 H2) (hd:∀ σ H,Pv n σ H->D.nx σ H) :
  ∃ W:Nat->Nat->St->Hp->Prop,(∃ m,W 0 m σ H)/\∀ i m σ H,W i m σ H ->
   ((Itr lo n).stop i H/\D.nx σ H)\/((Itr lo n).go i H/\∃ N:St->Hp->Prop,(∀ σ' H',N σ' H'->∃ m',m'<m/\W (i+1) m' σ' H')/\∀ x H',(Itr lo n).yld i H x H'->g x σ H' fun σ2 H2=>tb { D with nx:=N,ct:=N,bk:=D.nx } σ2 H2):=by
 refine ⟨fun i m σ H=>m=n - i/\i<=n/\Pv i σ H,⟨n,by simp,El _,h0⟩,?_⟩;rintro i m σ H ⟨rfl,hi,p⟩;by_cases hlt:i<n
 ·refine .inr ⟨hlt,Pv (i+1),fun σ' H' p'=>⟨n - (i+1),by omega,rfl,hlt,p'⟩,fun x H' y=>?_⟩;obtain ⟨e,y⟩:=y;subst e y;exact hs i σ _ hlt p
 ·have e:i=n:=by omega
  subst e;exact .inl ⟨Av _,hd σ H p⟩
noncomputable abbrev R2:=V->V->Hp->VK->Prop
def OpR (X:Cx) (f:ς->ς->KH ς) (r:R2):Prop :=
 ∀ (pins:List (Δ×GN)) (s:Ω) (σ:St) (H:Hp) (x y:V) (v u:ς) (Q:VK),Inv X pins σ H s->aL x v->aL y u->r x y H Q ->
  EA (EH X.prog X.w) X.A (f v u) (EP X pins σ Q) X.xe s
def UnR (X:Cx) (f:ς->KH ς) (r:V->Hp->VK->Prop):Prop :=
 ∀ (pins:List (Δ×GN)) (s:Ω) (σ:St) (H:Hp) (x:V) (v:ς) (Q:VK),Inv X pins σ H s->aL x v->r x H Q ->
  EA (EH X.prog X.w) X.A (f v) (EP X pins σ Q) X.xe s
def bM (X:Cx) (f:ς) (r:List V->Hp->VK->Prop):Prop :=
 ∀ (pins:List (Δ×GN)) (s:Ω) (σ:St) (H:Hp) (xs:List V) (us:List ς) (Q:VK),Inv X pins σ H s->Vals xs us->r xs H Q ->
  EA (EH X.prog X.w) X.A (call f us) (EP X pins σ Q) X.xe s
def tOp (r:R2) (ta tb:TE):TE:=fun σ H Q=>ta σ H fun x H1=>tb σ H1 fun y H2=>r x y H2 Q
def tUn (r:V->Hp->VK->Prop) (ta:TE):TE:=fun σ H Q=>ta σ H fun x H1=>r x H1 Q
def rI (C:Int->Int->Prop) (g:Int->Int->V):R2:=fun x y H Q=>∃ i j,x=.int i/\y=.int j/\C i j/\Q (g i j) H
def rI0 (g:Int->Int->V):R2:=fun x y H Q=>∃ i j,x=.int i/\y=.int j/\Q (g i j) H
def rU (g:Int->V):V->Hp->VK->Prop:=fun x H Q=>∃ i,x=.int i/\Q (g i) H
section
variable {X:Cx} {a b c:FE} {ta tb tc:TE} {pos:HV}
theorem Br (ha:PE X a ta) (hb:PE X b tb) {pins:List (Δ×GN)} {s:Ω} {σ:St} {H:Hp} {R:V->V->Hp->Prop} (I:Inv X pins σ H s)
  (h:ta σ H fun x H1=>tb σ H1 fun y H2=>R x y H2) {Q:ς->Ω->Prop} {f:ς->ς->KH ς}
  (hf:∀ v u s2 x y H2,Inv X pins σ H2 s2->aL x v->aL y u->R x y H2->EA (EH X.prog X.w) X.A (f v u) Q X.xe s2) :
  EA (EH X.prog X.w) X.A (F3 a X.env) (fun v s₁=>EA (EH X.prog X.w) X.A (F3 b X.env) (fun u s₂=>EA (EH X.prog X.w) X.A (f v u) Q X.xe s₂) X.xe s₁) X.xe s:=by
 refine thn (ha pins s σ H _ I h) fun v s1 ⟨x,H1,I1,r1,q1⟩=>?_;refine thn (hb pins s1 σ H1 _ I1 q1) fun u s2 ⟨y,H2,I2,r2,q2⟩=>?_;exact hf v u s2 x y H2 I2 r1 r2 q2
theorem aE {op:Operator} {r:R2} (ho:OpR X (Jh op) r) (ha:PE X a ta) (hb:PE X b tb):PE X (.BinOp a op b pos) (tOp r ta tb):=by
 intro pins s σ H Q I h;exact wpAny_BinOp (Br ha hb I h fun v u s2 x y H2 I2 rx ry q=>ho pins s2 σ H2 x y v u Q I2 rx ry q)
theorem fy {op:UnaryOp} {r:V->Hp->VK->Prop} (ho:UnR X (unaryOp op) r) (ha:PE X a ta):PE X (.UnaryOp op a pos) (tUn r ta):=by
 intro pins s σ H Q I h;exact UnaryOp_ (thn (ha pins s σ H _ I h) fun v s1 ⟨x,H1,I1,r1,q1⟩=>ho pins s1 σ H1 x v Q I1 r1 q1)
theorem opI {f:ς->ς->KH ς} {C:Int->Int->Prop} {g:Int->Int->Int}
  (rule:∀ (i j:Int) (t u:Tok) (s:Ω) (Q:ς->Ω->Prop) (E:ς->Ω->Prop),C i j->Q (.int (g i j) s.toks) { s with toks:=s.toks+1 }->EA (EH X.prog X.w) X.A (f (.int i t) (.int j u)) Q E s) :
  OpR X f (rI C fun i j=>.int (g i j)):=by
 intro pins s σ H x y v u Q I rx ry h;obtain ⟨i,j,rfl,rfl,hc,q⟩:=h;obtain ⟨t,rfl⟩:=rx;obtain ⟨t',rfl⟩:=ry;exact rule i j t t' s _ _ hc ⟨.int (g i j),H,I.tok _,⟨_,rfl⟩,q⟩
theorem CZ {f:ς->ς->KH ς} {g:Int->Int->Int}
  (rule:∀ (i j:Int) (t u:Tok) (s:Ω) (Q:ς->Ω->Prop) (E:ς->Ω->Prop),Q (.int (g i j) s.toks) { s with toks:=s.toks+1 }->EA (EH X.prog X.w) X.A (f (.int i t) (.int j u)) Q E s) :
  OpR X f (rI0 fun i j=>.int (g i j)):=by
 intro pins s σ H x y v u Q I rx ry h;obtain ⟨i,j,rfl,rfl,q⟩:=h;obtain ⟨t,rfl⟩:=rx;obtain ⟨t',rfl⟩:=ry;exact rule i j t t' s _ _ ⟨.int (g i j),H,I.tok _,⟨_,rfl⟩,q⟩
theorem BO {f:ς->ς->KH ς} {g:Int->Int->Bool}
  (rule:∀ (i j:Int) (t u:Tok) (s:Ω) (Q:ς->Ω->Prop) (E:ς->Ω->Prop),Q (.bool (g i j)) s->EA (EH X.prog X.w) X.A (f (.int i t) (.int j u)) Q E s) :
  OpR X f (rI0 fun i j=>.bl (g i j)):=by
 intro pins s σ H x y v u Q I rx ry h;obtain ⟨i,j,rfl,rfl,q⟩:=h;obtain ⟨t,rfl⟩:=rx;obtain ⟨t',rfl⟩:=ry;exact rule i j t t' s _ _ ⟨.bl (g i j),H,I,rfl,q⟩
def DC (i j:Int):Prop:=0<j/\j<1073741824
def DD (i j:Int):Prop:=0<=j/\j<=1000000/\i.natAbs<2 ^ 64
def Bj (i j:Int):Prop:=(-(2 ^ 64)<i/\i<2 ^ 64)\/(-(2 ^ 64)<j/\j<2 ^ 64)
theorem Bj.ok {i j:Int} (h:Bj i j):IntMulOk i j:=by
 rcases h with ⟨h1,h2⟩ | ⟨h1,h2⟩
 ·exact .of_left (intBits_le_64 h1 h2)
 ·exact .of_right (intBits_le_64 h1 h2)
theorem bB:OpR X (Jh .Add) (rI0 fun i j=>.int (i+j)):=CZ fun _ _ _ _ _ _ _ q=>add_int q
theorem dk:OpR X (Jh .Sub) (rI0 fun i j=>.int (i - j)):=CZ fun _ _ _ _ _ _ _ q=>sub_int q
theorem fM:OpR X (Jh .Mult) (rI Bj fun i j=>.int (i*j)):=opI fun _ _ _ _ _ _ _ hc q=>mul_int q hc.ok
theorem sS:OpR X (Jh .FloorDiv) (rI DC fun i j=>.int (i / j)):=opI fun i j _ _ _ _ _ hc q=>by
 have h1:(0:Int)<j:=hc.1;have h2:j<1073741824:=hc.2;exact floordiv_int (by omega) (by rw [Int.fdiv_eq_ediv_of_nonneg i (by omega)]; exact q) (.inl (LR (by omega)))
theorem cf:OpR X (Jh .Mod) (rI (fun _ j=>0<j) fun i j=>.int (i%j)):=opI fun i j _ _ _ _ _ hc q=>by
 have h1:(0:Int)<j:=hc;exact mod_int' (by omega) (by rw [Int.fmod_eq_emod_of_nonneg i (by omega)]; exact q)
theorem BR:OpR X (Jh .Pow) (rI DD fun i j=>.int (i ^ j.toNat)):=opI fun _ _ _ _ _ _ _ hc q=>pow_int_small hc.1 hc.2.1 hc.2.2 q
theorem unI {f:ς->KH ς} {g:Int->Int}
  (rule:∀ (i:Int) (t:Tok) (s:Ω) (Q:ς->Ω->Prop) (E:ς->Ω->Prop),Q (.int (g i) s.toks) { s with toks:=s.toks+1 }->EA (EH X.prog X.w) X.A (f (.int i t)) Q E s) :
  UnR X f (rU fun i=>.int (g i)):=by
 intro pins s σ H x v Q I rx h;obtain ⟨i,rfl,q⟩:=h;obtain ⟨t,rfl⟩:=rx;exact rule i t s _ _ ⟨.int (g i),H,I.tok _,⟨_,rfl⟩,q⟩
theorem dw:UnR X (unaryOp .USub) (rU fun i=>.int (-i)):=unI fun _ _ _ _ _ q=>neg_int q
end
noncomputable def Dp:V->V->Bool
 | .non,.non=>true | .non,.int _=>true | .int _,.non=>true | .non,.bl _=>true | .bl _,.non=>true | .non,.str _=>true | .str _,.non=>true
 | .int _,.int _=>true | .bl _,.bl _=>true | .str _,.str _=>true | .byt _,.byt _=>true
 | .int _,.str _=>true | .str _,.int _=>true | .bl _,.str _=>true | .str _,.bl _=>true
 | _,_=>false
def rEq:R2:=fun x y H Q=>Dp x y=true/\Q (.bl (decide (x=y))) H
def rNe:R2:=fun x y H Q=>Dp x y=true/\Q (.bl (!decide (x=y))) H
theorem jq {i j:Int}:decide (V.int i=V.int j)=(i==j):=by
 rw [GU];simp
theorem vI {i j:Bool}:decide (V.bl i=V.bl j)=(i==j):=by
 rw [GU];simp
theorem sF {i j:Str}:decide (V.str i=V.str j)=(i==j):=by
 rw [GU];simp
theorem sE {i j:Array UInt8}:decide (V.byt i=V.byt j)=(i.toList==j.toList):=by
 rw [GU]
 cases i
 cases j;simp
section
variable {X:Cx} {a b c:FE} {ta tb tc:TE} {pos:HV}
theorem a9 {pins:List (Δ×GN)} {σ:St} {H:Hp} {s:Ω} {Q:VK} {k k':Bool} (I:Inv X pins σ H s) (q:Q (.bl k) H) (e:k=k'):EP X pins σ Q (.bool k') s:=by
 subst e;exact ⟨.bl k,H,I,rfl,q⟩
theorem et:OpR X (F8 .Eq) rEq:=by
 intro pins s σ H x y v u Q I rx ry h;obtain ⟨hs,q⟩:=h
 cases x with
 | non =>
  cases rx
  cases y with
  | non => cases ry; exact PySem.EqNone.eq_none_none (a9 I q (by simp))
  | bl j => cases ry; exact PySem.EqNone.eq_none_bool (a9 I q (by simp))
  | int j => obtain ⟨t', rfl⟩ := ry; exact PySem.EqNone.eq_none_int (a9 I q (by simp))
  | str j => obtain ⟨t', rfl⟩ := ry; exact PySem.EqNone.eq_none_str (a9 I q (by simp))
  | _ => exact absurd (show false = true from hs) Ei
 | bl i =>
  cases rx
  cases y with
  | non => cases ry; exact PySem.EqNone.eq_bool_none (a9 I q (by simp))
  | bl j => cases ry; exact eq_bool (a9 I q vI)
  | str j => obtain ⟨t', rfl⟩ := ry; exact PySem.EqMixed.eq_bool_str (a9 I q (by simp))
  | _ => exact absurd (show false = true from hs) Ei
 | int i =>
  obtain ⟨t,rfl⟩:=rx
  cases y with
  | non => cases ry; exact PySem.EqNone.eq_int_none (a9 I q (by simp))
  | int j => obtain ⟨t', rfl⟩ := ry; exact eq_int (a9 I q jq)
  | str j => obtain ⟨t', rfl⟩ := ry; exact PySem.EqMixed.eq_int_str (a9 I q (by simp))
  | _ => exact absurd (show false = true from hs) Ei
 | str i =>
  obtain ⟨t,rfl⟩:=rx
  cases y with
  | non => cases ry; exact PySem.EqNone.eq_str_none (a9 I q (by simp))
  | bl j => cases ry; exact PySem.EqMixed.eq_str_bool (a9 I q (by simp))
  | int j => obtain ⟨t', rfl⟩ := ry; exact PySem.EqMixed.eq_str_int (a9 I q (by simp))
  | str j => obtain ⟨t', rfl⟩ := ry; exact eq_str (a9 I q sF)
  | _ => exact absurd (show false = true from hs) Ei
 | byt i =>
  obtain ⟨t,rfl⟩:=rx
  cases y with
  | byt j => obtain ⟨t', rfl⟩ := ry; exact W.eq_bytes (a9 I q sE)
  | _ => exact absurd (show false = true from hs) Ei
 | _=>cases y<;>exact absurd (show false=true from hs) Ei
theorem mj:OpR X (F8 .NotEq) rNe:=by
 intro pins s σ H x y v u Q I rx ry h;obtain ⟨hs,q⟩:=h
 cases x with
 | non =>
  cases rx
  cases y with
  | non => cases ry; exact PySem.EqNone.ne_none_none (a9 I q (by simp))
  | bl j => cases ry; exact PySem.EqNone.ne_none_bool (a9 I q (by simp))
  | int j => obtain ⟨t', rfl⟩ := ry; exact PySem.EqNone.ne_none_int (a9 I q (by simp))
  | str j => obtain ⟨t', rfl⟩ := ry; exact PySem.EqNone.ne_none_str (a9 I q (by simp))
  | _ => exact absurd (show false = true from hs) Ei
 | bl i =>
  cases rx
  cases y with
  | non => cases ry; exact PySem.EqNone.ne_bool_none (a9 I q (by simp))
  | bl j => cases ry; exact ne_bool (a9 I q (congrArg not vI))
  | str j => obtain ⟨t', rfl⟩ := ry; exact PySem.EqMixed.ne_bool_str (a9 I q (by simp))
  | _ => exact absurd (show false = true from hs) Ei
 | int i =>
  obtain ⟨t,rfl⟩:=rx
  cases y with
  | non => cases ry; exact PySem.EqNone.ne_int_none (a9 I q (by simp))
  | int j => obtain ⟨t', rfl⟩ := ry; exact ne_int (a9 I q (congrArg not jq))
  | str j => obtain ⟨t', rfl⟩ := ry; exact PySem.EqMixed.ne_int_str (a9 I q (by simp))
  | _ => exact absurd (show false = true from hs) Ei
 | str i =>
  obtain ⟨t,rfl⟩:=rx
  cases y with
  | non => cases ry; exact PySem.EqNone.ne_str_none (a9 I q (by simp))
  | bl j => cases ry; exact PySem.EqMixed.ne_str_bool (a9 I q (by simp))
  | int j => obtain ⟨t', rfl⟩ := ry; exact PySem.EqMixed.ne_str_int (a9 I q (by simp))
  | str j => obtain ⟨t', rfl⟩ := ry; exact ne_str (a9 I q (congrArg not sF))
  | _ => exact absurd (show false = true from hs) Ei
 | byt i =>
  obtain ⟨t,rfl⟩:=rx
  cases y with
  | byt j => obtain ⟨t', rfl⟩ := ry; exact W.ne_bytes (a9 I q (congrArg not sE))
  | _ => exact absurd (show false = true from hs) Ei
 | _=>cases y<;>exact absurd (show false=true from hs) Ei
theorem fL:OpR X (F8 .Lt) (rI0 fun i j=>.bl (decide (i<j))):=BO fun _ _ _ _ _ _ _ q=>lt_int q
theorem wL:OpR X (F8 .LtE) (rI0 fun i j=>.bl (decide (i<=j))):=BO fun _ _ _ _ _ _ _ q=>le_int q
theorem wK:OpR X (F8 .Gt) (rI0 fun i j=>.bl (decide (j<i))):=BO fun _ _ _ _ _ _ _ q=>gt_int q
theorem zC:OpR X (F8 .IsNot) (fun x y H Q=>y=.non/\Q (.bl (!decide (x=.non))) H):=by
 intro pins s σ H x y v u Q I rx ry h;obtain ⟨rfl,q⟩:=h
 cases ry;refine isnot_none_gen (a9 I q ?_)
 cases x<;>first
  | (cases rx; rfl)
  | (obtain ⟨t, rfl⟩ := rx; rfl)
theorem wy (b:FE) {op:Lg} (h:op≠.In:=by decide) (h2:op≠.NotIn:=by decide):HP op b=false:=by
 have e1:(op==CmpOp.In)=false:=by cases op<;>first | rfl | exact absurd rfl h
 have e2:(op==CmpOp.NotIn)=false:=by cases op<;>first | rfl | exact absurd rfl h2
 cases b<;>simp [HP,e1,e2]
theorem zD {op:Lg} {r:R2} (ho:OpR X (F8 op) r) (ha:PE X a ta) (hb:PE X b tb) (hm:HP op b=false):PE X (.Compare a [op] [b] pos) (tOp r ta tb):=by
 intro pins s σ H Q I h;exact wpAny_Compare1 (Br ha hb I h fun v u s2 x y H2 I2 rx ry q=>ho pins s2 σ H2 x y v u Q I2 rx ry q) hm
def tJ (t:TE):TT:=fun σ H Q=>t σ H fun x H'=>∃ k,x=.bl k/\Q k H'
theorem zI {op:Lg} {r:R2} (ho:OpR X (F8 op) r) (ha:PE X a ta) (hb:PE X b tb) (hm:HP op b=false):PT X (.Compare a [op] [b] pos) (tJ (tOp r ta tb)):=by
 intro pins s σ H Q I h;refine wpAny_isTrue_Compare1 (thn (ha pins s σ H _ I h) fun v s1 ⟨x,H1,I1,r1,q1⟩=>thn (hb pins s1 σ H1 _ I1 q1) fun u s2 ⟨y,H2,I2,r2,q2⟩ =>
  thn (ho pins s2 σ H2 x y v u _ I2 r1 r2 q2) fun c s3 ⟨z,H3,I3,r3,k,e,q3⟩=>?_) hm
 subst e
 cases r3;exact F1 ⟨H3,I3,q3⟩
def rQ (r r':R2) (ta tb tc:TE):TE:=fun σ H Q=>ta σ H fun x H1=>tb σ H1 fun y H2=>r x y H2 fun z H3=>∃ k,z=.bl k /\
 (if k=true then tc σ H3 fun w' H4=>r' y w' H4 Q else Q (.bl false) H3)
theorem wW {op op':Lg} {r r':R2} (ho:OpR X (F8 op) r) (ho':OpR X (F8 op') r') (ha:PE X a ta) (hb:PE X b tb) (hc:PE X c tc)
  (hm:lastMarks [op,op'] [b,c]=false:=by with_unfolding_all rfl):PE X (.Compare a [op,op'] [b,c] pos) (rQ r r' ta tb tc):=by
 intro pins s σ H Q I h;refine Compare_chain (thn (ha pins s σ H _ I h) fun v s1 ⟨x,H1,I1,r1,q1⟩=>chain_link (thn (hb pins s1 σ H1 _ I1 q1) fun u s2 ⟨y,H2,I2,r2,q2⟩ =>
  thn (ho pins s2 σ H2 x y v u _ I2 r1 r2 q2) fun d s3 ⟨z,H3,I3,r3,k,e,q3⟩=>?_)) hm
 subst e
 cases r3;refine F1 ?_
 cases k with
 | false=>exact ite_ff ⟨.bl false,H3,I3,rfl,q3⟩
 | true=>exact ite_tt (chain_last (thn (hc pins s3 σ H3 _ I3 q3) fun w' s4 ⟨z',H4,I4,r4,q4⟩=>ho' pins s4 σ H4 y z' u w' Q I4 r2 r4 q4))
theorem iC {op op':Lg} {r r':R2} (ho:OpR X (F8 op) r) (ho':OpR X (F8 op') r') (ha:PE X a ta) (hb:PE X b tb) (hc:PE X c tc)
  (hm:lastMarks [op,op'] [b,c]=false:=by with_unfolding_all rfl):PT X (.Compare a [op,op'] [b,c] pos) (tJ (rQ r r' ta tb tc)):=by
 intro pins s σ H Q I h;refine isTrue_chain (thn (ha pins s σ H _ I h) fun v s1 ⟨x,H1,I1,r1,q1⟩=>test_link (thn (hb pins s1 σ H1 _ I1 q1) fun u s2 ⟨y,H2,I2,r2,q2⟩ =>
  thn (ho pins s2 σ H2 x y v u _ I2 r1 r2 q2) fun d s3 ⟨z,H3,I3,r3,k,e,q3⟩=>?_)) hm
 subst e
 cases r3;refine F1 ?_
 cases k with
 | false =>
  obtain ⟨k',e',q'⟩:=q3
  cases e';exact ite_ff ⟨H3,I3,q'⟩
 | true =>
  refine ite_tt (test_last (thn (hc pins s3 σ H3 _ I3 q3) fun w' s4 ⟨z',H4,I4,r4,q4⟩=>thn (ho' pins s4 σ H4 y z' u w' _ I4 r2 r4 q4) fun d' s5 ⟨z2,H5,I5,r5,k2,e2,q5⟩=>?_));subst e2
  cases r5;exact F1 ⟨H5,I5,q5⟩
theorem j1:(D7:Nat)<2 ^ 63:=by rw [JV]; decide
theorem jj {x:V} {us:List ς} (r:Vals [x] us):∃ u,us=[u]/\aL x u:=by
 cases r with
 | cons r1 r2=>cases r2; exact ⟨_,rfl,r1⟩
theorem DB {x y:V} {us:List ς} (r:Vals [x,y] us):∃ u w',us=[u,w']/\aL x u/\aL y w':=by
 cases r with
 | cons r1 r2 =>
  cases r2 with
  | cons r3 r4 => cases r4; exact ⟨_, _, rfl, r1, r3⟩
theorem vF:bM X (.builtin "abs") (fun xs H Q=>∃ i,xs=[.int i]/\Q (.int (if i<0 then -i else i)) H):=by
 intro pins s σ H xs us Q I r h;obtain ⟨i,rfl,q⟩:=h;obtain ⟨u,rfl,t,rfl⟩:=jj r;exact call_abs_int fun u tk=>⟨.int (if i<0 then -i else i),H,I.tok _,⟨_,rfl⟩,q⟩
theorem tV (hc:X.calm=true):bM X (.builtin "min") (fun xs H Q=>∃ i j,xs=[.int i,.int j]/\Q (.int (if j<i then j else i)) H):=by
 intro pins s σ H xs us Q I r h;obtain ⟨i,j,rfl,q⟩:=h;obtain ⟨u,w',rfl,⟨t,rfl⟩,⟨t',rfl⟩⟩:=DB r;refine min_two_ints (I.ok.hd hc) fun h' tk k=>⟨_,H,I.kept k,?_,q⟩
 by_cases hj:j<i
 ·rw [if_pos hj,if_pos hj]; exact ⟨_,rfl⟩
 ·rw [if_neg hj,if_neg hj]; exact ⟨_,rfl⟩
end
structure qz (h:E5) (x dx C:Δ) (mA:Str->Option ς):Prop where
 obj:h.get? x=some (W.instObj C dx)
 ns:h.Ns1 dx mA
 ne:dx≠x
theorem um {h:E5} {dx:Δ} {mA:Str->Option ς} (n:h.Ns1 dx mA):∃ od,h.get? dx=some od/\∀ name,W.lookIn name od=some (mA name):=by
 obtain ⟨o,es,ep,ho,hd,hk,_,hm⟩:=n;refine ⟨o,ho,fun name=>?_⟩;have e:=hm name;unfold nsFind findBy at e;rw [<- Array.find?_toList] at e;unfold W.lookIn;rw [hd];dsimp only
 split
 ·rename_i y q;rw [q] at e;exact congrArg some e
 ·rename_i q;rw [q] at e
  have a:es.toList.any (·.refKey)=false:=by
   rw [List.any_eq_false];intro y hy;obtain ⟨z,t,hkey⟩:=hk y (Array.mem_toList_iff.mp hy);simp [DictEntry.refKey,hkey]
  have a':¬ es.toList.any (·.refKey)=true:=by rw [a]; exact Ei
  rw [if_neg a'];exact congrArg some e
theorem qz.look {h:E5} {x dx C:Δ} {mA:Str->Option ς} (I:qz h x dx C mA):∃ od,PySem.W.InstAt h x (W.instObj C dx) C (some od)/\∀ name,W.lookIn name od=some (mA name) :=
 let ⟨od,ho,hl⟩:=um I.ns
 ⟨od,⟨I.obj,rfl,rfl,ho⟩,hl⟩
section
variable {prog:D_} {w:Eh} {A:Eg} {E:ς->Ω->Prop} {s:Ω} {K:W.Frag} {x dx C f:Δ} {mA:Str->Option ς} {name:Str} {v:ς}
theorem zi {expr:Bool} {Q:ς->Ω->Prop} (X:K.In s.heap) (I:qz s.heap x dx C mA) (hg:W.plainGet K C name=true) (hh:W.hasDictIn K C=true)
  (ha:W.findIn K (.ref C) name=some none) (hv:mA name=some v) (hv':W.handedIn v=true) (h:Q v { s with toks:=s.toks+1 }) :
  EA (EH prog w) A (getAttr (.ref x) name expr) Q E s:=by
 obtain ⟨od,J,hl⟩:=I.look;exact W.get_value X J (W.plainGet_of hg).1 (W.findObj_own hh ha rfl (by rw [hl,hv])) hv' h
theorem vS {pl:KH Bool} {Q:ς×List ς->Ω->Prop} (X:K.In s.heap) (I:qz s.heap x dx C mA) (hg:W.plainGet K C name=true)
  (hf:W.findIn K (.ref C) name=some (some (.ref f))) (ht:W.isFn K (.ref f)=true) (hv:mA name=none) (h:Q (.ref f,[.ref x]) s) :
  EA (EH prog w) A (LP (.ref x) name pl) Q E s:=by
 obtain ⟨od,J,hl⟩:=I.look;exact W.method_fn X J (W.plainGet_of hg).1 (W.plainGet_of hg).2 hf (beq_iff_eq.mp ht) (by show (W.lookIn name od).map (·.isSome)=some false; rw [hl,hv]; rfl) h
theorem Ar {ns:List Str} {Q:Unit->Ω->Prop} (X:K.In s.heap) (I:qz s.heap x dx C mA)
  (hs:W.findIn K (.ref C) "__setattr__"=some (some (.builtin "object.__setattr__"))) (hp:W.plainOver K C=true) (ht:W.takerIn K C name=some none) (hh:W.hasDictIn K C=true)
  (hw:Ll mA ns) (hsz:ns.length<=D7)
  (h:∀ h',qz h' x dx C (fun y=>if y=name then some v else mA y)->F2 dx s.heap h'->Q () { s with heap:=h',toks:=s.toks+2 }) :
  EA (EH prog w) A (setAttr (.ref x) name v) Q E s:=by
 obtain ⟨od,J,hl⟩:=I.look;refine W.set_plain X J hs (W.osa_open (s:={ s with toks:=s.toks+1 }) (r:=none) X J hp ht fun b=>?_);obtain ⟨cd,hc,hd'⟩:=W.any_some hh;have hx:s.heap.get? x=some ⟨.ref C,some dx,.plain,#[]⟩:=I.obj;refine θ (A_ (θ (θ (wpAny_loadPart hx (θ (PySem.W.Looks.here (s:={ s with toks:=s.toks+1 }) (W.looks_clsIn X hc) ?_))))));rw [hd'];refine A_ (a:=some dx) (θ (A_ (θ ?_)));refine wpAny_nsSet1 (s:={ s with toks:=s.toks+1 }) I.ns fun h' hn2 hs2=>?_;obtain ⟨oD,esD,epD,hoD,hdD,hcD⟩:=hn2.count (PySem.Within.cons name v hw);refine θ (wpAny_lookBehind hoD (by rw [hdD]; exact pastItsLine_dict (Ew hcD (by rw [C_]; omega))) ?_);exact A_ (h _ ⟨(hs2.2 _ (FH I.ne)).trans I.obj,hn2,I.ne⟩ hs2)
theorem we {R:Kq->Ω->Prop} {vs:List ς} {kw:List (Str×ς)} (X:K.In s.heap) (hm:W.makesIn K C=true)
  (hi:W.findIn K (.ref C) "__init__"=some (some (.ref f))) (hf:W.typeIn K (.ref f)=some (.type "function"))
  (h:HA (EH prog w) (A.under (.builtin "type.__call__" ⟨.ref C::vs,kw⟩)) (.call (.ref f) ⟨.ref (s.heap.objs.size+1)::vs,kw⟩) (PySem.W.InitBack (s.heap.objs.size+1) R)
   { s with heap:=(s.heap.push W.emptyDict).push (W.instObj C s.heap.objs.size) }) :
  HA (EH prog w) A (.call (.ref C) ⟨vs,kw⟩) R s:=by
 obtain ⟨hh,g,d,t,os⟩:=s;exact W.make_core (W.makes_of X hm) (W.looks_findIn X hi) (fun self=>W.bind_fn X self hf) (.inl rfl) h
end
noncomputable def dQ (f:Str) (v:V):List (Str×V)->List (Str×V)
 | []=>[(f,v)]
 | (g,x)::r=>if g=f then (g,v)::r else (g,x)::dQ f v r
theorem aG (f g:Str) (v:V):∀ fs:List (Str×V),(dQ f v fs).lookup g=if g=f then some v else fs.lookup g
 | []=>by
  show IV g [(f,v)]=_
  by_cases h:g=f
  ·have hb:(g==f)=true:=beq_iff_eq.mpr h;simp only [IV,hb,if_pos h]
  ·have hb:(g==f)=false:=beq_eq_false_iff_ne.mpr h;simp only [IV,hb,if_neg h]
 | (k,x)::r=>by
  have ih:=aG f g v r;rw [show dQ f v ((k,x)::r)=(if k=f then (k,v)::r else (k,x)::dQ f v r) from rfl];by_cases hk:k=f
  ·rw [if_pos hk];by_cases h:g=k
   ·have hb:(g==k)=true:=beq_iff_eq.mpr h;simp only [IV,hb,if_pos (h.trans hk)]
   ·have hb:(g==k)=false:=beq_eq_false_iff_ne.mpr h;simp only [IV,hb,if_neg (fun e:g=f=>h (e.trans hk.symm))]
  ·rw [if_neg hk];by_cases h:g=k
   ·have hb:(g==k)=true:=beq_iff_eq.mpr h;simp only [IV,hb,if_neg (fun e:g=f=>hk (h.symm.trans e))]
   ·have hb:(g==k)=false:=beq_eq_false_iff_ne.mpr h;simp only [IV,hb];exact ih
theorem iU (f:Str) (v:V):∀ fs:List (Str×V),f∈(dQ f v fs).map (·.1)/\∀ g,g∈fs.map (·.1)->g∈(dQ f v fs).map (·.1)
 | []=>⟨by simp [dQ],fun g h=>by simp at h⟩
 | (k,x)::r=>by
  obtain ⟨i1,i2⟩:=iU f v r;rw [show dQ f v ((k,x)::r)=(if k=f then (k,v)::r else (k,x)::dQ f v r) from rfl];by_cases hk:k=f
  ·rw [if_pos hk];subst hk;exact ⟨by simp,fun g h=>by simpa using h⟩
  ·rw [if_neg hk];refine ⟨?_,fun g h=>?_⟩
   ·rw [EL];exact Au _ i1
   ·rw [EL] at h ⊢;rcases B_.mp h with e | e
    ·exact B_.mpr (.inl e)
    ·exact Au _ (i2 g e)
theorem bh (f:Str) (v:V):∀ fs:List (Str×V),(dQ f v fs).length<=fs.length+1
 | []=>by simp [dQ]
 | (k,x)::r=>by
  have ih:=bh f v r;rw [show dQ f v ((k,x)::r)=(if k=f then (k,v)::r else (k,x)::dQ f v r) from rfl];by_cases hk:k=f
  ·rw [if_pos hk,C_,C_]; omega
  ·rw [if_neg hk,C_,C_]; omega
theorem fA.some_of {v:V} {o:Option ς} (r:fA (some v) o):∃ u,o=some u/\aL v u:=by
 cases o with
 | none=>exact (show False from r).elim
 | some u=>exact ⟨u,rfl,r⟩
theorem fA.none_of {o:Option ς} (r:fA none o):o=none:=by
 cases o with
 | none=>rfl
 | some u=>exact (show False from r).elim
theorem uc {v:V} {u:ς} (r:aL v u):W.handedIn u=true:=by
 cases v with
 | non=>cases (show u=GR from r); rfl
 | bl b=>cases (show u=Im b from r); rfl
 | int i=>obtain ⟨t,e⟩:=(show ∃ t,u=HR i t from r); cases e; rfl
 | str x=>obtain ⟨t,e⟩:=(show ∃ t,u=KW x t from r); cases e; rfl
 | byt b=>obtain ⟨t,e⟩:=(show ∃ t,u=Value.bytes b t from r); cases e; rfl
 | flt b=>obtain ⟨t,e⟩:=(show ∃ t,u=MD b t from r); cases e; rfl
 | ref a=>cases (show u=EB a from r); rfl
 | ty n=>cases (show u=Gj n from r); rfl
section
variable {P:D_} {w:Eh} {H H':Hp} {h h':E5} {a C dx:Δ} {fs fs':List (Str×V)}
theorem jt (hok:HOk P w H h) (e:H a=some (.ins C dx fs)):∃ mA,qz h a dx C mA/\(∀ f,fA (fs.lookup f) (mA f))/\Ll mA (fs.map (·.1))/\fs.length<=1000/\H dx=some (.own a):=by
 obtain ⟨d,z,ne,ob,mA,n,r,q⟩:=(show aY P w H h a (.ins C dx fs) from hok a _ e)
 exact ⟨mA,⟨ob,n,ne⟩,r,q,z,d⟩
end
structure Cls (K:W.Frag) (C:Δ):Prop where
 pg:W.plainGet K C Str.empty=true
 hd:W.hasDictIn K C=true
 po:W.plainOver K C=true
 sa:W.findIn K (.ref C) "__setattr__"=some (some (.builtin "object.__setattr__"))
theorem Cls.get {K:W.Frag} {C:Δ} (c:Cls K C) (f:Str):W.plainGet K C f=true:=c.pg
def cI (K:W.Frag) (C:Δ) (f:Str):Prop:=W.findIn K (.ref C) f=some none
theorem cI.taker {K:W.Frag} {C:Δ} {f:Str} (n:cI K C f):W.takerIn K C f=some none:=by
 unfold W.takerIn;rw [show W.findIn K (.ref C) f=some none from n];rfl
structure Con (K:W.Frag) (C:Δ) (f:Str) (v:V) (u:ς):Prop where
 at_:W.findIn K (.ref C) f=some (some u)
 rel:aL v u
 get:W.specialIn K u "__get__"=some none
 cp:W.copiedNames.contains f=false
structure oC (K:W.Frag) (C:Δ) (m:Str) (f:Δ):Prop where
 at_:W.findIn K (.ref C) m=some (some (.ref f))
 fn:W.isFn K (.ref f)=true
 kp:W.keepIn K (.ref f)=true
section
variable {X:Cx} {pins:List (Δ×GN)} {σ:St} {H:Hp} {s:Ω} {a C dx:Δ} {fs:List (Str×V)} {f:Str} {v:V} {A:Eg} {E:ς->Ω->Prop}
theorem qJ {b:Bool} {Q:ς->Ω->Prop} (I:Inv X pins σ H s) (e:H a=some (.ins C dx fs)) (c:Cls X.K C) (n:cI X.K C f) (l:fs.lookup f=some v)
  (h:∀ u s',Inv X pins σ H s'->aL v u->Q u s'):EA (EH X.prog X.w) A (getAttr (.ref a) f b) Q E s:=by
 obtain ⟨mA,O,r,_,_,_⟩:=jt I.hok e;obtain ⟨u,hu,ru⟩:=fA.some_of (v:=v) (o:=mA f) (by rw [<- l]; exact r f);exact zi I.kIn O (c.get f) c.hd n hu (uc ru) (h u _ (I.tok _) ru)
theorem jT {m:Str} {g:Δ} {pl:KH Bool} {Q:ς×List ς->Ω->Prop} (I:Inv X pins σ H s) (e:H a=some (.ins C dx fs)) (c:Cls X.K C) (k:oC X.K C m g) (l:fs.lookup m=none)
  (h:Q (.ref g,[.ref a]) s):EA (EH X.prog X.w) A (LP (.ref a) m pl) Q E s:=by
 obtain ⟨mA,O,r,_,_,_⟩:=jt I.hok e;have hn:mA m=none:=fA.none_of (by rw [<- l]; exact r m);exact vS I.kIn O (c.get m) k.at_ k.fn hn h
theorem rE {y:V} {u:ς} {Q:Unit->Ω->Prop} (I:Inv X pins σ H s) (e:H a=some (.ins C dx fs)) (c:Cls X.K C) (n:cI X.K C f) (hl:fs.length<1000) (ry:aL y u)
  (h:∀ s',Inv X pins σ (upd H a (.ins C dx (dQ f y fs))) s'->Q () s'):EA (EH X.prog X.w) A (setAttr (.ref a) f u) Q E s:=by
 obtain ⟨mA,O,r,wi,_,ho⟩:=jt I.hok e;have hz:(fs.map (·.1)).length<=sizeLine:=by rw [Ξ,JV]; omega
 refine Ar I.kIn O c.sa c.po n.taker c.hd wi hz fun h' O' sb=>h _ ?_;have hd:∃ o,h'.get? dx=some o:=let ⟨o,_,_,e',_⟩:=O'.ns; ⟨o,e'⟩;refine I.write (x:=a) (e:=dx) (by rw [e]; exact Gk) (.inr ho) (fun b q hb z=>(sb.2 b hb).trans z) hd ?_;refine ⟨by rw [ai O.ne]; exact ho,?_,O.ne,O'.obj,_,O'.ns,fun g=>?_,fun g hg=>?_⟩
 ·have:=bh f y fs; omega
 ·show fA ((dQ f y fs).lookup g) (if g=f then some u else mA g)
  rw [aG];by_cases q:g=f
  ·rw [if_pos q,if_pos q]; exact ry
  ·rw [if_neg q,if_neg q]; exact r g
 ·by_cases q:g=f
  ·rw [q]; exact (iU f y fs).1
  ·refine (iU f y fs).2 g (wi g fun z=>hg ?_)
   show (if g=f then some u else mA g)=none
   rw [if_neg q]; exact z
theorem Inv.made (I:Inv X pins σ H s):Inv X pins σ (upd (upd H s.heap.objs.size (.own (s.heap.objs.size+1))) (s.heap.objs.size+1) (.ins C s.heap.objs.size []))
  { s with heap:=(s.heap.push W.emptyDict).push (W.instObj C s.heap.objs.size) }:=by
 have e1:(s.heap.push W.emptyDict).get? s.heap.objs.size=some W.emptyDict:=D4 s.heap rfl
 have e2:((s.heap.push W.emptyDict).push (W.instObj C s.heap.objs.size)).get? (s.heap.objs.size+1)=some (W.instObj C s.heap.objs.size):=by
  have:=D4 (s.heap.push W.emptyDict) (o:=W.instObj C s.heap.objs.size) rfl
  rwa [Hv] at this
 have e3:(s.heap.push W.emptyDict).Ns s.heap.objs.size (fun _=>none):=⟨W.emptyDict,#[],_,e1,rfl,(fun e he=>absurd he (by simp)),fun _=>rfl⟩
 have I1:=I.laid (a:=s.heap.objs.size) (o:=.own (s.heap.objs.size+1)) (h':=s.heap.push W.emptyDict) (t':=s.toks) (fun b u q=>χ _ q) (Av _) ⟨_,e1⟩;refine I1.laid (a:=s.heap.objs.size+1) (o:=.ins C s.heap.objs.size []) (t':=s.toks) (fun b u q=>χ _ q) (H_ (Hv _ _)) ?_;have ne:s.heap.objs.size≠s.heap.objs.size+1:=D5 (Kr _);refine ⟨by rw [ai ne,ag],El _,ne,e2,fun _=>none,(Heap.Ns1.of_empty e3).at fun o q=>χ _ q,fun _=>Gk,fun y hy=>absurd rfl hy⟩
theorem zc {prog:D_} {w:Eh} {env:J_} {e:FE} {f:Str} {pos:HV} {s:Ω} {Q:ς->Ω->Prop} (hb:Ii e f env (F3 e env)=F3 e env)
  (h:EA (EH prog w) A (F3 e env) (fun o s₁=>EA (EH prog w) A (getAttr o f true) Q E s₁) E s):EA (EH prog w) A (F3 (.Attribute e f pos) env) Q E s :=
 Attribute_any_ h (by rw [arm_eval_Attribute,hb])
end
def Cy (K:W.Frag) (ta:TE) (f:Str):TE:=fun σ H Q=>ta σ H fun x H1=>∃ a C dx fs v,x=.ref a/\H1 a=some (.ins C dx fs)/\Cls K C/\cI K C f/\fs.lookup f=some v/\Q v H1
def Dn (K:W.Frag) (ta tv:TE) (f:Str):TS:=fun D σ H=>tv σ H fun y H1=>ta σ H1 fun x H2=>∃ a C dx fs,x=.ref a/\H2 a=some (.ins C dx fs)/\Cls K C/\cI K C f/\fs.length<1000 /\
 D.nx σ (upd H2 a (.ins C dx (dQ f y fs)))
section
variable {X:Cx} {o e value:FE} {f:Str} {pos pos' tpos:HV} {ta tv:TE}
theorem BX (he:PE X e ta) (hb:Ii e f X.env (F3 e X.env)=F3 e X.env):PE X (.Attribute e f pos) (Cy X.K ta f):=by
 intro pins s σ H Q I h;refine zc hb (thn (he pins s σ H _ I h) fun u s1 ⟨x,H1,I1,rx,a,C,dx,fs,v,ex,ea,c,n,l,q⟩=>?_);subst ex;obtain rfl:u=EB a:=rx
 exact qJ I1 ea c n l fun u' s2 I2 ru=>⟨v,H1,I2,ru,q⟩
theorem kl (ha:PE X o ta) (hv:PE X value tv) (hs:KO value (some (.Attribute o f pos')) pos.line X.env=pure false):PS X (.Assign [.Attribute o f pos'] value pos) (Dn X.K ta tv f):=by
 intro pins s σ H D I h;refine plainObj_wpAny_Assign_Attribute (thn (hv pins s σ H _ I h) fun u s1 ⟨y,H1,I1,ry,q⟩=>thn (ha pins s1 σ H1 _ I1 q) fun ov s2 ⟨x,H2,I2,rx,a,C,dx,fs,ex,ea,c,n,l,q2⟩=>?_) hs;subst ex;obtain rfl:ov=EB a:=rx
 exact rE I2 ea c n l ry fun s3 I3=>⟨σ,_,I3,q2⟩
end
section
variable {X:Cx} {pins:List (Δ×GN)} {σ:St} {H:Hp} {s:Ω} {A:Eg} {E:ς->Ω->Prop} {Q:ς->Ω->Prop} {c:ς} {b:Bool}
inductive gu (K:W.Frag) (H:Hp):V->ς->Prop where
  | non : gu K H .non (.type "NoneType")
  | bl (x : Bool) : gu K H (.bl x) (.type "bool")
  | int (i : Int) : gu K H (.int i) (.type "int")
  | str (x : Str) : gu K H (.str x) (.type "str")
  | flt (x : UInt64) : gu K H (.flt x) (.type "float")
  | lst {a : Δ} {xs : List V} (e : H a = some (.lst xs)) : gu K H (.ref a) (.type "list")
  | frz {a : Δ} {o : GN} {xs : List V} (e : H a = some (.frz o (.lst xs))) : gu K H (.ref a) (.type "list")
  | tup {a : Δ} {xs : List V} (e : H a = some (.tup xs)) : gu K H (.ref a) (.type "tuple")
  | dK {a : Δ} {kvs : List (Key × V)} (e : H a = some (.dK kvs)) : gu K H (.ref a) (.type "dict")
  | dT {a : Δ} {kvs : List (List Key × V)} (e : H a = some (.dT kvs)) : gu K H (.ref a) (.type "dict")
  | ins {a C dx : Δ} {fs : List (Str × V)} (e : H a = some (.ins C dx fs)) (cl : Cls K C) (ha : W.findIn K (.ref C) "__class__" = some (some (.builtin "object.__class__")))
      (hn:W.specialIn K (.builtin "object.__class__") "__get__"=some (some (.builtin "getset_descriptor.__get__"))) (htk:W.takesIn K (.builtin "object.__class__")=some true)
      (hm:W.mroIn K C (.type "object")=some true):gu K H (.ref a) (.ref C)
theorem ue {x:V} {u t:ς} (I:Inv X pins σ H s) (rx:aL x u) (ty:gu X.K H x t) (e:W.kitOne X.K t c=some b) (h:∀ tk,Q (.bool b) { s with toks:=tk }) :
  EA (EH X.prog X.w) A (call (.builtin "isinstance") [u,c]) Q E s:=by
 cases ty with
 | non=>cases (show u=GR from rx); exact W.kia_one W.kitx_none I.kIn Gk e (fun z=>nomatch z) h
 | bl y=>cases (show u=Im y from rx); exact W.kia_one W.kitx_bool I.kIn Gk e (fun z=>nomatch z) h
 | int i=>obtain ⟨t,q⟩:=(show ∃ t,u=HR i t from rx); cases q; exact W.kia_one W.kitx_int I.kIn Gk e (fun z=>nomatch z) h
 | str y=>obtain ⟨t,q⟩:=(show ∃ t,u=KW y t from rx); cases q; exact W.kia_one W.kitx_str I.kIn Gk e (fun z=>nomatch z) h
 | flt y=>obtain ⟨t,q⟩:=(show ∃ t,u=MD y t from rx); cases q; exact W.kia_one W.kitx_float I.kIn Gk e (fun z=>nomatch z) h
 | @lst a xs ea =>
  cases (show u=EB a from rx)
  obtain ⟨_,_,n,_,h1⟩:=(show aY X.prog X.w H s.heap a (.lst xs) from I.hok a _ ea)
  exact W.kia_one W.kitx_list I.kIn ⟨_,h1,rfl⟩ e (fun z=>nomatch z) h
 | @frz a ob xs ea =>
  cases (show u=EB a from rx)
  obtain ⟨_,_,_,n,_,h1⟩:=(show aY X.prog X.w H s.heap a (.frz ob (.lst xs)) from I.hok a _ ea)
  exact W.kia_one W.kitx_list I.kIn ⟨_,h1,rfl⟩ e (fun z=>nomatch z) h
 | @tup a xs ea =>
  cases (show u=EB a from rx)
  obtain ⟨_,_,_,p⟩:=(show aY X.prog X.w H s.heap a (.tup xs) from I.hok a _ ea)
  obtain ⟨o,h1,h2,_⟩:=p;exact W.kia_one W.kitx_tuple I.kIn ⟨o,h1,h2⟩ e (fun z=>nomatch z) h
 | @dK a kvs ea =>
  cases (show u=EB a from rx)
  obtain ⟨_,_,vs,_,p⟩:=(show aY X.prog X.w H s.heap a (.dK kvs) from I.hok a _ ea)
  obtain ⟨o,es,ep,h1,h2,_⟩:=p;exact W.kia_one W.kitx_dict I.kIn ⟨o,h1,h2.1⟩ e (fun z=>nomatch z) h
 | @dT a kvs ea =>
  cases (show u=EB a from rx)
  obtain ⟨_,_,xs,_,o,es,ep,h1,h2,_⟩:=(show aY X.prog X.w H s.heap a (.dT kvs) from I.hok a _ ea)
  exact W.kia_one W.kitx_dict I.kIn ⟨o,h1,h2.1⟩ e (fun z=>nomatch z) h
 | @ins a C dx fs ea cl ha hn htk hm =>
  cases (show u=EB a from rx)
  obtain ⟨mA,O,_⟩:=jt I.hok ea;obtain ⟨od,J,_⟩:=O.look;exact W.kia_one (W.kitx_own (cl.get _) cl.hd ha hn htk hm) I.kIn J e (fun z=>nomatch z) h
end
structure bF (k:Nat) (A:Eg):Prop where
 hd:A.handled=none
 dp:A.depth+3*k+5<recursionLimit
 un:A.units+16*k+200<Ho
theorem bF.mono {j k:Nat} {A:Eg} (r:bF k A) (h:j<=k):bF j A:=⟨r.hd,by have:=r.dp; omega,by have:=r.un; omega⟩
theorem bF.deeper {k:Nat} {A:Eg} (r:bF (k+1) A) (env:J_):bF k (A.deeper env) :=
 ⟨r.hd,by have:=r.dp; show A.depth+1+3*k+5<_; omega,by have:=r.un; show A.units+3+16*k+200<_; omega⟩
theorem bF.in1 {k:Nat} {A:Eg} (r:bF (k+1) A):bF k A.in1 :=
 ⟨r.hd,by have:=r.dp; show A.depth+3*k+5<_; omega,by have:=r.un; show A.units+1+16*k+200<_; omega⟩
theorem qR {A:Eg} {C:Δ} {us:List ς} {kw:List (Str×ς)}:(A.under (.builtin "type.__call__" ⟨.ref C::us,kw⟩)).depth=A.depth+1:=by
 first | rfl | simp [Lh,Code.weight,Code.isCreation,Code.isGuard,Code.isCaller,Code.frames,Lz,guardIds]
theorem qS {A:Eg} {C:Δ} {us:List ς} {kw:List (Str×ς)}:(A.under (.builtin "type.__call__" ⟨.ref C::us,kw⟩)).units=A.units+1:=by
 first | rfl | simp [Lh,Code.cUnits,Code.frames,Lz]
theorem bF.make {k:Nat} {A:Eg} (r:bF (k+1) A) (C:Δ) (us:List ς) (kw:List (Str×ς)):bF k (A.under (.builtin "type.__call__" ⟨.ref C::us,kw⟩)) :=
 ⟨r.hd,by have:=r.dp; rw [qR]; omega,by have:=r.un; rw [qS]; omega⟩
theorem bF.depth {k:Nat} {A:Eg} (r:bF k A):A.depth<recursionLimit:=by have:=r.dp; omega
theorem bF.units {k:Nat} {A:Eg} (r:bF k A):A.units+64<cLine:=by have:=r.un; omega
def CA:TA:=fun _ H Q=>Q [] H
def Ba (ta:TE) (tr:TA):TA:=fun σ H Q=>ta σ H fun x H1=>tr σ H1 fun xs H2=>Q (x::xs) H2
section
variable {X:Cx} {e:FE} {es:List FE} {te:TE} {t:TA} {pos:HV}
theorem ae:PA X [] CA:=fun _ _ _ _ H Q I h=>GP ⟨[],H,I,.nil,h⟩
theorem aa (ha:PE X e te) (hr:PA X es t) (hs:EV (e::es) X.env=(false,F3 e X.env)::EV es X.env:=by rfl):PA X (e::es) (Ba te t):=by
 intro pos pins s σ H Q I h;rw [hs]
 show EA _ _ (spliced ((false,F3 e X.env)::GW pos (EV es X.env))) _ _ s
 refine Fj (thn (ha pins s σ H _ I h) fun u s1 ⟨x,H1,I1,r1,q1⟩=>?_);exact thn (hr pos pins s1 σ H1 _ I1 q1) fun us s2 ⟨xs,H2,I2,r2,q2⟩=>⟨x::xs,H2,I2,.cons r1 r2,q2⟩
def DA (t:TA):TE:=fun σ H Q=>t σ H fun xs H1=>xs.length<=D7/\∀ p,H1 p=none->Q (.ref p) (upd H1 p (.tup xs))
def Dw (t:TA):TE:=fun σ H Q=>t σ H fun xs H1=>xs.length<=D7/\∀ p,H1 p=none->Q (.ref p) (upd H1 p (.lst xs))
theorem bN {x1} (h:PA X es t):PE X (.Tuple es x1 pos) (DA t):=by
 intro pins s σ H Q I hq;refine wpAny_Tuple_spliced (thn (h pos pins s σ H _ I hq) fun us s1 ⟨xs,H1,I1,r,z,q⟩=>⟨by rw [<- r.length]; exact z,?_⟩);have hf:H1 s1.heap.objs.size=none:=I1.hok.fresh (Av _);refine ⟨.ref s1.heap.objs.size,upd H1 s1.heap.objs.size (.tup xs),I1.laid (t':=s1.toks) (fun b u e=>χ _ e) (Av _) ?_,rfl,q _ hf⟩;exact ⟨z,us,r,⟨_,D4 _ rfl,rfl,_,rfl⟩⟩
theorem cg (h:PA X es t):PE X (.List es pos) (Dw t):=by
 intro pins s σ H Q I hq;refine wpAny_List_spliced (thn (h pos pins s σ H _ I hq) fun us s1 ⟨xs,H1,I1,r,z,q⟩=>⟨by rw [<- r.length]; exact z,?_⟩);have hf:H1 s1.heap.objs.size=none:=I1.hok.fresh (Av _);refine ⟨.ref s1.heap.objs.size,upd H1 s1.heap.objs.size (.lst xs),I1.laid (t':=s1.toks) (fun b u e=>χ _ e) (Av _) ?_,rfl,q _ hf⟩;exact ⟨z,us,0,r,D4 _ rfl⟩
end
noncomputable abbrev Sp:=List V->Hp->VK->XK->Prop
noncomputable abbrev CXT:=List J_->Hp->Ω->XK->ς->Ω->Prop
structure oB (P:D_) (w:Eh) (K:W.Frag) (mg:Str->Option ς) (base:E5) (A:Eg) (outer:List J_) (s:Ω) (H:Hp):Prop where
 frames:A.frames=some outer
 mod:Mod K mg base
 bs:∀ b o,base.get? b=some o->s.heap.get? b=some o/\H b=none
 bsz:base.objs.size<=s.heap.objs.size
 funs:s.heap.FunFrames base outer
 frf:∀ b∈frs outer,H b=none
 hok:HOk P w H s.heap
 bare:JH s.gens
def CE (outer:List J_) (P:D_) (w:Eh) (H:Hp) (s:Ω) (Q:VK) (u:ς) (s':Ω):Prop :=
 ∃ v H',s'.os=s.os/\JH s'.gens/\Un (frs outer) [] H H' s.heap s'.heap/\HOk P w H' s'.heap/\aL v u/\Q v H'
def CR (CX:CXT) (outer:List J_) (P:D_) (w:Eh) (H:Hp) (s:Ω) (Q:VK) (E:XK) (r:Kq) (s':Ω):Prop :=
 match r with
 | .ok (.ret u)=>CE outer P w H s Q u s'
 | .ok _=>False
 | .error e=>CX outer H s E e s'
structure aW (P:D_) (w:Eh) (K:W.Frag) (mg:Str->Option ς) (base:E5) (CX:CXT) (k:Nat) (f:Δ) (fd:FU) (ps:List Str) (sp:Sp):Prop where
 len:∀ vs H Q E,sp vs H Q E->vs.length=ps.length
 run:∀ (A:Eg) (outer:List J_) (s:Ω) (H:Hp) (args:Args) (us:List ς) (vs:List V) (Q:VK) (E:XK),bF k A->oB P w K mg base A outer s H->L0 s fd args (ps.zip us)->Vals vs us->sp vs H Q E ->
  HA (EH P w) A (.call (.ref f) args) (CR CX outer P w H s Q E) s
theorem oB.make {P:D_} {w:Eh} {K:W.Frag} {mg:Str->Option ς} {base:E5} {A:Eg} {outer:List J_} {s:Ω} {H:Hp} (e:oB P w K mg base A outer s H) (C:Δ) (us:List ς) (kw:List (Str×ς)) :
  oB P w K mg base (A.under (.builtin "type.__call__" ⟨.ref C::us,kw⟩)) outer s H:=⟨by first | exact e.frames | (simpa [Lh,Code.envs,Lz,pushEnvs] using e.frames),e.mod,e.bs,e.bsz,e.funs,e.frf,e.hok,e.bare⟩
section
variable {X:Cx} {pins:List (Δ×GN)} {σ:St} {H:Hp} {s s':Ω}
theorem Inv.env0 (I:Inv X pins σ H s):oB X.prog X.w X.K X.mg X.base X.A X.stack s H :=
 ⟨I.ok.frames,I.ok.mod,I.bs,Ew I.ok.bsz I.sz,I.stack,I.stkFree,I.hok,I.bare⟩
theorem Inv.after {Q:VK} {u:ς} (I:Inv X pins σ H s) (h:CE X.stack X.prog X.w H s Q u s'):EP X pins σ Q u s':=by
 obtain ⟨v,H',os,bare,un,hok,r,q⟩:=h;obtain ⟨hh,g,d,t,os'⟩:=s';obtain rfl:os'=s.os:=os
 exact ⟨v,H',I.call (h':=hh) (g':=g) (d':=d) (t':=t) (ch:=[]) un hok bare (fun b z=>absurd z (by simp)),r,q⟩
end
def tF (sp:Sp) (dvs:List V) (E:XK) (t:TA):TE:=fun σ H Q=>t σ H fun vs H1=>sp (vs++dvs) H1 Q E
def yN (C:Δ) (m:Str) (sp:Sp) (dvs:List V) (E:XK) (ta:TE) (t:TA):TE:=fun σ H Q=>ta σ H fun x H1=>∃ a dx fs,x=.ref a/\H1 a=some (.ins C dx fs)/\fs.lookup m=none /\
 t σ H1 fun vs H2=>sp (x::(vs++dvs)) H2 Q E
def Be (C:Δ) (sp:Sp) (dvs:List V) (E:XK) (t:TA):TE:=fun σ H Q=>t σ H fun vs H1=>∀ x dx,H1 x=none->H1 dx=none->dx≠x ->
 sp (.ref x::(vs++dvs)) (upd (upd H1 dx (.own x)) x (.ins C dx [])) (fun v H2=>v=.non/\Q (.ref x) H2) E
def aI (K:W.Frag) (fd:FU) (ps:List Str) (ds:List ς):Prop :=
 ∀ (s:Ω) (us:List ς),K.In s.heap->(us++ds).length=ps.length->L0 s fd ⟨us,[]⟩ (ps.zip (us++ds))
theorem aI.all {K:W.Frag} {fd:FU} {ps:List Str} (h:∀ us:List ς,us.length=ps.length->IP fd ⟨us,[]⟩=pure (ps.zip us)):aI K fd ps []:=fun s us _ hl=>by
 rw [E2] at hl ⊢;exact .of_eq (h us hl)
def eV (CX:CXT) (X:Cx) (E:XK):Prop:=∀ (pins:List (Δ×GN)) (σ:St) (H:Hp) (s:Ω) (e:ς) (s':Ω),Inv X pins σ H s->CX X.stack H s E e s'->X.xe e s'
section
variable {X:Cx} {CX:CXT} {k:Nat} {f C:Δ} {fd:FU} {ps:List Str} {sp:Sp} {dvs:List V} {ds:List ς} {E:XK} {x m:Str} {p pos apos:HV} {e o:FE} {es:List FE} {ta:TE} {t:TA}
theorem nJ {pins:List (Δ×GN)} {σ:St} {H:Hp} {s:Ω} {Q:VK} {us:List ς} {vs:List V} (F:aW X.prog X.w X.K X.mg X.base CX k f fd ps sp) (hr:bF k X.A) (hb:aI X.K fd ps ds) (hd:Vals dvs ds) (hx:eV CX X E)
  (I:Inv X pins σ H s) (r:Vals vs us) (h:sp (vs++dvs) H Q E):EA (EH X.prog X.w) X.A (call (.ref f) us) (EP X pins σ Q) X.xe s:=by
 have r2:Vals (vs++dvs) (us++ds):=r.append hd;have hl:(us++ds).length=ps.length:=by rw [<- r2.length]; exact F.len _ _ _ _ h
 refine Ic (G0 (F.run X.A X.stack s H ⟨us,[]⟩ (us++ds) (vs++dvs) Q E hr I.env0 (hb s us I.kIn hl) r2 h) fun r s' hq=>?_)
 cases r with
 | error e=>exact hx pins σ H s e s' I hq
 | ok fl =>
  cases fl with
  | ret u => exact I.after hq
  | next => exact Es hq
  | brk => exact Es hq
  | cont => exact Es hq
theorem au (F:aW X.prog X.w X.K X.mg X.base CX k f fd ps sp) (hr:bF k X.A) (hg:Gl X x) (hm:X.mg x=some (.ref f)) (hk:W.keepIn X.K (.ref f)=true) (hb:aI X.K fd ps ds) (hd:Vals dvs ds) (hx:eV CX X E)
  (ha:PA X (e::es) t) (hdb:(x==("__debug__":Str))=false:=by decide) (he:EV (e::es) X.env=(false,F3 e X.env)::EV es X.env:=by rfl) (hpl:(GW pos (EV es X.env)).any (·.1)=false:=by rfl) :
  PE X (.Call (.Name x p) (e::es) [] pos) (tF sp dvs E t):=by
 intro pins s σ H Q I h;refine Fz (d9 I hg hm ?_ hdb);refine W.callWith_K (h₀:=X.base) I.ok.mod.kin hk (thn (ha pos pins s σ H _ I h) fun us s1 ⟨vs,H1,I1,r,q⟩=>⟨I1.kIn,?_⟩) he hpl;exact nJ F hr hb hd hx I1 r q
theorem jw {pl:KH Bool} (he:PE X o ta) (c:Cls X.K C) (hm:oC X.K C m f) (F:aW X.prog X.w X.K X.mg X.base CX k f fd ps sp) (hr:bF k X.A) (hb:aI X.K fd ps ds) (hd:Vals dvs ds) (hx:eV CX X E) (ha:PA X (e::es) t)
  (hst:EV (e::es) X.env=(false,F3 e X.env)::EV es X.env:=by rfl) (hpl:(GW pos (EV es X.env)).any (·.1)=false:=by rfl)
  (ht:F3 (.Call (.Attribute o m apos) (e::es) [] pos) X.env=(do
   let ov <- F3 o X.env
   standAt apos.atName
   let (f,first) <- Jv [ov] (LP ov m pl)
   callWith pos f first (GW pos (EV (e::es) X.env)) (MC pos (KG [] X.env))):=by rfl) :
  PE X (.Call (.Attribute o m apos) (e::es) [] pos) (yN C m sp dvs E ta t):=by
 intro pins s σ H Q I h;refine W.methodCall_KW (pl:=pl) (thn (he pins s σ H _ I h) fun u s1 ⟨x,H1,I1,rx,a,dx,fs,ex,ea,l,q⟩=>?_) ht;subst ex;obtain rfl:u=EB a:=rx
 refine jT I1 ea c hm l ?_;refine W.callWith_K (first:=[.ref a]) (h₀:=X.base) I.ok.mod.kin hm.kp (thn (ha pos pins s1 σ H1 _ I1 q) fun us s2 ⟨vs,H2,I2,r,q2⟩=>⟨I2.kIn,?_⟩) hst hpl;exact nJ (us:=.ref a::us) (vs:=.ref a::vs) F hr hb hd hx I2 (.cons rfl r) q2
theorem b0 {pl:KH Bool} (he:PE X o ta) (c:Cls X.K C) (hm:oC X.K C m f) (F:aW X.prog X.w X.K X.mg X.base CX k f fd ps sp) (hr:bF k X.A) (hb:aI X.K fd ps ds) (hd:Vals dvs ds) (hx:eV CX X E)
  (ht:F3 (.Call (.Attribute o m apos) [] [] pos) X.env=(do
   let ov <- F3 o X.env
   standAt apos.atName
   let (f,first) <- Jv [ov] (LP ov m pl)
   callWith pos f first (GW pos (EV [] X.env)) (MC pos (KG [] X.env))):=by rfl) :
  PE X (.Call (.Attribute o m apos) [] [] pos) (yN C m sp dvs E ta CA):=by
 intro pins s σ H Q I h;refine W.methodCall_KW (pl:=pl) (thn (he pins s σ H _ I h) fun u s1 ⟨x,H1,I1,rx,a,dx,fs,ex,ea,l,q⟩=>?_) ht;subst ex;obtain rfl:u=EB a:=rx
 refine jT I1 ea c hm l ?_;exact W.callWith_K0 (first:=[.ref a]) I1.kIn hm.kp (nJ (us:=[.ref a]) (vs:=[.ref a]) F hr hb hd hx I1 (.cons rfl .nil) q)
structure Mk (K:W.Frag) (C f:Δ):Prop where
 makes:W.makesIn K C=true
 init:W.findIn K (.ref C) "__init__"=some (some (.ref f))
 fn:W.isFn K (.ref f)=true
 kp:W.keepIn K (.ref C)=true
theorem yi {pins:List (Δ×GN)} {σ:St} {H:Hp} {s:Ω} {Q:VK} {us:List ς} {vs:List V} (M:Mk X.K C f) (F:aW X.prog X.w X.K X.mg X.base CX k f fd ps sp) (hr:bF (k+1) X.A) (hb:aI X.K fd ps ds) (hd:Vals dvs ds)
  (hx:eV CX X E) (I:Inv X pins σ H s) (r:Vals vs us)
  (h:∀ x dx,H x=none->H dx=none->dx≠x->sp (.ref x::(vs++dvs)) (upd (upd H dx (.own x)) x (.ins C dx [])) (fun v H2=>v=.non/\Q (.ref x) H2) E) :
  EA (EH X.prog X.w) X.A (call (.ref C) us) (EP X pins σ Q) X.xe s:=by
 have hq:=h (s.heap.objs.size+1) s.heap.objs.size (I.hok.fresh (Gg _)) (I.hok.fresh (Av _)) (D5 (Kr _));have I2:=Inv.made (C:=C) I;have r2:Vals (V.ref (s.heap.objs.size+1)::(vs++dvs)) (EB (s.heap.objs.size+1)::(us++ds)):=.cons rfl (r.append hd)
 have hl:(EB (s.heap.objs.size+1)::us++ds).length=ps.length:=by
  have e:=r2.length;rw [F.len _ _ _ _ hq] at e;exact e.symm
 refine Ic (we (f:=f) I.kIn M.makes M.init (beq_iff_eq.mp M.fn) (G0 (F.run _ X.stack _ _ ⟨EB (s.heap.objs.size+1)::us,[]⟩ (EB (s.heap.objs.size+1)::(us++ds)) _ _ E (hr.make C us [])
  (I2.env0.make C us []) (hb _ (EB (s.heap.objs.size+1)::us) I2.kIn hl) r2 hq) fun r s' hq'=>?_))
 cases r with
 | error e=>exact hx pins σ _ _ e s' I2 hq'
 | ok fl =>
  cases fl with
  | ret u =>
   obtain ⟨v,H',I3,rv,ev,q3⟩:=I2.after hq';subst ev;exact ⟨rv,⟨V.ref (s.heap.objs.size+1),H',I3,rfl,q3⟩⟩
  | next => exact Es hq'
  | brk => exact Es hq'
  | cont => exact Es hq'
theorem zF (M:Mk X.K C f) (F:aW X.prog X.w X.K X.mg X.base CX k f fd ps sp) (hr:bF (k+1) X.A) (hg:Gl X x) (hm:X.mg x=some (.ref C)) (hb:aI X.K fd ps ds) (hd:Vals dvs ds) (hx:eV CX X E)
  (ha:PA X (e::es) t) (hdb:(x==("__debug__":Str))=false:=by decide) (he:EV (e::es) X.env=(false,F3 e X.env)::EV es X.env:=by rfl) (hpl:(GW pos (EV es X.env)).any (·.1)=false:=by rfl) :
  PE X (.Call (.Name x p) (e::es) [] pos) (Be C sp dvs E t):=by
 intro pins s σ H Q I h;refine Fz (d9 I hg hm ?_ hdb);refine W.callWith_K (h₀:=X.base) I.ok.mod.kin M.kp (thn (ha pos pins s σ H _ I h) fun us s1 ⟨vs,H1,I1,r,q⟩=>⟨I1.kIn,?_⟩) he hpl;exact yi M F hr hb hd hx I1 r q
end
structure aB (N P:List Str) (sc:Hq):Prop where
 kind:sc.kind=.function
 co:sc.isCoroutine=false
 gen:sc.isGenerator=false
 nd:N.Nodup
 pre:N.take P.length=P
 par:∀ x∈P,sc.names.lookup x=some .local\/sc.names.lookup x=some .cell
 nofree:∀ y∈sc.names,y.2≠.free
theorem lQ {GA:Str->Option JO} {x:Str}:∀ {binds:List (Str×ς)} {m:Str->Option ς},(∀ v,(x,v)∉binds)->Mb GA binds m x=m x
 | [],_,_=>rfl
 | (n,v)::r,m,h=>by
  unfold Mb;rw [lQ fun w hw=>h w (Au _ hw)]
  split
  ·have:x≠n:=by rintro rfl; exact h v Θ
   simp [this]
  ·rfl
theorem lO {GA:Str->Option JO} {x:Str}:∀ {binds:List (Str×ς)} {m:Str->Option ς},(∀ v,(x,v)∉binds)->Mc GA binds m x=m x
 | [],_,_=>rfl
 | (n,v)::r,m,h=>by
  unfold Mc;rw [lO fun w hw=>h w (Au _ hw)]
  split
  ·rfl
  ·have:x≠n:=by rintro rfl; exact h v Θ
   simp [this]
theorem lP {GA:Str->Option JO} {x:Str} {v:ς}:∀ {P:List Str} {vs:List ς} {i:Nat} {m:Str->Option ς},P.Nodup->P[i]?=some x->vs[i]?=some v->GA x=some .local ->
  Mb GA (P.zip vs) m x=some v
 | [],_,_,_,_,h,_,_=>by simp at h
 | _::_,[],_,_,_,_,h,_=>by simp at h
 | p::P,w::vs,0,m,nd,h1,h2,hk=>by
  simp at h1 h2; subst h1; subst h2
  show Mb GA ((p,w)::P.zip vs) m p=_
  unfold Mb;rw [lQ fun v hv=>(ER.mp nd).1 (Jb hv).1,if_pos hk];simp
 | p::P,w::vs,i+1,m,nd,h1,h2,hk=>by
  show Mb GA ((p,w)::P.zip vs) m x=_
  unfold Mb;exact lP (i:=i) (ER.mp nd).2 (by simpa using h1) (by simpa using h2) hk
theorem lM {GA:Str->Option JO} {x:Str} {v:ς}:∀ {P:List Str} {vs:List ς} {i:Nat} {m:Str->Option ς},P.Nodup->P[i]?=some x->vs[i]?=some v->GA x≠some .local ->
  Mc GA (P.zip vs) m x=some v
 | [],_,_,_,_,h,_,_=>by simp at h
 | _::_,[],_,_,_,_,h,_=>by simp at h
 | p::P,w::vs,0,m,nd,h1,h2,hk=>by
  simp at h1 h2; subst h1; subst h2
  show Mc GA ((p,w)::P.zip vs) m p=_
  unfold Mc;rw [lO fun v hv=>(ER.mp nd).1 (Jb hv).1,if_neg hk];simp
 | p::P,w::vs,i+1,m,nd,h1,h2,hk=>by
  show Mc GA ((p,w)::P.zip vs) m x=_
  unfold Mc;exact lM (i:=i) (ER.mp nd).2 (by simpa using h1) (by simpa using h2) hk
noncomputable def start (N:List Str) (vs:List V):St:=vs.map some++List.replicate (N.length - vs.length) none
noncomputable def dh (CX:CXT) (P:D_) (w:Eh) (K:W.Frag) (mg:Str->Option ς) (base:E5) (N:List Str) (qual:Str) (scope:Hq) (f:Δ) (cd:ς) (A:Eg) (outer:List J_) (s:Ω) (H:Hp) (E:XK):Cx where
 prog:=P
 w:=w
 K:=K
 mg:=mg
 base:=base
 A:=A.deeper (Iz qual scope s.heap.objs.size f cd)
 N:=N
 s₀:=s
 H₀:=H
 env:=Iz qual scope s.heap.objs.size f cd
 outer:=outer
 stack:=Iz qual scope s.heap.objs.size f cd::outer
 ex:=[]
 calm:=true
 fn:=fun _=>true
 pn:=[]
 xe:=fun e s'=>EA (EH P w) (A.deeper (Iz qual scope s.heap.objs.size f cd)) (leaving (Iz qual scope s.heap.objs.size f cd) e) (fun _ s''=>CX outer H s E e s'') (fun e' s''=>CX outer H s E e' s'') s'
theorem oV {sc:Hq} {n:Nat} {x:Str} (h:sc.names.lookup x=some .cell):∃ c,(Ma n sc.names []).lookup x=some c:=by
 have q:=W.cellsFrom_some sc.names n [] (.inl h);exact LF.mp q
theorem lY {CX:CXT} {P:D_} {w:Eh} {K:W.Frag} {mg:Str->Option ς} {base:E5} {N ps:List Str} {qual:Str} {scope:Hq} {f:Δ} {cd:ς} {A:Eg} {outer:List J_} {s s1:Ω} {H:Hp} {E:XK} {us:List ς} {vs:List V}
    (S:aB N ps scope) (hd:A.handled=none) (e0:oB P w K mg base A outer s H) (hl:vs.length=ps.length) (r:Vals vs us)
    (x:InCallC s s.heap.objs.size (Mb (Iz qual scope s.heap.objs.size f cd).kindOf (ps.zip us) fun _=>none) (Ma (s.heap.objs.size+1) scope.names []) (Mc (Iz qual scope s.heap.objs.size f cd).kindOf (ps.zip us) fun _=>none) s1) :
    Inv (dh CX P w K mg base N qual scope f cd A outer s H E) [] (start N vs) H s1:=by
  have hpl:ps.length<=N.length:=by have:=congrArg Jp S.pre; rw [FP] at this; omega
  obtain ⟨h1,tk,rfl,hk⟩:=x.done;have noA:∀ b:Δ,b∉(dh CX P w K mg base N qual scope f cd A outer s H E).ex:=fun b z=>absurd (show b∈([]:List Δ) from z) (by simp);refine ⟨⟨e0.mod,S.kind,rfl,rfl,Av _,fun y z c h1 h2=>?_,fun y hy=>?_,fun y c _ h=>?_,fun _=>hd,L5 e0.frames,.inr ⟨rfl,rfl⟩,fun b z=>absurd z (noA b),e0.bs,e0.bsz,fun b _ _=>noA b,fun b z=>absurd z (noA b),e0.funs,e0.frf⟩,
    rfl,e0.bare,Un.kept hk,⟨_,x.toInCall.ns,fun i y v h1 h2 h3=>?_⟩,fun y c h=>⟨_,x.cell y c h⟩,e0.hok.fresh (Av _),fun y c h=>?_,fun p hp=>absurd (show p∈([]:List (Δ×GN)) from hp) (by simp),e0.hok.kept hk,?_⟩
  · exact name_of_addr x.apart (F_ h1) (F_ h2)
  · have hy:scope.names.lookup y=some .cell\/scope.names.lookup y=some .free:=hy
    rcases hy with hy | hy
    · exact oV hy
    · exact absurd rfl (S.nofree _ (F_ hy))
  · exact Ip (x.above y c (F_ h))
  · have hi:i<vs.length:=by
      unfold start at h2;by_cases hi:i<vs.length
      · exact hi
      · rw [E1 (by simpa using hi)] at h2
        rw [List.getElem?_replicate] at h2
        split at h2<;>cases h2
    have ha:vs[i]?=some v:=by
      unfold start at h2;rw [FO (by simpa using hi),EU] at h2
      cases e:vs[i]? with
      | none=>rw [e] at h2; cases h2
      | some a=>rw [e] at h2; cases h2; rfl
    obtain ⟨u,hu,rv⟩:=r.get ha
    have hp:ps[i]?=some y:=by
      rw [<- S.pre,GI (by omega)]; exact h1
    have ndP:ps.Nodup:=by rw [<- S.pre]; exact S.nd.sublist (FG _ _)
    refine ⟨u,rv,?_⟩;rcases S.par y (EW hp) with k | k
    · exact .inl ⟨k,lP ndP hp hu k⟩
    · obtain ⟨c,e⟩:=oV (n:=s.heap.objs.size+1) k
      refine .inr ⟨.inl k,c,e,?_⟩;have q:=x.cell y c e;rw [lM ndP hp hu (by show scope.names.lookup y≠_; rw [k]; decide)] at q;exact q
  · exact e0.hok.fresh (Ip (x.above y c (F_ h)))
  · unfold start
    show _=N.length
    rw [DZ,Ξ,List.length_replicate];omega
theorem vP {CX:CXT} {P:D_} {w:Eh} {K:W.Frag} {mg:Str->Option ς} {base:E5} {k:Nat} {f:Δ} {name qual:Str} {params:LX} {body:List Ie} {scope:Hq} {dV kV doc pm cdv ct oc:ς} {an od:Option Δ}
  {osl:Array (Option ς)} {N ps:List Str} {sp:Sp} (lk:K.lookup f=some ⟨oc,od,.func (W.fnOf name qual params body scope dV kV doc pm an cdv ct),osl⟩) (hcd:W.codeIn K cdv qual=true) (S:aB N ps scope)
  (len:∀ vs H Q E,sp vs H Q E->vs.length=ps.length)
  (hbody:∀ (A:Eg) (outer:List J_) (s:Ω) (H:Hp) (vs:List V) (Q:VK) (E:XK),bF k (A.deeper (Iz qual scope s.heap.objs.size f cdv))->sp vs H Q E ->
   ∃ t,PSs (dh CX P w K mg base N qual scope f cdv A outer s H E) body t/\t { nx:=fun _ H'=>Q .non H',rt:=Q } (start N vs) H) :
  aW P w K mg base CX (k+1) f (W.fnOf name qual params body scope dV kV doc pm an cdv ct) ps sp:=by
 refine ⟨len,fun A outer s H args us vs Q E hr e0 hb r hsp=>?_⟩;have hl:=len _ _ _ _ hsp;have KX:K.In s.heap:=e0.mod.kin.keeps fun b o e=>(e0.bs b o e).1;have lim:s.heap.NoLimit:=e0.mod.nolimit.keeps fun b o e=>(e0.bs b o e).1;have hkind:∀ y∈ps.zip us,scope.names.lookup y.1=some .local\/(scope.names.lookup y.1=some .cell/\((Ma (s.heap.objs.size+1) scope.names []).lookup y.1).isSome=true):=fun ⟨n,v⟩ hy=>by
  rcases S.par n (Jb hy).1 with q | q
  ·exact .inl q
  ·exact .inr ⟨q,W.cellsFrom_some _ _ _ (.inl q)⟩
 refine codeAny_call_function hr.depth (KX _ _ lk) rfl S.co S.gen rfl (W.codeRec_of KX hcd) (hb _ _ _ _ ?_);refine L7 S.kind hkind fun env he s1 x=>?_;subst he;refine ⟨lim.keeps x.toInCall.keep,codeAny_func ?_⟩;obtain ⟨t,ht,hq⟩:=hbody A outer s H vs Q E (hr.deeper _) hsp;have I:Inv (dh CX P w K mg base N qual scope f cdv A outer s H E) [] (start N vs) H s1:=lY S hr.hd e0 hl r x;refine E8 (ht [] s1 (start N vs) H _ I hq) (fun fl s' hs=>?_) fun e s' hs=>hs
 have fin:∀ {σ':St} {H':Hp} {v:V} {u:ς},Inv (dh CX P w K mg base N qual scope f cdv A outer s H E) [] σ' H' s'->aL v u->Q v H'->CE outer P w H s Q u s' :=
  fun {σ' H' v u} J rv q=>⟨v,H',J.os,J.bare,J.base,J.hok,rv,q⟩
 cases fl with
 | ret u =>
  obtain ⟨v,σ',H',J,rv,q⟩:=hs;exact fin J rv q
 | next =>
  obtain ⟨σ',H',J,q⟩:=hs;exact fin (v:=V.non) (u:=GR) J rfl q
 | brk =>
  obtain ⟨_,_,_,q⟩:=hs;exact Es q
 | cont =>
  obtain ⟨_,_,_,q⟩:=hs;exact Es q
section
variable {X:Cx} {x:Str} {p pos:HV} {e:FE} {es:List FE} {t:TA} {id T:String} {r:List V->Hp->VK->Prop}
def tCB (r:List V->Hp->VK->Prop) (t:TA):TE:=fun σ H Q=>t σ H fun vs H1=>r vs H1 Q
theorem aq (hc:bM X (.builtin id) r) (hg:Gl X x) (hm:X.mg x=none) (hv:FA x=some (.builtin id)) (ha:PA X (e::es) t) (hn:x≠"__name__":=by decide) (hdb:(x==("__debug__":Str))=false:=by decide)
  (he:EV (e::es) X.env=(false,F3 e X.env)::EV es X.env:=by rfl) (hpl:(GW pos (EV es X.env)).any (·.1)=false:=by rfl):PE X (.Call (.Name x p) (e::es) [] pos) (tCB r t):=by
 intro pins s σ H Q I h;refine Fz (cX I hg hm hv ?_ hn hdb);exact PyProof.Rows.callWith_builtin1 (thn (ha pos pins s σ H _ I h) fun us s1 ⟨vs,H1,I1,r1,q1⟩=>hc pins s1 σ H1 vs us Q I1 r1 q1) he hpl
theorem eQ (hc:bM X (.type T) r) (hg:Gl X x) (hm:X.mg x=none) (hv:FA x=some (.type T)) (ha:PA X (e::es) t) (hn:x≠"__name__":=by decide) (hdb:(x==("__debug__":Str))=false:=by decide)
  (he:EV (e::es) X.env=(false,F3 e X.env)::EV es X.env:=by rfl) (hpl:(GW pos (EV es X.env)).any (·.1)=false:=by rfl):PE X (.Call (.Name x p) (e::es) [] pos) (tCB r t):=by
 intro pins s σ H Q I h;refine Fz (cX I hg hm hv ?_ hn hdb);exact FD (thn (ha pos pins s σ H _ I h) fun us s1 ⟨vs,H1,I1,r1,q1⟩=>hc pins s1 σ H1 vs us Q I1 r1 q1) he hpl
end
end L2
namespace HT
open PySem PyProof.Rows
section
open PySem.SeqAt
open PySem.AutoSeq1 (wpAny_loadPart')
open PySem.MeetsSeq PySem.MeetsSeq2 PySem.MeetsSeq3
end
section
variable {prog:D_} {w:Eh} {A:Eg} {E:ς->Ω->Prop} {s:Ω}
noncomputable def sIx (n d:Nat):Option Int->Nat
 | none=>d
 | some v=>if v<0 then (v+(n:Int)).toNat else min v.toNat n
theorem yj (n d:Nat):sIx n d none=d:=rfl
theorem Ap (n d k:Nat):sIx n d (some (k:Int))=min k n:=by
 show (if (k:Int)<0 then ((k:Int)+(n:Int)).toNat else min (k:Int).toNat n)=min k n
 rw [if_neg (by omega),FQ]
end
end HT
namespace L2
open PySem PySem.Spec PyProof.Rows
noncomputable abbrev TO:=St->Hp->(Option Int->Hp->Prop)->Prop
def PO (X:Cx) (e:Option FE) (t:TO):Prop :=
 ∀ (pins:List (Δ×GN)) (s:Ω) (σ:St) (H:Hp) (Q:Option Int->Hp->Prop),Inv X pins σ H s->t σ H Q ->
  EA (EH X.prog X.w) X.A (evalPart e X.env) (fun u s'=>∃ o H',Inv X pins σ H' s'/\IsPart u o/\Q o H') X.xe s
noncomputable def tI:TO:=fun _ H Q=>Q none H
noncomputable def Bh (t:TE):TO:=fun σ H Q=>t σ H fun x H1=>∃ i,x=.int i/\Q (some i) H1
theorem jU {ns:List Int}:∀ {us:List ς},Vals (ns.map V.int) us->JE us ns:=by
 induction ns with
 | nil=>intro us r; rw [Hs] at r; cases r; exact .nil
 | cons n ns ih =>
  intro us r;rw [EL] at r
  cases r with
  | cons r1 r2 =>
   obtain ⟨t,e⟩:=r1;subst e;exact .cons n t (ih r2)
section
variable {X:Cx} {e:FE} {te:TE} {lo hi:Option FE} {tl th:TO} {pos p2:HV}
theorem sV:PO X none tI:=by
 intro pins s σ H Q I h;rw [evalPart_none];exact A_ ⟨none,H,I,.none,h⟩
theorem sW (h:PE X e te):PO X (some e) (Bh te):=by
 intro pins s σ H Q I hw;rw [evalPart_some];refine thn (h pins s σ H _ I hw) fun u s1 ⟨x,H1,I1,r1,q1⟩=>?_;obtain ⟨i,rfl,q⟩:=q1;obtain ⟨t,rfl⟩:=r1;exact ⟨some i,H1,I1,.int i t,q⟩
def SlR (X:Cx) (r:V->Option Int->Option Int->Hp->VK->Prop):Prop :=
 ∀ (pins:List (Δ×GN)) (s:Ω) (σ:St) (H:Hp) (x:V) (v vl vu:ς) (lo hi:Option Int) (sl:Δ) (Q:VK),Inv X pins σ H s->aL x v->s.heap.IsSliceOf sl vl vu .none->IsPart vl lo->IsPart vu hi->r x lo hi H Q ->
  ∃ T id,Jt (.type T) "__getitem__"=pure (some (.builtin id))/\s.TypeIs v T/\EA (EH X.prog X.w) X.A (Ls v (.ref sl)) (EP X pins σ Q) X.xe s
def tSl (r:V->Option Int->Option Int->Hp->VK->Prop) (te:TE) (tl th:TO):TE:=fun σ H Q=>te σ H fun x H1=>tl σ H1 fun l H2=>th σ H2 fun u H3=>r x l u H3 Q
theorem pU {r:V->Option Int->Option Int->Hp->VK->Prop} (hr:SlR X r) (he:PE X e te) (hl:PO X lo tl) (hu:PO X hi th):PE X (.Subscript e (.Slice lo hi none p2) pos) (tSl r te tl th):=by
 intro pins s σ H Q I h;refine Subscript_ (thn (he pins s σ H _ I h) fun v s1 ⟨x,H1,I1,r1,q1⟩=>?_);refine wpAny_Slice (thn (hl pins s1 σ H1 _ I1 q1) fun vl s2 ⟨l,H2,I2,pl,q2⟩=>thn (hu pins s2 σ H2 _ I2 q2) fun vu s3 ⟨u,H3,I3,pu,q3⟩=>?_);rw [evalPart_none];refine A_ ?_;have I4:Inv X pins σ H3 { s3 with heap:=s3.heap.push { cls:=.type "slice",data:=.fields #[vl,vu,.none] } }:=I3.kept (t':=s3.toks) fun b ob q=>χ _ q;obtain ⟨T,id,hT,ht,hg⟩:=hr pins { s3 with heap:=s3.heap.push { cls:=.type "slice",data:=.fields #[vl,vu,.none] } } σ H3 x v vl vu l u s3.heap.objs.size Q I4 r1 (Heap.IsSliceOf.new ..) pl pu q3
 show EA (EH X.prog X.w) X.A (MP e (.Slice lo hi none p2) v (.ref s3.heap.objs.size)) (EP X pins σ Q) X.xe { s3 with heap:=s3.heap.push { cls:=.type "slice",data:=.fields #[vl,vu,.none] } }
 exact tail_any (ops:=[.ref s3.heap.objs.size,v]) ht hT hg (by with_unfolding_all rfl)
noncomputable def mV (xs:List V) (lo hi:Option Int):List V:=(xs.drop (HT.sIx xs.length 0 lo)).take (HT.sIx xs.length xs.length hi - HT.sIx xs.length 0 lo)
theorem pe (xs:List V) (lo hi:Option Int):(mV xs lo hi).length<=xs.length:=by
 unfold mV;rw [FP,GH];omega
end
noncomputable def ixN (n:Nat) (i:Int):Option Nat:=if 0<=i then (if i<n then some i.toNat else none) else if -(n:Int)<=i then some (i+n).toNat else none
noncomputable def atI {α:Type} (xs:List α) (i:Int):Option α:=(ixN xs.length i).bind fun j=>xs[j]?
theorem zp {n:Nat} {i:Int} {j:Nat} (h:ixN n i=some j):seqIndex? i n=some j/\j<n/\-(n:Int)<=i/\i<n:=by
 unfold ixN at h;by_cases h0:0<=i
 ·rw [if_pos h0] at h;by_cases h1:i<n
  ·rw [if_pos h1] at h;have e:i.toNat=j:=E4 h;exact ⟨by rw [seqIndex_of h0 h1,e],by omega,by omega,h1⟩
  ·rw [if_neg h1] at h; cases h
 ·rw [if_neg h0] at h;by_cases h1:-(n:Int)<=i
  ·rw [if_pos h1] at h;have e:(i+n).toNat=j:=E4 h;exact ⟨by rw [seqIndex_neg (by omega) h1,e],by omega,h1,by omega⟩
  ·rw [if_neg h1] at h; cases h
theorem mL {α:Type} {xs:List α} {i:Int} {v:α} (h:atI xs i=some v):∃ j,seqIndex? i xs.length=some j/\xs[j]?=some v/\j<xs.length/\-(xs.length:Int)<=i/\i<xs.length:=by
 unfold atI at h
 cases e:ixN xs.length i with
 | none=>rw [e] at h; cases h
 | some j =>
  rw [e] at h;obtain ⟨h1,h2,h3,h4⟩:=zp e;exact ⟨j,h1,h,h2,h3,h4⟩
theorem bI {α:Type} {xs:List α} {j:Nat} {v:α} (h:xs[j]?=some v):atI xs (j:Int)=some v:=by
 have hj:j<xs.length:=(Aw.mp h).1
 have e:ixN xs.length (j:Int)=some j:=by
  unfold ixN;rw [if_pos (by omega),if_pos (by omega)]; simp
 unfold atI; rw [e]; exact h
theorem oJ {α:Type} (xs:List α) (v:α):atI (xs++[v]) (-1)=some v:=by
 have hl:(xs++[v]).length=xs.length+1:=by simp
 have e:ixN (xs++[v]).length (-1)=some xs.length:=by
  unfold ixN;rw [hl,if_neg (by decide),if_pos (by omega)]
  congr 1
  omega
 unfold atI;rw [e]
 show (xs++[v])[xs.length]?=some v
 simp
def r9 (b:FE):Prop:=∀ o i,LY b false o i=operate [o,i] (Ls o i)
def IxR (X:Cx) (r:R2):Prop :=
 ∀ (value slice:FE) (pins:List (Δ×GN)) (s:Ω) (σ:St) (H:Hp) (x y:V) (v u:ς) (Q:VK),Inv X pins σ H s->aL x v->aL y u->r x y H Q ->
  LY slice false v u=operate [v,u] (Ls v u)->EA (EH X.prog X.w) X.A (MP value slice v u) (EP X pins σ Q) X.xe s
def MtR (X:Cx) (id:String) (r:V->List V->Hp->VK->Prop):Prop :=
 ∀ (pins:List (Δ×GN)) (s:Ω) (σ:St) (H:Hp) (x:V) (xs:List V) (v:ς) (us:List ς) (Q:VK),Inv X pins σ H s->aL x v->Vals xs us->r x xs H Q ->
  EA (EH X.prog X.w) X.A (call (.builtin id) (v::us)) (EP X pins σ Q) X.xe s
section
variable {X:Cx} {a b:FE} {ta tb:TE} {pos:HV}
theorem IxR.or {r r':R2} (h:IxR X r) (h':IxR X r'):IxR X (fun x y H Q=>r x y H Q\/r' x y H Q):=by
 intro value slice pins s σ H x y v u Q I rx ry q hs;rcases q with q | q
 ·exact h value slice pins s σ H x y v u Q I rx ry q hs
 ·exact h' value slice pins s σ H x y v u Q I rx ry q hs
theorem C2 {r:R2} (hr:IxR X r) (ha:PE X a ta) (hb:PE X b tb) (hs:r9 b):PE X (.Subscript a b pos) (tOp r ta tb):=by
 intro pins s σ H Q I h;exact Subscript_ (Br ha hb I h fun v u s2 x y H2 I2 rx ry q=>hr a b pins s2 σ H2 x y v u Q I2 rx ry q (hs _ _))
def zM (K:W.Frag):R2:=fun x y H Q=>∃ p xs i v,x=.ref p/\y=.int i/\SqL K H p xs/\atI xs i=some v/\Q v H
def zN (K:W.Frag):R2:=fun x y H Q=>∃ p xs i v,x=.ref p/\y=.int i/\SqT K H p xs/\atI xs i=some v/\Q v H
def C6:R2:=fun x y H Q=>∃ z i c,x=.str z/\y=.int i/\z.length<=D7/\atI z.cps.toList i=some c/\Q (.str ⟨#[c]⟩) H
theorem sN:IxR X (zM X.K):=by
  intro value slice pins s σ H x y v u Q I rx ry h hs;obtain ⟨p,xs,i,z,rfl,rfl,hq,he,q⟩:=h
  cases rx;obtain ⟨t,rfl⟩:=ry;obtain ⟨its,r,pl,hz⟩:=I.list hq;obtain ⟨j,h1,h2,h3,h4,h5⟩:=mL he;obtain ⟨w,ew,rw'⟩:=r.get h2;have hl:=r.length;have hn:=j1;have fin:EP X pins σ Q w s:=⟨z,H,I,rw',q⟩
  by_cases h0:0<=i
  · have hj:i.toNat=j:=by
      rw [seqIndex_of h0 h5] at h1;exact E4 h1
    exact item_listR pl.isList h0 (by omega) (by rw [hj]; simpa using ew) fin hs
  · have hj:(i+(its.toArray.size:Int)).toNat=j:=by
      rw [seqIndex_neg (by omega) h4] at h1;rw [D8,<- hl];exact E4 h1
    exact subscriptTail_builtinR (x:=w) pl.isList.typeIs slot_list_getitem.lookup
      (wpAny_getItem_list_neg (Q:=fun r s'=>r=w/\EP X pins σ Q r s') pl.isList (by omega) (by rw [D8]<;>omega) (by omega) (by rw [hj]; simpa using ew) ⟨rfl,fin⟩) hs
theorem vZ:IxR X (zN X.K):=by
 intro value slice pins s σ H x y v u Q I rx ry h hs;obtain ⟨p,xs,i,z,rfl,rfl,hq,he,q⟩:=h
 cases rx;obtain ⟨t,rfl⟩:=ry;obtain ⟨its,r,pl,hz⟩:=I.tuple hq;obtain ⟨j,h1,h2,h3,h4,h5⟩:=mL he;obtain ⟨w,ew,rw'⟩:=r.get h2;have hl:=r.length;have hn:=j1;have fin:EP X pins σ Q w s:=⟨z,H,I,rw',q⟩
 exact subscriptTail_builtinR (x:=w) pl.typeIs slot_tuple_getitem.lookup
  (getItem_tuple (j:=j) (Q:=fun r s'=>r=w/\EP X pins σ Q r s') pl (by omega) (by omega) (by rw [D8,<- hl]; exact h1) (by simpa using ew) ⟨rfl,fin⟩) hs
theorem BE:IxR X C6:=by
 intro value slice pins s σ H x y v u Q I rx ry h hs;obtain ⟨z,i,c,rfl,rfl,hz,he,q⟩:=h;obtain ⟨t,rfl⟩:=rx;obtain ⟨t',rfl⟩:=ry;obtain ⟨j,h1,h2,h3,h4,h5⟩:=mL he;have hl:z.cps.toList.length=z.length:=by simp [Str.length]
 rw [hl] at h1 h4 h5;have hn:=j1;exact tail_any (typeIs_str s z t) slot_str_getitem.lookup (getItem_str (c:=c) (by
  have e1:decide (i < -(2 ^ 63:Int))=false:=decide_eq_false (by omega);have e2:decide (i>=2 ^ 63)=false:=decide_eq_false (by omega);rw [e1,e2,Bool.or_false]) (by rw [h1]; simpa using h2) ⟨.str ⟨#[c]⟩,H,I.tok _,⟨_,rfl⟩,q⟩) hs
def rIx (K:W.Frag):R2:=fun x y H Q=>zM K x y H Q\/zN K x y H Q\/C6 x y H Q
theorem BD:IxR X (rIx X.K):=sN.or (vZ.or BE)
theorem oh (lo hi:Option Int) (n:Nat):(Ik lo hi none n).1=((HT.sIx n 0 lo:Nat):Int)/\(Ik lo hi none n).2.1=((HT.sIx n n hi:Nat):Int)/\(Ik lo hi none n).2.2=1:=by
 refine ⟨?_,?_,rfl⟩
 ·cases lo with
  | none => simp [Ik, HT.sIx]
  | some i =>
   simp only [Ik,HT.sIx,Mi,show (1:Int) > 0 by decide,if_true];by_cases h:i<0
   ·simp only [h,if_true]<;>omega
   ·simp only [h,if_false]<;>omega
 ·cases hi with
  | none => simp [Ik, HT.sIx]
  | some i =>
   simp only [Ik,HT.sIx,Mi,show (1:Int) > 0 by decide,if_true];by_cases h:i<0
   ·simp only [h,if_true]<;>omega
   ·simp only [h,if_false]<;>omega
theorem lG (its:List ς) (lo hi:Option Int):slicePick its.toArray lo hi none=((its.drop (HT.sIx its.length 0 lo)).take (HT.sIx its.length its.length hi - HT.sIx its.length 0 lo)).toArray:=by
 obtain ⟨h1,h2,h3⟩:=oh lo hi its.toArray.size;unfold slicePick;rw [h1,h2,h3];simp only [sliceRange_one,pick_run,D8]<;>rfl
def B6 (K:W.Frag):V->Option Int->Option Int->Hp->VK->Prop:=fun x lo hi H Q=>∃ a xs,x=.ref a/\SqL K H a xs/\∀ p,H p=none->Q (.ref p) (upd H p (.lst (mV xs lo hi)))
theorem As:SlR X (B6 X.K):=by
 intro pins s σ H x v vl vu lo hi sl Q I rx hs pl pu h;obtain ⟨a,xs,rfl,hx,q⟩:=h
 cases rx;obtain ⟨its,r,ht,hz⟩:=I.list hx;have hlen:=r.length;refine ⟨"list",_,slot_list_getitem.lookup,ht.isList.typeIs,?_⟩;refine wpAny_getItem_list_slice ht.isList hs pl pu .none (by simp) ?_ (by rw [D8]<;>omega);rw [lG,<- hlen];refine ⟨.ref s.heap.objs.size,_,I.laid (t':=s.toks) (o:=.lst (mV xs lo hi)) (fun b ob q=>χ _ q) (Av _) ?_,rfl,q _ (I.hok.fresh (Av _))⟩;exact ⟨Ew (pe xs lo hi) hz,_,0,(r.drop (HT.sIx xs.length 0 lo)).take (HT.sIx xs.length xs.length hi - HT.sIx xs.length 0 lo),D4 _ rfl⟩
theorem mP:bM X (.builtin "len") (fun xs H Q=>∃ p ys,xs=[.ref p]/\(SqL X.K H p ys\/SqT X.K H p ys)/\Q (.int ys.length) H):=by
 intro pins s σ H xs us Q I r h;obtain ⟨p,ys,rfl,hq,q⟩:=h;obtain ⟨u,rfl,rx⟩:=jj r
 cases rx;have hn:=j1;rcases hq with hq | hq
 ·obtain ⟨its,r',pl,hz⟩:=I.list hq;have hlen:=r'.length;exact Calls.call_len_list pl.isList (by simp only [D8]<;>omega) ⟨.int ys.length,H,I.tok _,⟨s.toks+1,by rw [D8,hlen]⟩,q⟩
 ·obtain ⟨its,r',pl,hz⟩:=I.tuple hq;have hlen:=r'.length;exact len_tuple pl (by simp only [D8]<;>omega) ⟨.int ys.length,H,I.tok _,⟨s.toks+1,by rw [D8,hlen]⟩,q⟩
theorem mQ:bM X (.type "list") (fun xs H Q=>∃ p ys,xs=[.ref p]/\(SqL X.K H p ys\/SqT X.K H p ys)/\∀ l,H l=none->Q (.ref l) (upd H l (.lst ys))):=by
  intro pins s σ H xs us Q I r h;obtain ⟨p,ys,rfl,hq,q⟩:=h;obtain ⟨u,rfl,rx⟩:=jj r
  cases rx;have fin:∀ (its:List ς),Vals ys its->ys.length<=D7->∀ (h':E5) (c':Nat),(∀ b o',s.heap.get? b=some o'->h'.get? b=some o') ->
      h'.get? s.heap.objs.size=some { cls:=.type "list",dict:=none,data:=.seq its.toArray c',slots:=#[] }->EP X pins σ Q (.ref s.heap.objs.size) { s with heap:=h' }:=fun its r' hz h' c' kp e =>
    ⟨.ref s.heap.objs.size,_,I.laid (t':=s.toks) kp (Av _) (show aY X.prog X.w _ h' _ (.lst ys) from ⟨hz,its,c',r',e⟩),rfl,q _ (I.hok.fresh (Av _))⟩
  rcases hq with hq | hq
  · obtain ⟨its,r',pl,hz⟩:=I.list hq
    have hlen:=r'.length;obtain ⟨o,ho,hc,n,hd⟩:=pl.isList;exact call_list_seq p (.inl rfl) ho hc hd (fun h' c' kp e=>fin its r' hz h' c' kp e) (by simp only [D8]<;>omega)
  · obtain ⟨its,r',pl,hz⟩:=I.tuple hq
    have hlen:=r'.length;obtain ⟨o,ho,hc,n,hd⟩:=pl;exact call_list_seq p (.inr rfl) ho hc hd (fun h' c' kp e=>fin its r' hz h' c' kp e) (by simp only [D8]<;>omega)
theorem kY:bM X (.type "tuple") (fun xs H Q=>∃ p ys,xs=[.ref p]/\((SqL X.K H p ys/\∀ l,H l=none->Q (.ref l) (upd H l (.tup ys)))\/(SqT X.K H p ys/\Q (.ref p) H))):=by
 intro pins s σ H xs us Q I r h;obtain ⟨p,ys,rfl,h⟩:=h;obtain ⟨u,rfl,rx⟩:=jj r
 cases rx;rcases h with ⟨hq,q⟩ | ⟨hq,q⟩
 ·obtain ⟨its,r',pl,hz⟩:=I.list hq;have hlen:=r'.length;refine call_tuple_list pl.isList (fun h' kp=>?_) (by simp only [D8]<;>omega);have I1:Inv X pins σ H { s with heap:=h' }:=I.kept (t':=s.toks) kp
  have I2:Inv X pins σ (upd H h'.objs.size (.tup ys)) { s with heap:=h'.push { cls:=.type "tuple",data:=.seq its.toArray } } :=
   I1.laid (t':=s.toks) (fun b o e=>χ _ e) (Av _) (show aY X.prog X.w _ _ _ (.tup ys) from ⟨hz,its,r',IsTup.new _ _⟩)
  exact ⟨.ref h'.objs.size,_,I2,rfl,q _ (I1.hok.fresh (Av _))⟩
 ·obtain ⟨its,r',pl,hz⟩:=I.tuple hq;exact call_tuple_same pl ⟨.ref p,H,I,rfl,q⟩
def tyV (K:W.Frag) (T:String) (x:V) (H:Hp):Prop:=match x with
  | .str _ => T = "str"
  | .int _ => T = "int"
  | .ref p => (T = "list" /\ ∃ xs, SqL K H p xs) \/ (T = "tuple" /\ ∃ o, K.lookup p = some o /\ o.cls = .type "tuple" /\ o.dict = none) \/
      (T="dict"/\((∃ kvs,H p=some (.dK kvs))\/∃ kvs,H p=some (.dT kvs)))\/(T="set"/\∃ S n,H p=some (.set S n))
  | _ => False
theorem yW {pins:List (Δ×GN)} {σ:St} {H:Hp} {s:Ω} {T:String} {x:V} {v:ς} (I:Inv X pins σ H s) (r:aL x v) (ty:tyV X.K T x H) :
    s.TypeIs v T/\∀ a,v=.ref a->∃ ob,s.heap.get? a=some ob/\ob.dict=none:=by
  cases x with
  | str z =>
    obtain ⟨t,rfl⟩:=r
    cases (show T="str" from ty)
    exact ⟨typeIs_str s z t,fun _ e=>nomatch e⟩
  | int i =>
    obtain ⟨t,rfl⟩:=r
    cases (show T="int" from ty)
    exact ⟨typeIs_int s i t,fun _ e=>nomatch e⟩
  | ref p =>
    cases r;rcases ty with ⟨rfl,xs,hq⟩ | ⟨rfl,o,hk,hc,hd⟩ | ⟨rfl,hk⟩ | ⟨rfl,S,n,hk⟩
    · obtain ⟨its,_,pl,_⟩:=I.list hq
      refine ⟨pl.isList.typeIs,fun a e=>?_⟩
      cases e;obtain ⟨o,n,e,c,hd,_⟩:=pl;exact ⟨o,e,hd⟩
    · refine ⟨⟨o,I.kIn p o hk,hc⟩,fun a e=>?_⟩
      cases e;exact ⟨o,I.kIn _ o hk,hd⟩
    · have z:∃ o,s.heap.get? p=some o/\o.ExactDict:=by
        rcases hk with ⟨kvs,hk⟩ | ⟨kvs,hk⟩
        · obtain ⟨_,_,_,_,o,_,_,e,ex,_⟩:=I.hok p _ hk
          exact ⟨o,e,ex⟩
        · obtain ⟨_,_,_,_,o,_,_,e,ex,_⟩:=I.hok p _ hk
          exact ⟨o,e,ex⟩
      obtain ⟨o,e,ex⟩:=z;refine ⟨⟨o,e,ex.1⟩,fun a e2=>?_⟩
      cases e2;exact ⟨o,e,ex.2.1⟩
    · obtain ⟨o,_,_,_,e,ex,_⟩:=I.hok p _ hk
      refine ⟨⟨o,e,ex.1⟩,fun a e2=>?_⟩
      cases e2;exact ⟨o,e,ex.2.1⟩
  | _ => exact Es ty
def Ds (K:W.Frag) (T:String) (r:V->List V->Hp->VK->Prop) (to:TE):TE:=fun σ H Q=>to σ H fun x H1=>tyV K T x H1/\r x [] H1 Q
def tBM (K:W.Frag) (T:String) (r:V->List V->Hp->VK->Prop) (to:TE) (t:TA):TE:=fun σ H Q=>to σ H fun x H1=>tyV K T x H1/\t σ H1 fun xs H2=>r x xs H2 Q
variable {o e:FE} {es:List FE} {to:TE} {t:TA} {name:Str} {apos cpos:HV} {T id:String} {r:V->List V->Hp->VK->Prop}
theorem wQ (pa:PlainAttrs T) (slot:Slot T name id) (hty:typeOf (.builtin id)=pure (.type "method_descriptor")) (hm:MtR X id r) (ho:PE X o to)
  (hbase:Ii o name X.env (F3 o X.env)=F3 o X.env:=by rfl) (hline:(apos.endLine==cpos.line)=true:=by rfl):PE X (.Call (.Attribute o name apos) [] [] cpos) (Ds X.K T r to):=by
 intro pins s σ H Q I h;refine wpAny_Call_method0_late hbase hline (thn (ho pins s σ H _ I h) fun v s1 ⟨x,H1,I1,r1,ty,q1⟩=>?_);obtain ⟨h1,h2⟩:=yW I1 r1 ty;exact ⟨T,id,pa,slot,hty,h1,h2,G_ rfl (PySem.evalArgs_none (hm pins s1 σ H1 x [] v [] Q I1 r1 .nil q1))⟩
theorem cV (pa:PlainAttrs T) (slot:Slot T name id) (hty:typeOf (.builtin id)=pure (.type "method_descriptor")) (hm:MtR X id r) (ho:PE X o to) (ha:PA X (e::es) t)
  (hbase:Ii o name X.env (F3 o X.env)=F3 o X.env:=by rfl)
  (hfew:((GW cpos (EV (e::es) X.env)).all (fun x=>!x.1)&&(MC cpos (KG [] X.env)).all (fun x=>x.1.isSome)
   && decide ((e::es).length+([]:List Keyword).length+(if ([]:List Keyword).isEmpty then 0 else 1)<30))=true:=by rfl)
  (hline:(apos.endLine==cpos.line)=true:=by rfl) (hs:EV (e::es) X.env=(false,F3 e X.env)::EV es X.env:=by rfl) (hplain:(GW cpos (EV es X.env)).any (·.1)=false:=by rfl) :
  PE X (.Call (.Attribute o name apos) (e::es) [] cpos) (tBM X.K T r to t):=by
 intro pins s σ H Q I h;refine wpAny_Call_method_late hbase hfew hline rfl (thn (ho pins s σ H _ I h) fun v s1 ⟨x,H1,I1,r1,ty,q1⟩=>?_);obtain ⟨h1,h2⟩:=yW I1 r1 ty;refine ⟨T,id,pa,slot,hty,h1,h2,?_⟩;have hA:=ha cpos pins s1 σ H1 _ I1 q1;rw [hs] at hA ⊢;refine G_ (by show (false||(GW cpos (EV es X.env)).any (·.1))=false; rw [hplain]<;>rfl) (HK ?_);exact thn hA fun us s2 ⟨vs,H2,I2,r2,q2⟩=>hm pins s2 σ H2 x vs v us Q I2 r1 r2 q2
end
def MtM (X:Cx) (id:String) (r:V->List V->Hp->VK->Prop):Prop :=
 ∀ (pins:List (Δ×GN)) (s:Ω) (σ:St) (H:Hp) (x:V) (xs:List V) (v:ς) (us:List ς) (Q:VK),Inv X pins σ H s->aL x v->Vals xs us->r x xs H Q ->
  EA (EH X.prog X.w) X.A (call (.builtin id) (v::us)) (EP X pins σ Q) X.xe s
theorem Vals.one:∀ {x:V} {us:List ς},Vals [x] us->∃ u,us=[u]/\aL x u
 | _,_,.cons r .nil=>⟨_,rfl,r⟩
theorem Vals.two:∀ {x y:V} {us:List ς},Vals [x,y] us->∃ u v,us=[u,v]/\aL x u/\aL y v
 | _,_,_,.cons r (.cons q .nil)=>⟨_,_,rfl,r,q⟩
theorem Vals.zero:∀ {us:List ς},Vals [] us->us=[]
 | _,.nil=>rfl
section
variable {X:Cx} {pins:List (Δ×GN)} {σ:St} {H:Hp} {s:Ω} {l b:Δ} {xs ys zs:List V}
theorem Inv.lset {its its':List ς} {n:Nat} {f:Array ς->Array ς} {t':Nat} (I:Inv X pins σ H s) (hH:H l=some (.lst xs))
  (e:s.heap.get? l=some { cls:=.type "list",data:=.seq its.toArray n }) (hf:f its.toArray=its'.toArray) (hv:Vals ys its') (hz:ys.length<=D7) :
  Inv X pins σ (upd H l (.lst ys)) { s with heap:=s.heap.update l (ES f),toks:=t' }:=by
 have q:=PySem.IsL.update e f;rw [hf] at q;refine I.write (x:=l) (e:=l) (by rw [hH]; exact trivial) (.inl rfl) (fun b' u hb hu=>(EX s.heap (ES f) (FH hb)).trans hu) ⟨_,q⟩ ?_;exact ⟨hz,its',_,hv,q⟩
theorem Inv.lnew {its:List ς} {t':Nat} (I:Inv X pins σ H s) (hv:Vals ys its) (hz:ys.length<=D7) :
  Inv X pins σ (upd H s.heap.objs.size (.lst ys)) { s with heap:=s.heap.push { cls:=.type "list",data:=.seq its.toArray },toks:=t' } :=
 I.laid (fun _ _ q=>χ _ q) (Av _) ⟨hz,its,0,hv,D4 _ rfl⟩
theorem Inv.fresh (I:Inv X pins σ H s):H s.heap.objs.size=none:=I.hok.fresh (Av _)
theorem Inv.lstM (I:Inv X pins σ H s) (hH:H l=some (.lst xs)):xs.length<=D7/\∃ (its:List ς) (n:Nat),Vals xs its/\xs.length=its.length/\s.heap.get? l=some { cls:=.type "list",data:=.seq its.toArray n }:=by
 obtain ⟨z,its,n,r,e⟩:=I.hok l _ hH;exact ⟨z,its,n,r,r.length,e⟩
theorem wz {n:Nat} (h:n<=D7):Ia n=false:=by
 unfold Ia;exact decide_eq_false (by omega)
end
section
variable {X:Cx}
def tf:V->List V->Hp->VK->Prop:=fun x vs H Q=>∃ l xs y,x=.ref l/\vs=[y]/\H l=some (.lst xs)/\xs.length<D7/\Q .non (upd H l (.lst (xs++[y])))
theorem ba:MtM X "list.append" tf:=by
 intro pins s σ H x vs v us Q I rx rv h;obtain ⟨l,xs,y,rfl,rfl,hH,hz,q⟩:=h
 cases rx;obtain ⟨u,rfl,ru⟩:=rv.one;obtain ⟨z,its,n,r,hl,e⟩:=I.lstM hH;refine Kp F.slot_list_append ⟨_,e,rfl⟩ F.entry_list_append (F.args_list_append_2 _ _) (PySem.list_append l its.toArray n u (by rw [D8]; omega)) ⟨e,?_⟩;refine ⟨.non,_,I.lset (its':=its++[u]) hH e (by simp) (r.append (.cons ru .nil)) ?_,rfl,q⟩;rw [DZ,EO];omega
def zK:V->List V->Hp->VK->Prop:=fun x vs H Q=>∃ l b xs zs,x=.ref l/\vs=[.ref b]/\H l=some (.lst xs)/\H b=some (.lst zs)/\xs.length+zs.length<=D7/\Q .non (upd H l (.lst (xs++zs)))
theorem uv:MtM X "list.extend" zK:=by
 intro pins s σ H x vs v us Q I rx rv h;obtain ⟨l,b,xs,zs,rfl,rfl,hH,hB,hz,q⟩:=h
 cases rx;obtain ⟨u,rfl,ru⟩:=rv.one
 cases ru;obtain ⟨z,its,n,r,hl,e⟩:=I.lstM hH;obtain ⟨z2,its2,n2,r2,hl2,e2⟩:=I.lstM hB;have hsz:its.toArray.size+its2.toArray.size<=sizeLine:=by rw [D8,D8]; omega
 have hlong:¬ (!its.toArray.isEmpty&&Ia (its.toArray.size+its2.toArray.size))=true:=by
  rw [wz hsz,Hw];exact Ei
 refine Kp F.slot_list_extend ⟨_,e,rfl⟩ F.entry_list_extend (F.args_list_extend_2 _ _)
  (AutoSeq1.list_extend_list_list_0 l its.toArray n b its2.toArray n2 hlong (by rw [D8]; omega) (by omega)) ⟨e,e2,?_⟩
 refine ⟨.non,_,I.lset (its':=its++its2) hH e (by simp) (r.append r2) ?_,rfl,q⟩;rw [DZ];omega
def xw:V->List V->Hp->VK->Prop:=fun x vs H Q=>∃ l xs,x=.ref l/\vs=[]/\H l=some (.lst xs)/\Q .non (upd H l (.lst []))
theorem wg:MtM X "list.clear" xw:=by
 intro pins s σ H x vs v us Q I rx rv h;obtain ⟨l,xs,rfl,rfl,hH,q⟩:=h
 cases rx;have hus:=rv.zero;subst hus;obtain ⟨z,its,n,r,hl,e⟩:=I.lstM hH;refine Kp F.slot_list_clear ⟨_,e,rfl⟩ F.entry_list_clear (F.args_list_clear_1 _) (AutoSeq1.list_clear_list_0 l its.toArray n (by rw [D8]; omega)) ⟨e,?_⟩;exact ⟨.non,_,I.lset (its':=[]) (ys:=[]) hH e rfl .nil (El _),rfl,q⟩
def C4:R2:=fun x y H Q=>∃ l b xs zs,x=.ref l/\y=.ref b/\H l=some (.lst xs)/\H b=some (.lst zs)/\xs.length+zs.length<=D7/\∀ p,H p=none->Q (.ref p) (upd H p (.lst (xs++zs)))
theorem wJ:OpR X (Jh .Add) C4:=by
 intro pins s σ H x y v u Q I rx ry h;obtain ⟨l,b,xs,zs,rfl,rfl,hH,hB,hz,q⟩:=h
 cases rx
 cases ry;obtain ⟨z,its,n,r,hl,e⟩:=I.lstM hH;obtain ⟨z2,its2,n2,r2,hl2,e2⟩:=I.lstM hB;refine PySem.P.add_list e e2 ?_ (by rw [D8,D8]; omega);have ea:its.toArray++its2.toArray=(its++its2).toArray:=by simp
 rw [ea];exact ⟨.ref _,_,I.lnew (t':=s.toks) (r.append r2) (by rw [DZ]; omega),rfl,q _ I.fresh⟩
end
section
variable {prog:D_} {w:Eh} {A:Eg} {E:ς->Ω->Prop} {s:Ω}
set_option maxRecDepth 100000 in
end
end L2
namespace Att
open PySem PySem.W PySem.Calls PyProof.Rows
theorem jl {P:Params} {h:E5}:∀ (ns:List Int) (vs:List ς),WellAll P h vs (ns.map WData.int)->JE vs ns:=by
 intro ns
 induction ns with
 | nil =>
  intro vs w;rw [Hs] at w
  cases w;exact .nil
 | cons n ns ih =>
  intro vs w;rw [EL] at w
  cases w with
  | cons a b =>
   cases a;exact .cons _ _ (ih _ b)
theorem uU {l:OpenLaw} {n:Nat} (hn:l.most=some n) {P:Params} {h:E5} {args:List WData} {vals:List ς}
  (hpre:l.row.toRowW.claim.pre args=true) (hwl:WellAll P h vals args) :
  ∃ a vs ns,vals=[EB a]/\args=[WData.list (ns.map WData.int)]/\h.get? a=some { cls:=.type "list",data:=.seq vs.toArray }/\JE vs ns/\ns.length<=n:=by
 have hsh:WShape.hasAll [] args [.list .int]=true:=(pre_splitW hpre).1;have hc:l.pre.holds [] { args:=args }=true:=(pre_splitW hpre).2;obtain ⟨d,r,rfl,h1,h2⟩:=hasAllW_cons hsh;obtain rfl:=hasAllW_nil h2
 obtain ⟨xs,rfl,h3⟩:=hasW_list h1;obtain ⟨ns,rfl⟩:=items_int h3
 have hlen:ns.length<=n:=by
  unfold OpenLaw.pre at hc
  have h4:(WTm.not (.lt (.lit (.int (n:Int))) (.len (.arg 0)))).holds [] { args:=[.list (ns.map .int)] }=true:=by
   have h4:=(holds_andW hc).1;rw [hn] at h4;exact h4
  have h5:=condW_of h4 (w_not (w_lt w_lit (w_len_list (w_arg rfl))));rw [Ξ] at h5;refine Nat.le_of_not_lt fun q=>?_;have q':(n:Int)<((ns.length:Nat):Int):=by omega
  first
   | (rw [decide_eq_true q'] at h5; exact absurd h5 (by decide))
   | (simp at h5; omega)
 cases hwl with
 | cons w1 w2 =>
  cases w2
  cases w1 with
  | list ho hall => exact ⟨_, _, ns, rfl, rfl, ho, jl ns _ hall, hlen⟩
theorem uG (l:OpenLaw) (args:List WData):l.row.toRowW.claim.post args (.bool true) args=true :=
 postW_of (r:=l.row.toRowW) (X:=(true==true))
  (show WShape.has [] (.bool true) .bool=true by first | rfl | decide | simp [WShape.has,WShape.arms,WShape.armsAll])
  (show (WTm.eq .res (.lit (.bool true))).value [] { args:=args,res:=some (.bool true),after:=args }=some (.bool (true==true)) from w_eq_bool (w_res rfl) w_lit) rfl
theorem oM {l:OpenLaw} {n:Nat} {q:D_} {loose:List Str} {XP:(Str->Option ς)->E5->Prop} {YP:Eh->E5->Prop} {d:DefRec}
  (hn:l.most=some n) (hdf:d.params.defaults=[])
  (call:∀ (w:Eh) (s₀ s₁:Ω) (mg mb:Str->Option ς) (fa:Δ) (o:GN) (pm cd doc:ς) (a:Δ) (vs:List ς) (ns:List Int),
   Ground q loose [] XP w s₀ mg mb s₁.heap->YP w s₁.heap ->
   s₁.heap.get? fa=some o->o.data=.func (docDef d.name d.params d.body d.scope pm cd doc)->s₁.heap.CodeRec cd d.name->mg d.name=some (.ref fa) ->
   s₁.heap.get? a=some { cls:=.type "list",data:=.seq vs.toArray }->JE vs ns->ns.length<=n->s₁.gens=#[] ->
   HA (EH l.prog w) K5 (.call (.ref fa) ⟨[.ref a],[]⟩) (fun r s'=>r=.ok (.ret (.bool true))/\OldK s₁.heap s'.heap/\s'.os=s₁.os/\JH s'.gens) s₁) :
  WalkO q loose XP YP l.row.toRowW d [] (fun f vs=>Io f vs):=by
 intro w s₀ s₁ mg mb G Y fa o pm cd doc dV kV ho hd hcd hD hmg hg args vals as hpre hlay hrd hwl hlo;obtain rfl:dV=.none:=Dflts.none hD hdf
 obtain rfl:kV=.none:=Dflts.noKw hD
 obtain ⟨a,vs,ns,rfl,rfl,hobj,hints,hlen⟩:=uU hn hpre hwl;refine enter_call (G0 (call w s₀ s₁ mg mb fa o pm cd doc a vs ns G Y ho (fd_plain hd) hcd hmg hobj hints hlen hg) fun r s' hq=>?_);obtain ⟨rfl,h2,h3,h4⟩:=hq;exact ⟨.inl ⟨.bool true,.bool true,[],rfl,fun _=>rfl,.bool true,uG l _,fun _=>⟨GD,fun _ hm=>(nomatch hm)⟩⟩,h2,h3,h4⟩
section
variable {prog:D_} {w:Eh} {A:Eg} {E:ς->Ω->Prop} {s:Ω} {K:Frag}
noncomputable def DO (h:E5) (L d:Δ):List (Δ×GN):=(ED h.objs.size).filterMap fun a=>if a=L\/a=d then none else (h.get? a).map fun o=>(a,o)
end
end Att
namespace L2
open PySem PySem.Spec PyProof.Rows
theorem mF:∀ {vs:List ς} {ns:List Int},JE vs ns->Vals (ns.map V.int) vs
 | _,_,.nil=>.nil
 | _,_,.cons n t h=>.cons ⟨t,rfl⟩ (mF h)
noncomputable abbrev KOf {K:W.Frag} {h:E5} (_:K.In h):W.Frag:=K
end L2
namespace L2
open PySem PySem.Spec PyProof.Rows
noncomputable def eZ (s:Ie) (j:Nat):Stmt:=match s with
 | .ClassDef _ _ _ body _ _ _ _ _ _ _=>body.getD j (.Pass ⟨0,0,0,0⟩)
 | _=>.Pass ⟨0,0,0,0⟩
noncomputable def c9 (s:Ie):Arguments:=match s with
 | .FunctionDef _ a _ _ _ _ _ _ _ _=>a
 | _=>{ posonlyargs:=[],args:=[],vararg:=none,kwonlyargs:=[],kw_defaults:=[],kwarg:=none,defaults:=[] }
noncomputable def cj (s:Ie):List Stmt:=match s with
 | .FunctionDef _ _ b _ _ _ _ _ _ _=>b
 | _=>[]
noncomputable def ak (s:Ie):Scope:=match s with
 | .FunctionDef _ _ _ _ _ _ sc _ _ _=>sc
 | _=>{ kind:=.function,names:=[],isGenerator:=false,isCoroutine:=false }
noncomputable abbrev CX0:CXT:=fun _ _ _ _ _ _=>False
abbrev E0:XK:=fun _ _ _=>False
theorem aS {X:Cx}:eV CX0 X E0:=fun _ _ _ _ _ _ _ h=>h.elim
structure Fun (K:W.Frag) (x qual:Str) (st:Ie) (f:Δ) (fd:FU):Prop where
 ex:∃ (oc:ς) (od:Option Δ) (kV doc pm:ς) (an:Option Δ) (cdv ct:ς) (osl:Array (Option ς)),
  fd=W.fnOf x qual (c9 st) (cj st) (ak st) .none kV doc pm an cdv ct/\K.lookup f=some ⟨oc,od,.func fd,osl⟩/\W.codeIn K cdv qual=true
 kp:W.keepIn K (.ref f)=true
section
variable {P:D_} {w:Eh} {K:W.Frag} {mg:Str->Option ς} {base:E5}
theorem Fun.ok {x qual:Str} {st:Ie} {f:Δ} {fd:FU} {N ps:List Str} {k:Nat} {sp:Sp} (F:Fun K x qual st f fd) (S:aB N ps (ak st)) (len:∀ vs H Q E,sp vs H Q E->vs.length=ps.length)
  (hbody:∀ (cdv:ς) (A:Eg) (outer:List J_) (s:Ω) (H:Hp) (vs:List V) (Q:VK) (E:XK),bF k (A.deeper (Iz qual (ak st) s.heap.objs.size f cdv))->sp vs H Q E ->
   ∃ t,PSs (dh CX0 P w K mg base N qual (ak st) f cdv A outer s H E).nox (cj st) t/\t { nx:=fun _ H'=>Q .non H',rt:=Q } (start N vs) H):aW P w K mg base CX0 (k+1) f fd ps sp:=by
 obtain ⟨oc,od,kV,doc,pm,an,cdv,ct,osl,rfl,lk,hcd⟩:=F.ex;refine vP lk hcd S len fun A outer s H vs Q E hr hsp=>?_;obtain ⟨t,h,q⟩:=hbody cdv A outer s H vs Q E hr hsp;exact ⟨t,h.nox,q⟩
theorem Fun.binds {x qual:Str} {st:Ie} {f:Δ} {fd:FU} {ps:List Str} (F:Fun K x qual st f fd)
  (h:∀ (kV doc pm:ς) (an:Option Δ) (cdv ct:ς) (us:List ς),us.length=ps.length->IP (W.fnOf x qual (c9 st) (cj st) (ak st) .none kV doc pm an cdv ct) ⟨us,[]⟩=pure (ps.zip us)):aI K fd ps []:=by
 obtain ⟨oc,od,kV,doc,pm,an,cdv,ct,osl,rfl,lk,hcd⟩:=F.ex;exact .all (h kV doc pm an cdv ct)
theorem fun_mk {x qual:Str} {st:Ie} {f:Δ} {oc:ς} {od an:Option Δ} {osl:Array (Option ς)} {kV doc pm cdv ct:ς} (l:K.lookup f=some ⟨oc,od,.func (W.fnOf x qual (c9 st) (cj st) (ak st) .none kV doc pm an cdv ct),osl⟩)
  (c:W.codeIn K cdv qual=true) (k:W.keepIn K (.ref f)=true):Fun K x qual st f (W.fnOf x qual (c9 st) (cj st) (ak st) .none kV doc pm an cdv ct):=⟨⟨oc,od,kV,doc,pm,an,cdv,ct,osl,rfl,l,c⟩,k⟩
end
theorem ie {A:Eg} {k:Nat} (hr:bF k A):A.units+1<cLine:=Ej (Nat.add_le_add_left (by decide:1<=64) _) hr.units
theorem cN {n:Nat} (h:n<=1000):n<sizeLine:=Ej h (by decide)
section
variable {X:Cx}
theorem pv (i:Nat) {x:Str} {pos:HV} (hN:X.N[i]?=some x:=by rfl) (hv:Vis X.env.scope x:=by first | exact E_ rfl | exact I_ (E_ rfl) | exact I_ (I_ rfl)) (hd:(x==("__debug__":Str))=false:=by decide)
  (hcd:(x==("__classdict__":Str))=false:=by decide):PE X (.Name x pos) (CC i):=BZ hN hv hd hcd
end
theorem DM {A B:Prop} (h:B):if false=true then A else B:=by
 rw [if_neg Ei];exact h
theorem jW {A B:Prop} (h:A):if true=true then A else B:=by
 rw [if_pos rfl];exact h
theorem jV {c A B:Prop} [Decidable c] (h1:c->A) (h2:¬ c->B):if c then A else B:=by
 by_cases h:c
 ·rw [if_pos h];exact h1 h
 ·rw [if_neg h];exact h2 h
def aj (H H':Hp):Prop:=∀ b o,H b=some o->H' b=some o
theorem aj.refl (H:Hp):aj H H:=fun _ _ h=>h
theorem aj.trans {H H1 H2:Hp} (a:aj H H1) (b:aj H1 H2):aj H H2:=fun c o h=>b c o (a c o h)
theorem aj.free {H H':Hp} (e:aj H H') {l:Δ} (h:H' l=Option.none):H l=Option.none:=by
 cases q:H l with
 | none=>rfl
 | some o =>
  rw [e l o q] at h
  cases h
theorem aj.seq {K:W.Frag} {H H':Hp} {a:Δ} {xs:List V} (e:aj H H') (h:SqL K H a xs):SqL K H' a xs:=by
 rcases h with (h | ⟨o,h⟩) | h
 ·exact .inl (.inl (e _ _ h))
 ·exact .inl (.inr ⟨o,e _ _ h⟩)
 ·exact .inr h
noncomputable def bf (cells:List (Str×Δ)):List (Str×JO)->List (Str×Δ)->List (Str×Δ)
 | [],acc=>acc
 | (n,k)::r,acc=>bf cells r (if k==.free then (n,(cells.lookup n).getD 0)::acc else acc)
theorem c8 {scope:Hq} {env:J_} (h:∀ x∈scope.names,x.2=.free->∃ c,env.cells.lookup x.1=some c):closureFor scope env=pure (bf env.cells scope.names []):=by
 unfold closureFor;generalize hn:scope.names=names at h ⊢;clear hn;generalize ([]:List (Str×Δ))=acc
 induction names generalizing acc with
 | nil=>simp [bf]
 | cons x r ih =>
  obtain ⟨n,k⟩:=x;have ih':=fun a=>ih (fun x hx=>h x (Au _ hx)) a;simp only [Ky,bind_pure] at ih' ⊢;by_cases hk:k=.free
  ·obtain ⟨c,hc⟩:=h (n,k) Θ hk;subst hk;have hcl:cellOf env n=pure c:=by simp only [cellOf,hc]
   simp only [beq_self_eq_true,if_true,hcl,hc,pure_bind,bf,Mf]
   simpa using ih' _
  ·have hb:(k==IA)=false:=by simpa using hk
   simp only [hb,FI,if_false,pure_bind,bf]
   simpa using ih' _
theorem de {cells:List (Str×Δ)} {y:Str} {c:Δ}:∀ {names:List (Str×JO)} {acc:List (Str×Δ)},(∀ x∈names,x.2=.free->∃ c,cells.lookup x.1=some c)->(acc.lookup y=some c->cells.lookup y=some c) ->
  (bf cells names acc).lookup y=some c->cells.lookup y=some c
 | [],_,_,ha,e=>ha e
 | (n,k)::r,acc,h,ha,e=>by
  unfold bf at e;refine de (names:=r) (fun x hx=>h x (Au _ hx)) (fun e'=>?_) e;by_cases hk:k=.free
  ·obtain ⟨d,hd⟩:=h (n,k) Θ hk;subst hk;simp only [beq_self_eq_true,if_true,hd,Mf,Kn] at e'
   cases q:y==n with
   | true =>
    rw [q] at e';have:y=n:=by simpa using q
    subst this;exact hd.trans e'
   | false=>rw [q] at e'; exact ha e'
  ·have hb:(k==IA)=false:=by simpa using hk
   simp only [hb,FI,if_false] at e';exact ha e'
theorem dI {cells:List (Str×Δ)} {y:Str}:∀ {names:List (Str×JO)} {acc:List (Str×Δ)},((y,IA)∈names\/∃ c,acc.lookup y=some c)->∃ c,(bf cells names acc).lookup y=some c
 | [],_,h=>by simpa [bf] using h
 | (n,k)::r,acc,h=>by
  unfold bf;refine dI (names:=r) ?_;rcases h with h | ⟨c,h⟩
  ·rcases B_.mp h with e | e
   ·cases e;right
    simp
   ·exact .inl e
  ·right
   by_cases hk:(k==IA)=true
   ·rw [if_pos hk,Kn]
    cases y==n
    ·exact ⟨c,h⟩
    ·exact ⟨_,rfl⟩
   ·rw [if_neg hk];exact ⟨c,h⟩
def PTs (X:Cx) (ifs:List FE) (t:TT):Prop :=
 ∀ (pins:List (Δ×GN)) (s:Ω) (σ:St) (H:Hp) (Q:Bool->Hp->Prop),Inv X pins σ H s->t σ H Q ->
  EA (EH X.prog X.w) X.A (forIn ifs true fun c r=>if r=true then do let ok <- isTrue c X.env (F3 c X.env); pure (JI ok) else pure (JI r)) (TP X pins σ Q) X.xe s
def fX:TT:=fun _ H Q=>Q true H
theorem bL {X:Cx}:PTs X [] fX:=fun _ _ _ H _ I h=>wpAny_tests_nil ⟨H,I,h⟩
theorem nE {X:Cx} {c:FE} {t:TT} (h:PT X c t):PTs X [c] t:=fun pins s σ H Q I hw=>wpAny_tests_one (h pins s σ H Q I hw)
noncomputable def Cx.block (X:Cx) (scope:Hq) (N:List Str) (s:Ω) (H:Hp) (fp:List Δ):Cx where
 prog:=X.prog
 w:=X.w
 K:=X.K
 mg:=X.mg
 base:=X.base
 A:=X.A
 N:=N
 s₀:=s
 H₀:=H
 env:=compEnvC scope (bf X.env.cells scope.names []) s.heap.objs.size X.env
 outer:=X.stack
 stack:=X.stack
 ex:=fp
 fn:=fun _=>false
 calm:=X.calm
 pn:=[]
 xe:=fun _ _=>False
noncomputable def qN:Option JO->Bool
 | some .cell=>true
 | some .free=>true
 | _=>false
theorem fJ {k:Option JO} (h:qN k=true):k=some .cell\/k=some .free:=by
 unfold qN at h
 split at h
 ·exact .inl rfl
 ·exact .inr rfl
 ·cases h
structure dE (X:Cx) (scope:Hq) (N:List Str) (cap:List (Option Nat)):Prop where
 kind:scope.kind=.function
 nocell:(scope.names.all fun y=>!(y.2==.cell))=true
 loc:(scope.names.all fun y=>!(y.2==.local)||(scope.names.lookup y.1==some .local))=true
 fre:(scope.names.all fun y=>!(y.2==.free)||qN (X.env.kindOf y.1))=true
 len:cap.length=N.length
 cap:((cap.zip N).all fun p=>match p.1 with | none=>true | some j=>(X.N[j]?==some p.2)&&qN (X.env.kindOf p.2)&&qN ((relabel scope X.env).names.lookup p.2))=true
noncomputable def cT (cap:List (Option Nat)) (σ:St):St:=cap.map fun o=>match o with | none=>none | some j=>(σ[j]?).join
section
variable {X:Cx} {pins:List (Δ×GN)} {σ:St} {H:Hp} {s:Ω} {fp:List Δ} {scope:Hq} {N:List Str} {cap:List (Option Nat)}
theorem dE.freeH (c:dE X scope N cap) (ok:X.Ok):∀ x∈scope.names,x.2=.free->∃ a,X.env.cells.lookup x.1=some a:=fun x hx hf=>by
 have:=Fy.mp c.fre x hx
 rw [hf] at this;simp only [beq_self_eq_true,J8,JJ] at this;exact ok.has x.1 (fJ this)
theorem iD {scope:Hq} {env:J_} {y:Str} (h:(relabel scope env).names.lookup y=some .cell\/(relabel scope env).names.lookup y=some .free) (nc:∀ z∈scope.names,z.2≠.cell):(y,IA)∈scope.names:=by
 unfold relabel at h;dsimp only at h;generalize scope.names=names at h nc
 induction names with
 | nil=>simp at h
 | cons z r ih =>
  obtain ⟨n,k⟩:=z;have nc':∀ z∈r,z.2≠.cell:=fun z hz=>nc z (Au _ hz);rw [EL,Kn] at h;have nck:=nc (n,k) Θ;dsimp only at h nck;by_cases hc:(k==IA&&env.scope.kind==.function&&env.kindOf n==some .cell)=true
  ·rw [if_pos hc] at h;dsimp only at h
   have hk:k=.free:=by
    simp only [Eu,beq_iff_eq] at hc;exact hc.1.1
   cases q:y==n with
   | true=>rw [show y=n from by simpa using q,hk]; exact Θ
   | false=>rw [q] at h; exact Au _ (ih h nc')
  ·rw [if_neg hc] at h;dsimp only at h
   cases q:y==n with
   | true =>
    rw [q] at h;rcases h with h | h
    ·cases h; exact absurd rfl nck
    ·cases h; rw [show y=n from by simpa using q]; exact Θ
   | false=>rw [q] at h; exact Au _ (ih h nc')
theorem dE.nc (c:dE X scope N cap):∀ z∈scope.names,z.2≠.cell:=fun z hz e=>by
 have:=Fy.mp c.nocell z hz
 rw [e] at this;exact absurd this (by decide)
theorem dE.lc (c:dE X scope N cap):∀ x∈scope.names,x.2=.local->scope.names.lookup x.1=some .local:=fun x hx e=>by
 have:=Fy.mp c.loc x hx
 rw [e] at this
 simpa using this
theorem vB (c:dE X scope N cap) (I:Inv X pins σ H s) (hf:∀ b∈fp,gB X pins H b) (hlt:∀ b∈fp,b<s.heap.objs.size):(X.block scope N s H fp).Ok:=by
 have lk:∀ {y:Str} {a:Δ},(bf X.env.cells scope.names []).lookup y=some a->X.env.cells.lookup y=some a:=fun e=>de (c.freeH I.ok) (fun z=>by simp at z) e;refine ⟨I.ok.mod,c.kind,I.ok.glob,I.ok.blt,Av _,fun x y a h1 h2=>I.ok.inj x y a (lk h1) (lk h2),fun x hx=>dI (.inl (iD hx c.nc)),fun x a h=>absurd h (by simp [Cx.block]),I.ok.hd,I.ok.frames,.inl rfl,fun b hb=>⟨?_,fun x a h=>(hf b hb).2.2.2.2.1 x a (lk h)⟩,I.bs,Ew I.ok.bsz I.sz,fun b o e hb=>?_,fun b hb z=>?_,I.stack,I.stkFree⟩
 ·exact D5 (hlt b hb)
 ·rcases (hf b hb).2.2.2.1 with z | z
  ·exact I.ok.noex b o e z
  ·exact absurd (EG (D0 (I.ok.bs b o e).1) z) (Fo _)
 ·rcases B_.mp (I.stkSub b z) with e | e
  ·exact (hf b hb).2.1 e
  ·exact (hf b hb).2.2.1 e
theorem vG {i:Nat} {v:V} (h:(cT cap σ)[i]?=some (some v)):∃ j,cap[i]?=some (some j)/\σ[j]?=some (some v):=by
 unfold cT at h;rw [EU] at h
 cases q:cap[i]? with
 | none=>rw [q] at h; cases h
 | some o =>
  rw [q] at h
  cases o with
  | none => cases h
  | some j =>
   refine ⟨j,rfl,?_⟩;have h':(σ[j]?).join=some v:=E4 h
   cases q2:σ[j]? with
   | none=>rw [q2] at h'; cases h'
   | some o =>
    rw [q2] at h';have:o=some v:=h'
    rw [this]
theorem tS (c:dE X scope N cap) (I:Inv X pins σ H s) (hf:∀ b∈fp,gB X pins H b) (hlt:∀ b∈fp,b<s.heap.objs.size) {h1:E5} {t1:Nat} (hns:h1.Ns s.heap.objs.size (fun x=>([]:List (Str×ς)).reverse.lookup x))
  (hsb:F2 s.heap.objs.size (s.heap.push { cls:=.type (if (some X.env:Option J_).isSome then "dict" else "frame"),data:=.dict #[] }) h1):Inv (X.block scope N s H fp) [] (cT cap σ) H { s with heap:=h1,toks:=t1 }:=by
 have lk:∀ {y:Str} {a:Δ},(bf X.env.cells scope.names []).lookup y=some a->X.env.cells.lookup y=some a:=fun e=>de (c.freeH I.ok) (fun z=>by simp at z) e;have keep:∀ b o,s.heap.get? b=some o->h1.get? b=some o:=fun b o e=>(hsb.2 b (D5 (D0 e))).trans (χ _ e);have cellK:∀ {a:Δ} {v:Option ς},s.heap.IsCell a v->h1.IsCell a v:=fun ⟨o,e,d⟩=>⟨o,keep _ _ e,d⟩
 refine ⟨vB c I hf hlt,rfl,I.bare,Un.kept keep,⟨_,hns,fun i x v h1 h2 h3=>?_⟩,fun x a e=>?_,I.hok.fresh (Av _),fun x a e=>I.freeC x a (lk e),fun p hp=>absurd (show p∈([]:List (Δ×GN)) from hp) (by simp),I.hok.kept keep,?_⟩
 ·obtain ⟨j,hc,hs⟩:=vG h2;have hN:N[i]?=some x:=h1;have hz:(cap.zip N)[i]?=some (some j,x):=by rw [Gu]; exact ⟨hc,hN⟩
  have:=Fy.mp c.cap _ (EW hz)
  simp only [Eu,beq_iff_eq] at this;obtain ⟨⟨e1,e2⟩,e3⟩:=this;obtain ⟨m,hn,hl⟩:=I.loc;have hk:=fJ e2;obtain ⟨u,r,l⟩:=hl j x v e1 hs (by rcases hk with z | z; exact .inr (.inl z); exact .inr (.inr z));refine ⟨u,r,?_⟩;rcases l with ⟨l,_⟩ | ⟨_,a,ea,ca⟩
  ·rw [l] at hk; rcases hk with z | z<;>cases z
  ·have hk':=fJ e3;obtain ⟨a',ha'⟩:=dI (cells:=X.env.cells) (acc:=[]) (.inl (iD hk' c.nc));have:a'=a:=E4 ((lk ha').symm.trans ea)
   subst this;exact .inr ⟨hk',a',ha',cellK ca⟩
 ·obtain ⟨v,hv⟩:=I.cell x a (lk e);exact ⟨v,cellK hv⟩
 ·unfold cT;rw [Ξ];exact c.len
end
theorem oW {prog:D_} {w:Eh} {A:Eg} {R:Kq->Ω->Prop} {s:Ω} {elt target iter:FE} {ifs:List FE} {scope:Hq} {pos:HV} {it acc:ς} {env:J_} (J:Nat->Ω->Prop)
    (turn:∀ n s,J n s->EA (EH prog w) A (Ja it) (fun r s₁=>match r with
      | none=>R (.ok .next) s₁
      | some v=>EA (EH prog w) A (Jz target it v) (fun _ s₀=>EA (EH prog w) A (assign target env v) (fun _ s₂ =>
          EA (EH prog w) A (forIn ifs true fun c r=>if r=true then do let ok <- isTrue c env (F3 c env); pure (JI ok) else pure (JI r)) (fun ok s₃ =>
            if ok=true then EA (EH prog w) A (F3 elt env) (fun x s₄ =>
              EA (EH prog w) A (call (.builtin "list.append") [acc,x]) (fun _ s₅=>∃ m,m<n/\J m s₅) (fun _ _=>False) s₄) (fun _ _=>False) s₃
            else ∃ m,m<n/\J m s₃) (fun _ _=>False) s₂) (fun _ _=>False) s₀) (fun _ _=>False) s₁) (fun _ _=>False) s)
    (n:Nat) (h:J n s) :
    HA (EH prog w) A (.compLoop (.ListComp elt [⟨target,iter,ifs,0⟩] scope pos) 0 it acc env) R s:=by
  refine codeAny_loop rfl J (fun n s hI=>?_) n h
  show EA _ A ((compTurn (.ListComp elt [⟨target,iter,ifs,0⟩] scope pos) 0 it acc env).onRaise (fun x=>do noteFrame x env; theTreesLotGoes x)) _ _ s
  refine wpAny_noted ?_;rw [compTurn_list];refine θ (wpAny_standAt (θ (E8 (turn n s hI) (fun r s₁ h₁=>?_) fun _ _ h'=>h'.elim)))
  cases r with
  | none => exact A_ h₁
  | some v =>
    refine θ (E8 h₁ (fun _ s₀ h₀=>?_) fun _ _ h'=>h'.elim);refine θ (E8 h₀ (fun _ s₂ h₂=>θ (E8 h₂ (fun ok s₃ h₃=>?_) fun _ _ h'=>h'.elim)) fun _ _ h'=>h'.elim)
    cases ok with
    | false=>exact A_ ⟨rfl,h₃⟩
    | true =>
      exact θ (θ (E8 h₃ (fun x s₄ h₄=>θ (E8 h₄ (fun _ s₅ h₅=>A_ (A_ ⟨rfl,h₅⟩)) fun _ _ h'=>h'.elim)) fun _ _ h'=>h'.elim))
def tG (wi:TI) (g:TG) (tt:TT) (te:TE) (cap:List (Option Nat)):TE:=fun σ H Q=>wi σ H fun J H1=>∀ l,H1 l=none ->
 ∃ (n:Nat) (Pv:Nat->List V->St->Hp->Prop),Pv 0 [] (cT cap σ) (upd H1 l (.lst [])) /\
  (∀ i ys σ' H',i<n->Pv i ys σ' H'->J.go i H'/\∀ x H2,J.yld i H' x H2->g x σ' H2 fun σ3 H3=>tt σ3 H3 fun b H4 =>
   if b=true then te σ3 H4 fun y H5=>H5 l=some (.lst ys)/\ys.length<D7/\Pv (i+1) (ys++[y]) σ3 (upd H5 l (.lst (ys++[y]))) else Pv (i+1) ys σ3 H4) /\
  ∀ ys σ' H',Pv n ys σ' H'->J.stop n H'/\Q (.ref l) H'
section
variable {X:Cx} {elt tg iter:FE} {ifs:List FE} {scope:Hq} {pos:HV} {N:List Str} {cap:List (Option Nat)} {wi:TI} {g:TG} {tt:TT} {te:TE}
theorem oZ {U:ς->Δ->Ω->Prop} (hc:X.calm=true) (c:dE X scope N cap) (hi:PI X tg iter wi) (hg:∀ s H fp,PG (X.block scope N s H fp) tg g) (ht:∀ s H fp,PTs (X.block scope N s H fp) ifs tt)
    (he:∀ s H fp,PE (X.block scope N s H fp) elt te)
    {pins:List (Δ×GN)} {s:Ω} {σ:St} {H:Hp} {Q:VK} (I:Inv X pins σ H s) (h:tG wi g tt te cap σ H Q)
    (hU:∀ (l C:Δ) (H':Hp) (s':Ω),Inv X pins σ H' s'->(∃ m,s'.heap.Ns C m)->gB X pins H' C->Q (.ref l) H'->U (.ref l) C s')
    {RR:ς->Δ->Kq->Ω->Prop} (hRR:∀ a C s',U a C s'->RR a C (.ok .next) s') :
    EA (EH X.prog X.w) X.A (F3 iter X.env) (fun x s₁=>EA (EH X.prog X.w) X.A (pyIter x) (fun it s₂=>EA (EH X.prog X.w) X.A (newList []) (fun acc s₃ =>
      EA (EH X.prog X.w) X.A (newFunctionEnv scope X.env.globals (bf X.env.cells scope.names []) [] X.env.qual none .none (some X.env)) (fun cenv s₄ =>
        HA (EH X.prog X.w) X.A (.compStart (.ListComp elt [⟨tg,iter,ifs,0⟩] scope pos) 0 it acc { cenv with scope:=relabel scope X.env }) (RR acc cenv.locals) s₄) X.xe s₃) X.xe s₂) X.xe s₁) X.xe s:=by
  refine thn (hi pins s σ H _ I h) fun v s1 h1=>thn h1 fun itv s2 h2=>?_;obtain ⟨it,fp,tn,J,H2,e,I2,T,st2,f2,hq⟩:=h2;subst e;have hl:H2 s2.heap.objs.size=none:=I2.hok.fresh (Av _);obtain ⟨n,Pv,p0,step,fin⟩:=hq _ hl;refine HU ?_ (by show 0<=D7; exact El _)
  have I3:Inv X pins σ (upd H2 s2.heap.objs.size (.lst [])) { s2 with heap:=s2.heap.push { cls:=.type "list",data:=.seq ([]:List ς).toArray } } :=
    I2.laid (t':=s2.toks) (fun b u e=>χ _ e) (Av _) ⟨El _,[],_,.nil,D4 _ rfl⟩
  generalize hs3:({ s2 with heap:=s2.heap.push { cls:=.type "list",data:=.seq ([]:List ς).toArray } }:Ω)=s3 at I3 ⊢;have k23:∀ b o,s2.heap.get? b=some o->s3.heap.get? b=some o:=fun b o e=>by rw [<- hs3]; exact χ _ e
  have fplt2:∀ b∈fp,b<s2.heap.objs.size:=fun b hb=>let ⟨o,e,_⟩:=T.obj _ _ st2 b hb; D0 e;have sz23:s2.heap.objs.size<=s3.heap.objs.size:=by rw [<- hs3]; show _<=(s2.heap.push _).objs.size; rw [Hv]; exact Gg _
  have fplt:∀ b∈fp,b<s3.heap.objs.size:=fun b hb=>EG (fplt2 b hb) sz23;have f3:∀ b∈fp,gB X pins (upd H2 s2.heap.objs.size (.lst [])) b:=fun b hb=>⟨by rw [ai (D5 (fplt2 b hb))]; exact (f2 b hb).1,(f2 b hb).2⟩
  have st3:tn 0 s3.heap:=T.keep _ _ _ st2 fun b hb o e=>k23 b o e;refine wpAny_newFunctionEnv c.nc (by intro y hy; simp at hy) (fun h4 hns hsb=>?_) c.kind;have I4:=tS (t1:=s3.toks+([]:List (Str×ς)).length) c I3 f3 fplt hns hsb;have st4:tn 0 h4:=T.keep _ _ _ st3 fun b hb o e=>(hsb.2 b (D5 (fplt b hb))).trans (χ _ e);generalize hY:X.block scope N s3 (upd H2 s2.heap.objs.size (.lst [])) fp=Y at I4;have yP:Y.prog=X.prog:=by rw [<- hY]; rfl
  have yw:Y.w=X.w:=by rw [<- hY]; rfl
  have yK:Y.K=X.K:=by rw [<- hY]; rfl
  have yA:Y.A=X.A:=by rw [<- hY]; rfl
  have yx:Y.xe=fun _ _=>False:=by rw [<- hY]; rfl
  have yc:Y.calm=true:=by rw [<- hY]; exact hc
  have yex:Y.ex=fp:=by rw [<- hY]; rfl
  have yfs:Y.fs=frs X.stack:=by rw [<- hY]; rfl
  have yH:Y.H₀=upd H2 s2.heap.objs.size (.lst []):=by rw [<- hY]; rfl
  have ys:Y.s₀=s3:=by rw [<- hY]; rfl
  have yC:Y.env.locals=s3.heap.objs.size:=by rw [<- hY]; rfl
  have yenv:compEnvC scope (bf X.env.cells scope.names []) s3.heap.objs.size X.env=Y.env:=by rw [<- hY]; rfl
  have yg:=hg s3 (upd H2 s2.heap.objs.size (.lst [])) fp;have yt:=ht s3 (upd H2 s2.heap.objs.size (.lst [])) fp;have ye:=he s3 (upd H2 s2.heap.objs.size (.lst [])) fp;have ypn:Y.pn=[]:=by rw [<- hY]; rfl
  have ycl:Y.env.cells=bf X.env.cells scope.names []:=by rw [<- hY]; rfl
  rw [hY] at yg yt ye;have lk:∀ {y:Str} {a:Δ},Y.env.cells.lookup y=some a->X.env.cells.lookup y=some a:=fun e=>by rw [ycl] at e; exact de (c.freeH I.ok) (fun z=>by simp at z) e
  have stat:∀ {H':Hp},(∀ b∈fp,H' b=none)->∀ b∈fp,gB Y [] H' b:=fun hn b hb=>by
    refine ⟨hn b hb,by rw [yC]; exact D5 (fplt b hb),?_,.inl (by rw [yex]; exact hb),fun x a e=>(f2 b hb).2.2.2.2.1 x a (lk e),fun p hp=>?_⟩
    · rw [yfs]
      intro z;rcases B_.mp (I2.stkSub b z) with e | e
      · exact (f2 b hb).2.1 e
      · exact (f2 b hb).2.2.1 e
    · rw [ypn] at hp
      exact absurd hp (by simp)
  -- the end
  have done:∀ {σ':St} {H':Hp} {s':Ω},Inv Y [] σ' H' s'->Q (.ref s2.heap.objs.size) H'->U (.ref s2.heap.objs.size) s3.heap.objs.size s':=fun {σ' H' s'} J' q=>by
    have un:=J'.base;rw [yfs,yex,yH,ys] at un;have J3:=I3.call' (s':=s') (ch:=fp) (by rw [J'.os,ys]) un (by have:=J'.hok; rw [yP,yw] at this; exact this) J'.bare fun b hb=>⟨(f3 b hb).2.2.2.1,(f3 b hb).2.1,(f3 b hb).2.2.2.2.1,(f3 b hb).2.2.2.2.2⟩
    have hCn:H' s3.heap.objs.size=none:=by have:=J'.free; rw [yC] at this; exact this
    have hne:s3.heap.objs.size≠X.env.locals:=Kc I3.lt;have hcl:∀ x a,X.env.cells.lookup x=some a->a≠s3.heap.objs.size:=fun x a e=>let ⟨_,o,ho,_⟩:=I3.cell x a e; D5 (D0 ho);have hpn:∀ p∈X.pn++pins,p.1≠s3.heap.objs.size:=fun p hp=>D5 (D0 (I3.pin p hp).1);obtain ⟨m,hn,_⟩:=J'.loc;rw [yC] at hn;exact hU _ _ H' s' J3 ⟨m,hn⟩ ⟨hCn,hne,I3.nofs (Av _),.inr I3.sz,hcl,hpn⟩ q
  have loop:∀ s5:Ω,s5={ s3 with heap:=h4,toks:=s3.toks+([]:List (Str×ς)).length } ->
      HA (EH X.prog X.w) X.A (.compLoop (.ListComp elt [⟨tg,iter,ifs,0⟩] scope pos) 0 (.ref it) (.ref s2.heap.objs.size) Y.env) (RR (.ref s2.heap.objs.size) s3.heap.objs.size) s5:=by
    rintro s5 rfl;refine oW (fun k s'=>∃ i ys σ' H',Inv Y [] σ' H' s'/\tn i s'.heap/\(∀ b∈fp,H' b=none)/\i<=n/\k=n - i/\Pv i ys σ' H') ?_ n ⟨0,[],_,_,I4,st4,fun b hb=>(f3 b hb).1,El _,rfl,p0⟩;rintro k s6 ⟨i,zs,σ6,H6,I6,st6,fr6,hin,rfl,pv6⟩;by_cases hlt:i<n
    · obtain ⟨go,stp⟩:=step i zs σ6 H6 hlt pv6
      have q:=T.item Y yP yw yK yc i [] s6 σ6 H6 (fun _ _=>False) I6 (stat fr6) st6 go;rw [yA] at q;refine thn q fun r s7 ⟨u,hr,h7⟩=>?_;subst hr;refine thn h7 fun _ s8 ⟨x,H8,I8,r8,y8,st8,fr8⟩=>?_;have I8':=I8.pinned (stat fr8) (T.obj _ _ st8);have q:=yg _ s8 σ6 H8 x u _ I8' r8 (stp x H8 y8);rw [yP,yw,yA,yx] at q;refine thn q fun _ s9 ⟨σ9,H9,I9,q9⟩=>?_;have q:=yt _ s9 σ9 H9 _ I9 q9;rw [yP,yw,yA,yx] at q;refine thn q fun b s10 ⟨H10,I10,q10⟩=>?_;have again:∀ {ws:List V} {σ':St} {H':Hp} {s':Ω},Inv Y ([]++kj fp s8.heap) σ' H' s'->Pv (i+1) ws σ' H'->∃ m,m<n - i/\∃ i ys σ' H',Inv Y [] σ' H' s'/\tn i s'.heap/\(∀ b∈fp,H' b=none)/\i<=n/\m=n - i/\Pv i ys σ' H':=fun {ws σ' H' s'} J' p'=>by
        refine ⟨n - (i+1),by omega,i+1,ws,σ',H',J'.unpinned,T.keep _ _ _ st8 fun b hb o e=>(J'.pin (b,o) (D6 _ (D6 _ (fb hb e)))).1,fun b hb=>?_,hlt,rfl,p'⟩;obtain ⟨o,e,d⟩:=T.obj _ _ st8 b hb;exact (J'.pin (b,o) (D6 _ (D6 _ (fb hb e)))).2.1
      cases b with
      | false=>exact again I10 q10
      | true =>
        have q10:=(if_pos (α:=Prop) rfl).mp q10;have q:=ye _ s10 σ9 H10 _ I10 q10;rw [yP,yw,yA,yx] at q;refine jW ?_;refine thn q fun xv s11 ⟨y,H11,I11,r11,hl11,hz,p11⟩=>?_;have q:=ba (X:=Y) _ s11 σ9 H11 (.ref s2.heap.objs.size) [y] _ [xv] (fun _ H'=>Pv (i+1) (zs++[y]) σ9 H') I11 rfl (.cons r11 .nil) ⟨_,_,_,rfl,rfl,hl11,hz,p11⟩;rw [yP,yw,yA,yx] at q;exact thn q fun _ s12 ⟨_,H12,I12,_,p12⟩=>again I12 p12
    · have e:i=n:=by omega
      subst e;obtain ⟨stop,q⟩:=fin zs σ6 H6 pv6;have qd:=T.done Y yP yw yK yc i [] s6 σ6 H6 (fun _ _=>False) I6 (stat fr6) st6 stop;rw [yA] at qd;refine thn qd fun r s7 ⟨hr,I7⟩=>?_;subst hr;exact hRR _ _ _ (done I7 q)
  show HA _ _ (.compStart _ 0 (.ref it) _ (compEnvC scope (bf X.env.cells scope.names []) s3.heap.objs.size X.env)) (RR (.ref s2.heap.objs.size) s3.heap.objs.size) _
  rw [yenv];exact codeAny_compStart_list (loop _ rfl) (T.self X.A 0 _ _ _ st4 (loop _ rfl))
theorem gB.turned {pins:List (Δ×GN)} {σ:St} {H:Hp} {s:Ω} {C:Δ} {h':E5} (f:gB X pins H C) (I:Inv X pins σ H s) (sb:F2 C s.heap h'):Inv X pins σ H { s with heap:=h' } :=
 I.turned (t':=s.toks) (fun b o hb e=>(sb.2 b hb).trans e) f.1 f.2.1 f.2.2.2.1 f.2.2.2.2.1 f.2.2.2.2.2
theorem bK (hc:X.calm=true) (c:dE X scope N cap) (hi:PI X tg iter wi) (hg:∀ s H fp,PG (X.block scope N s H fp) tg g) (ht:∀ s H fp,PTs (X.block scope N s H fp) ifs tt)
  (he:∀ s H fp,PE (X.block scope N s H fp) elt te) (hs:∀ x,K3 iter X.env x=pure x:=by intro _; rfl):PE X (.ListComp elt [⟨tg,iter,ifs,0⟩] scope pos) (tG wi g tt te cap):=by
 intro pins s σ H Q I h;rw [eval_ListComp];refine MO rfl hs (c8 (c.freeH I.ok)) c.kind c.lc ?_;exact oZ (U:=fun a C s'=>∃ m,s'.heap.Ns C m/\∀ h',F2 C s'.heap h'->EP X pins σ Q a { s' with heap:=h' }) hc c hi hg ht he I h
  (fun l C H' s' I' ⟨m,hn⟩ f q=>⟨m,hn,fun h' sb=>⟨.ref l,H',f.turned I' sb,rfl,q⟩⟩) fun a C s' u=>u
theorem nB {i:Nat} {x:Str} {pos' pos2:HV} (hN:X.N.Nodup) (hi':X.N[i]?=some x) (hx:Loc X.env.scope x) (hc:X.calm=true) (c:dE X scope N cap) (hi:PI X tg iter wi) (hg:∀ s H fp,PG (X.block scope N s H fp) tg g) (ht:∀ s H fp,PTs (X.block scope N s H fp) ifs tt)
  (he:∀ s H fp,PE (X.block scope N s H fp) elt te) (hsw:KO (.ListComp elt [⟨tg,iter,ifs,0⟩] scope pos) (some (.Name x pos')) pos2.line X.env=pure true) (hs:∀ x,K3 iter X.env x=pure x:=by intro _; rfl)
  (hf:X.fn x=true\/X.env.scope.names.lookup x=some .local:=by first | exact .inl rfl | exact .inr rfl | assumption):PS X (.Assign [.Name x pos'] (.ListComp elt [⟨tg,iter,ifs,0⟩] scope pos) pos2) (AA (tG wi g tt te cap) (cR i)):=by
 intro pins s σ H D I h;rw [exec_Assign_Name_used _ _ _ _ hsw];refine θ (wpAny_standAt (θ ?_))
 show EA _ X.A (do let _ <- comprehension (.ListComp elt [⟨tg,iter,ifs,0⟩] scope pos) scope X.env _ (newList []) false (F3 iter X.env) (some (assign (.Name x pos') X.env))) _ _ s
 refine θ (E8 (MO (Q:=fun _ s'=>SP X pins D .next s') rfl hs (c8 (c.freeH I.ok)) c.kind c.lc ?_) (fun _ s' hq=>A_ (A_ hq)) fun _ _ e=>e);refine oZ (U:=fun a C s'=>EA (EH X.prog X.w) X.A (assign (.Name x pos') X.env a) (fun _ s''=>∃ m,s''.heap.Ns C m/\∀ h',F2 C s''.heap h'->SP X pins D .next { s'' with heap:=h' }) X.xe s') hc c hi hg ht he I h ?_ fun a C s' u=>u;intro l C H' s' I' hn f q;obtain ⟨m,o,es,ep,ho,hd,r⟩:=hn;have I2:Inv X (pins++[(C,o)]) σ H' s':=I'.pins_of fun p hp=>by
  rcases EE.mp hp with z | z
  ·exact I'.pin p (D6 _ z)
  ·have e:p=(C,o):=by simpa using z
   subst e;exact ⟨ho,f.1,f.2.1,f.2.2.1,fun v z=>by rw [hd] at z; cases z⟩
 refine wpAny_assign_Name (iL I2 hN hi' hx (v:=.ref l) rfl (fun s2 I3=>?_) hf);have pc:=(I3.pin (C,o) (D6 _ (D6 _ Θ))).1;exact ⟨m,⟨o,es,ep,pc,hd,r⟩,fun h' sb=>⟨_,H',f.turned I3.unpinned sb,q⟩⟩
end
section
variable {X:Cx}
theorem oU:bM X (.builtin "isinstance") (fun xs H Q=>∃ x n t b,xs=[x,.ty n]/\gu X.K H x t/\W.kitOne X.K t (.type n)=some b/\Q (.bl b) H):=by
 intro pins s σ H xs us Q I r h;obtain ⟨x,n,t,b,rfl,ty,e,q⟩:=h;obtain ⟨u,v,rfl,ru,rv⟩:=r.two
 cases (show v=Gj n from rv)
 exact ue I ru ty e fun tk=>⟨.bl b,H,I.tok tk,rfl,q⟩
theorem BA {A:Eg} (h:A.handled=none):A.in1.handled=none:=h
theorem vo {its:List ς} {bs:List Bool} (r:Vals (bs.map V.bl) its) {i:Nat} {v:ς} (e:its[i]?=some v):v=.bool (bs.getD i false):=by
 have hl:=r.length;rw [Ξ] at hl;have hi:i<its.length:=(Aw.mp e).1
 have hb:(bs.map V.bl)[i]?=some (V.bl (bs.getD i false)):=by
  rw [EU,Fb,ξ (by omega)];rfl
 obtain ⟨u,hu,ru⟩:=r.get hb;rw [e] at hu
 cases hu;exact ru
theorem uI (bs:List Bool):(ED bs.length).all (fun i=>bs.getD i false)=bs.all id:=by
 rw [GU];simp only [Fy,Et,id];constructor
 ·intro h b hb;obtain ⟨i,hi,rfl⟩:=MI.mp hb;have:=h i hi
  rwa [Fb,ξ hi] at this
 ·intro h i hi;rw [Fb,ξ hi];exact h _ (Er hi)
theorem oR (hc:X.calm=true):bM X (.builtin "all") (fun xs H Q=>∃ (p:Δ) (bs:List Bool),xs=[.ref p]/\SqL X.K H p (bs.map V.bl)/\Q (.bl (bs.all id)) H):=by
 intro pins s σ H xs us Q I r h;obtain ⟨p,bs,rfl,hp,q⟩:=h;obtain ⟨u,rfl,ru⟩:=r.one
 cases (show u=EB p from ru)
 obtain ⟨its,rv,pl,hz⟩:=I.list hp;have hh:=BA (I.ok.hd hc);have hlt:p<s.heap.objs.size:=let ⟨o,ho,_⟩:=pl.isList; D0 ho;refine call_all_walk (JU pl.isList ?_);refine ⟨s.heap.objs.size,_,_,_,_,_,fun i=>bs.getD i false,rfl,K6 hh s.heap.objs.size p (D5 hlt) its.toArray,⟨⟨_,D4 _ rfl,rfl,rfl⟩,pl.isList.push _⟩,fun i v s' Q' E' hP hQ=>?_,fun h' tk hk=>?_⟩
 ·have:=vo rv (i:=i) (v:=v) (by simpa using hP)
  subst this;exact F1 hQ
 ·have hl:=rv.length;rw [Ξ] at hl;refine ⟨.bl (bs.all id),H,I.kept (h':=h') (t':=tk) fun b o e=>hk b o (by simpa using D5 (D0 e)) (χ _ e),?_,q⟩
  show _=_
  rw [D8,<- hl,uI]
end
mutual
def Rep (H:Hp):Gp->V->Prop
 | .none,v=>v=.non
 | .bool b,v=>v=.bl b
 | .int i,v=>v=.int i
 | .str x,v=>v=.str x
 | .list ds,v=>∃ a xs,v=.ref a/\H a=some (.lst xs)/\RepL H ds xs
 | .tuple ds,v=>∃ a xs,v=.ref a/\H a=some (.tup xs)/\RepL H ds xs
 | .dict _,_=>False
def RepL (H:Hp):List Gp->List V->Prop
 | [],xs=>xs=[]
 | d::ds,xs=>∃ x r,xs=x::r/\Rep H d x/\RepL H ds r
end
mutual
theorem Rep.mono {H H':Hp} (s:aj H H'):∀ {d:Gp} {v:V},Rep H d v->Rep H' d v
 | .none,_,h=>by simpa [Rep] using h
 | .bool _,_,h=>by simpa [Rep] using h
 | .int _,_,h=>by simpa [Rep] using h
 | .str _,_,h=>by simpa [Rep] using h
 | .list ds,_,h=>by
  simp only [Rep] at h ⊢;obtain ⟨a,xs,e,h1,h2⟩:=h;exact ⟨a,xs,e,s _ _ h1,RepL.mono s h2⟩
 | .tuple ds,_,h=>by
  simp only [Rep] at h ⊢;obtain ⟨a,xs,e,h1,h2⟩:=h;exact ⟨a,xs,e,s _ _ h1,RepL.mono s h2⟩
 | .dict _,_,h=>by simp only [Rep] at h
theorem RepL.mono {H H':Hp} (s:aj H H'):∀ {ds:List Gp} {xs:List V},RepL H ds xs->RepL H' ds xs
 | [],_,h=>by simpa [RepL] using h
 | d::ds,_,h=>by
  simp only [RepL] at h ⊢;obtain ⟨x,r,e,h1,h2⟩:=h;exact ⟨x,r,e,Rep.mono s h1,RepL.mono s h2⟩
end
section
variable {X:Cx} {pins:List (Δ×GN)} {σ:St} {H:Hp} {s:Ω}
mutual
theorem Rep.reads (I:Inv X pins σ H s):∀ {d:Gp} {v:V} {u:ς},Rep H d v->aL v u->∃ as,Reads s.heap u d as
 | .none,_,_,h,r=>by simp only [Rep] at h; subst h; cases r; exact ⟨_,.none⟩
 | .bool _,_,_,h,r=>by simp only [Rep] at h; subst h; cases r; exact ⟨_,.bool _⟩
 | .int _,_,_,h,r=>by simp only [Rep] at h; subst h; obtain ⟨t,rfl⟩:=r; exact ⟨_,.int _ _⟩
 | .str _,_,_,h,r=>by simp only [Rep] at h; subst h; obtain ⟨t,rfl⟩:=r; exact ⟨_,.str _ _⟩
 | .list ds,_,_,h,r=>by
  simp only [Rep] at h;obtain ⟨a,xs,rfl,h1,h2⟩:=h
  cases (show _=EB a from r)
  obtain ⟨its,rv,pl,_⟩:=I.list (SqL.of h1);obtain ⟨as,ra⟩:=RepL.reads I h2 rv;obtain ⟨o,n,e,c,_,d⟩:=pl;exact ⟨_,.list e c d (by simpa using ra)⟩
 | .tuple ds,_,_,h,r=>by
  simp only [Rep] at h;obtain ⟨a,xs,rfl,h1,h2⟩:=h
  cases (show _=EB a from r)
  obtain ⟨its,rv,pl,_⟩:=I.tuple (SqT.of h1);obtain ⟨as,ra⟩:=RepL.reads I h2 rv;obtain ⟨o,e,c,n,d⟩:=pl;exact ⟨_,.tuple e c d (by simpa using ra)⟩
 | .dict _,_,_,h,_=>by simp only [Rep] at h
theorem RepL.reads (I:Inv X pins σ H s):∀ {ds:List Gp} {xs:List V} {us:List ς},RepL H ds xs->Vals xs us->∃ as,ReadsAll s.heap us ds as
 | [],_,_,h,r=>by simp only [RepL] at h; subst h; cases r; exact ⟨_,.nil⟩
 | d::ds,_,_,h,r=>by
  simp only [RepL] at h;obtain ⟨x,t,rfl,h1,h2⟩:=h
  cases r with
  | cons r1 r2 =>
   obtain ⟨as,a1⟩:=Rep.reads I h1 r1;obtain ⟨bs,a2⟩:=RepL.reads I h2 r2;exact ⟨_,.cons a1 a2⟩
end
end
def zJ (neg:Bool):R2:=fun x y H Q=>∃ d e,Rep H d x/\Rep H e y/\Ig d=true/\Ig e=true/\Q (.bl (if neg then !PyData.eqv d e else Gv d e)) H
section
variable {X:Cx}
theorem BP (hu:X.A.units+64<Ho):OpR X (F8 .Eq) (zJ false):=by
 intro pins s σ H x y v u Q I rx ry h;obtain ⟨d,e,h1,h2,s1,s2,q⟩:=h;obtain ⟨as,r1⟩:=h1.reads I rx;obtain ⟨bs,r2⟩:=h2.reads I ry;exact eq_dataH r1 r2 s1 s2 hu ⟨.bl _,H,I,rfl,q⟩
theorem qZ (hu:X.A.units+64<Ho):OpR X (F8 .NotEq) (zJ true):=by
 intro pins s σ H x y v u Q I rx ry h;obtain ⟨d,e,h1,h2,s1,s2,q⟩:=h;obtain ⟨as,r1⟩:=h1.reads I rx;obtain ⟨bs,r2⟩:=h2.reads I ry;exact ne_dataH r1 r2 s1 s2 hu ⟨.bl _,H,I,rfl,q⟩
end
noncomputable def tyD:Gp->String
 | .none=>"NoneType"
 | .bool _=>"bool"
 | .int _=>"int"
 | .str _=>"str"
 | .list _=>"list"
 | .tuple _=>"tuple"
 | .dict _=>"dict"
theorem Rep.ty {K:W.Frag} {H:Hp} {d:Gp} {v:V} (h:Rep H d v):gu K H v (.type (tyD d)):=by
 cases d with
 | none=>simp only [Rep] at h; subst h; exact .non
 | bool b=>simp only [Rep] at h; subst h; exact .bl b
 | int b=>simp only [Rep] at h; subst h; exact .int b
 | str b=>simp only [Rep] at h; subst h; exact .str b
 | list ds=>simp only [Rep] at h; obtain ⟨a,xs,rfl,e,_⟩:=h; exact .lst e
 | tuple ds=>simp only [Rep] at h; obtain ⟨a,xs,rfl,e,_⟩:=h; exact .tup e
 | dict _=>simp only [Rep] at h
noncomputable def isD (T:String):Gp->Bool
 | .none=>T=="NoneType"
 | .bool _=>T=="bool"||T=="int"
 | .int _=>T=="int"
 | .str _=>T=="str"
 | .list _=>T=="list"
 | .tuple _=>T=="tuple"
 | .dict _=>T=="dict"
theorem pF {K:W.Frag} (d:Gp):W.kitOne K (.type (tyD d)) (.type "bool")=some (isD "bool" d):=by cases d<;>kernel_rfl
theorem sO {K:W.Frag} (d:Gp):W.kitOne K (.type (tyD d)) (.type "int")=some (isD "int" d):=by cases d<;>kernel_rfl
theorem sP {K:W.Frag} (d:Gp):W.kitOne K (.type (tyD d)) (.type "str")=some (isD "str" d):=by cases d<;>kernel_rfl
theorem jZ {K:W.Frag} (d:Gp):W.kitOne K (.type (tyD d)) (.type "list")=some (isD "list" d):=by cases d<;>kernel_rfl
theorem iV {K:W.Frag} (d:Gp):W.kitOne K (.type (tyD d)) (.type "tuple")=some (isD "tuple" d):=by cases d<;>kernel_rfl
theorem Inv.turnedL {X:Cx} {pins:List (Δ×GN)} {σ:St} {H:Hp} {s:Ω} {h':E5} {t':Nat} {ch:List Δ} {T:Δ} {o:HO} (I:Inv X pins σ H s) (k:∀ b o,b∉ch->s.heap.get? b=some o->h'.get? b=some o)
  (f:∀ b∈ch,gB X pins H b) (there:∀ b∈ch,∃ o,h'.get? b=some o) (hT:s.heap.objs.size<=T) (new:aY X.prog X.w (upd H T o) h' T o):Inv X pins σ (upd H T o) { s with heap:=h',toks:=t' }:=by
 have nit:∀ b u,H b=some u->b∉ch:=fun b u e z=>by rw [(f b z).1] at e; cases e
 have ltT:∀ b ob,s.heap.get? b=some ob->b≠T:=fun b ob e=>D5 (EG (D0 e) hT);have hTn:H T=none:=I.hok.fresh hT;have neT:∀ b u,H b=some u->b≠T:=fun b u e=>aC e hTn;refine I.step (g':=s.gens) (d':=s.drawn) (ch:=ch) (fun b hb=>⟨(f b hb).2.2.2.1,(f b hb).2.1,(f b hb).2.2.2.2.1,(f b hb).2.2.2.2.2⟩) (fun b o _ _ hc e _=>k b o hc e) (fun b o _ _ hc e _=>⟨o.slots,k b o hc e⟩) (fun b o _ e n=>by rw [ai (ltT b o e)]; exact n)
  (fun b o hc e=>⟨o,k b o hc e⟩) (fun b _ e=>by rw [ai (neT b _ e)]; exact e) (fun b _ _ e=>by rw [ai (neT b _ e)]; exact e) (fun b ps e=>⟨#[],by rw [ai (neT b _ e),e]; simp⟩) (fun m hm=>?_) (fun b u e=>?_) I.bare
 ·obtain ⟨ob,es,ep,ho,r⟩:=hm;exact ⟨ob,es,ep,k _ ob (fun z=>(f _ z).2.1 rfl) ho,r⟩
 ·by_cases hb:b=T
  ·subst hb;rw [ag] at e
   cases e;exact new
  ·rw [ai hb] at e;refine (I.hok b u e).stay (fun c v hc q=>k c v ?_ q) (fun q e'=>?_) fun a q e'=>?_
   ·rcases hc with z | z
    ·rw [z]; exact nit b u e
    ·exact nit c _ z
   ·rw [ai (neT _ _ e')]; exact e'
   ·rw [ai (neT _ _ e')]; exact e'
noncomputable def Itz (K:W.Frag) (a b:Δ):It :=
  ⟨fun i H=>∃ xs ys x y,SqL K H a xs/\SqL K H b ys/\xs[i]?=some x/\ys[i]?=some y,
   fun i H v H'=>∃ T,v=.ref T/\H T=none/\∀ xs ys,SqL K H a xs->SqL K H b ys->∃ x y,xs[i]?=some x/\ys[i]?=some y/\H'=upd H T (.tup [x,y]),
   fun i H=>∃ xs ys,SqL K H a xs/\SqL K H b ys/\(xs.length<=i\/ys.length<=i)⟩
theorem yV {P:D_} {w:Eh} {K:W.Frag} {elts:List FE} {kt:Nat} {pt:HV} {a b n:Δ} (ha:a<n) (hb:b<n) :
    oF P w K (.Tuple elts kt pt) (Itz K a b) [n+4,n+2,n+3,n,n+1] (n+4) (fun i h=>IsZip h (n+4) (n+2) (n+3) .none/\IsPair h (n+2) (.ref n) (.ref (n+1))/\(∃ x y,IsPair h (n+3) x y)/\h.IsListIter n a i/\h.IsListIter (n+1) b i) where
  mem:=by simp
  obj:=fun i h st c hc=>by
    obtain ⟨z1,z2,⟨x,y,z3⟩,⟨o4,e4,c4,d4⟩,⟨o5,e5,c5,d5⟩⟩:=st;simp only [B_,Ek,or_false] at hc;rcases hc with rfl | rfl | rfl | rfl | rfl
    · exact ⟨_,z1,fun v z=>by cases z⟩
    · exact ⟨_,z2,fun v z=>by cases z⟩
    · exact ⟨_,z3,fun v z=>by cases z⟩
    · exact ⟨_,e4,fun v z=>by rw [d4] at z; cases z⟩
    · exact ⟨_,e5,fun v z=>by rw [d5] at z; cases z⟩
  keep:=fun i h h' st k=>by
    obtain ⟨z1,z2,⟨x,y,z3⟩,z4,z5⟩:=st;exact ⟨k _ (by simp) _ z1,k _ (by simp) _ z2,⟨x,y,k _ (by simp) _ z3⟩,z4.at fun o e=>k _ (by simp) o e,z5.at fun o e=>k _ (by simp) o e⟩
  item:=by
    intro X hP hw hK hc i pins s σ H E I hf st hg;subst hP hw hK;obtain ⟨xs,ys,x,y,hqa,hqb,hx,hy⟩:=hg;obtain ⟨its,rv,p,hz⟩:=I.list hqa;obtain ⟨jts,rw',p',hz'⟩:=I.list hqb;obtain ⟨u,hu,ru⟩:=rv.get hx;obtain ⟨u',hu',ru'⟩:=rw'.get hy;obtain ⟨z1,z2,⟨x0,y0,z3⟩,z4,z5⟩:=st;have D:ZipApart (n+4) (n+2) (n+3) n (n+1) a b:=KJ ha hb;have ltz:n+4<s.heap.objs.size:=D0 z1;refine wpAny_pyNext_zip_item D z1 z2 z3 z4 z5 p.isList p'.isList (x:=u) (y:=u') (by simpa using hu) (by simpa using hu') fun h' a1 a2 a3 a4 a5 a6 hk=>?_;refine ⟨_,rfl,wpAny_letOwnedTupleGo_zip (s:={ s with heap:=h' }) a1 fun h2 b1 hs=>?_⟩;have neT:∀ {c:Δ},c<=n+4->c≠s.heap.objs.size:=fun h=>D5 (Ej h ltz);have kk:∀ c o,c∉[n+4,n+3,n,n+1]->s.heap.get? c=some o->h2.get? c=some o:=fun c o hc e=>by
      simp only [B_,Ek,or_false,not_or] at hc;exact (hs.2 c hc.1).trans (hk c o hc.1 hc.2.1 hc.2.2.1 hc.2.2.2 e)
    have q2:h2.get? (n+2)=_:=kk _ _ (by simp only [B_,Ek,or_false,not_or]; exact ⟨D.TIz,D.TITO,D.TIi1,D.TIi2⟩) z2;have q3:h2.get? (n+3)=_:=(hs.2 _ D.TOz).trans a2;obtain ⟨o4,e4,c4⟩:=a3;obtain ⟨o5,e5,c5⟩:=a4;have q4:h2.get? n=_:=(hs.2 _ D.i1z).trans e4;have q5:h2.get? (n+1)=_:=(hs.2 _ D.i2z).trans e5;have qT:h2.get? s.heap.objs.size=_:=(hs.2 _ (FH (neT (Av _)))).trans a5;have sub:∀ c∈[n+4,n+3,n,n+1],c∈[n+4,n+2,n+3,n,n+1]:=fun c hc=>by
      simp only [B_,Ek,or_false] at hc ⊢;rcases hc with e | e | e | e
      · exact .inl e
      · exact .inr (.inr (.inl e))
      · exact .inr (.inr (.inr (.inl e)))
      · exact .inr (.inr (.inr (.inr e)))
    have I1:Inv X pins σ (upd H s.heap.objs.size (.tup [x,y])) { s with heap:=h2,toks:=s.toks }:=I.turnedL (ch:=[n+4,n+3,n,n+1]) kk (fun c hc=>hf c (sub c hc)) (fun c hc=>by
        simp only [B_,Ek,or_false] at hc;rcases hc with rfl | rfl | rfl | rfl
        · exact ⟨_,b1⟩
        · exact ⟨_,q3⟩
        · exact ⟨_,q4⟩
        · exact ⟨_,q5⟩) (Av _) ⟨by show 2<=D7; decide,[u,u'],.cons ru (.cons ru' .nil),_,qT,rfl,_,rfl⟩
    refine ⟨.ref s.heap.objs.size,_,I1,rfl,⟨_,rfl,I.hok.fresh (Av _),fun vs ws hv hw=>?_⟩,⟨b1,q2,⟨_,_,q3⟩,⟨_,q4,c4⟩,⟨_,q5,c5⟩⟩,fun c hc=>?_⟩
    · rw [I.list_inj hv hqa,I.list_inj hw hqb]
      exact ⟨x,y,hx,hy,rfl⟩
    · have hle:c<=n+4:=by
        simp only [B_,Ek,or_false] at hc;rcases hc with rfl | rfl | rfl | rfl | rfl
        · exact Av _
        · exact Fp (n+2) 2
        · exact Fp (n+3) 1
        · exact Fp _ 4
        · exact Fp (n+1) 3
      rw [ai (neT hle)];exact (hf c hc).1
  done:=by
    intro X hP hw hK hc i pins s σ H E I hf st hg;subst hP hw hK;obtain ⟨xs,ys,hqa,hqb,hl⟩:=hg;obtain ⟨its,rv,p,hz⟩:=I.list hqa;obtain ⟨jts,rw',p',hz'⟩:=I.list hqb;obtain ⟨z1,z2,⟨x0,y0,z3⟩,z4,z5⟩:=st;have D:ZipApart (n+4) (n+2) (n+3) n (n+1) a b:=KJ ha hb;have l1:=rv.length;have l2:=rw'.length;refine wpAny_pyNext_zip_end (I.ok.hd hc) D z1 z2 z3 z4 z5 p.isList p'.isList ?_ fun h' hk=>⟨rfl,?_⟩
    · rcases hl with h | h
      · exact .inl (by simp; omega)
      · exact .inr (by simp; omega)
    · have fp:∀ c∈[n+4,n+3,n,n+1],gB X pins H c:=fun c hc=>hf c (by
        simp only [B_,Ek,or_false] at hc ⊢;rcases hc with e | e | e | e
        · exact .inl e
        · exact .inr (.inr (.inl e))
        · exact .inr (.inr (.inr (.inl e)))
        · exact .inr (.inr (.inr (.inr e))))
      have kk:∀ c o,c∉[n+4,n+3,n,n+1]->s.heap.get? c=some o->h'.get? c=some o:=fun c o hc e=>by
        simp only [B_,Ek,or_false,not_or] at hc;exact hk c o hc.1 hc.2.1 hc.2.2.1 hc.2.2.2 e
      have nit:∀ c u,H c=some u->c∉[n+4,n+3,n,n+1]:=fun c u e z=>by rw [(fp c z).1] at e; cases e
      refine I.step (g':=s.gens) (d':=s.drawn) (t':=s.toks) (ch:=[n+4,n+3,n,n+1]) (fun c hc=>⟨(fp c hc).2.2.2.1,(fp c hc).2.1,(fp c hc).2.2.2.2.1,(fp c hc).2.2.2.2.2⟩) (fun c o _ _ hc e _=>kk c o hc e) (fun c o _ _ hc e _=>⟨o.slots,kk c o hc e⟩) (fun _ _ _ _ n=>n)
        (fun c o hc e=>⟨o,kk c o hc e⟩) (fun _ _ e=>e) (fun _ _ _ e=>e) (fun _ ps e=>⟨#[],by rw [e]; simp⟩) (fun m hm=>?_) (fun c u e=>?_) I.bare
      · obtain ⟨ob,es,ep,ho,r⟩:=hm
        exact ⟨ob,es,ep,kk _ ob (fun z=>(fp _ z).2.1 rfl) ho,r⟩
      · refine (I.hok c u e).stay (fun d v hd q=>kk d v ?_ q) (fun _ e'=>e') fun _ _ e'=>e'
        rcases hd with z | z
        · rw [z]; exact nit c u e
        · exact nit d _ z
  self:=fun _ _ _ _ _ st h=>wpAny_pyIter_zip st.1 h
section
variable {X:Cx} {elts:List FE} {kt:Nat} {pt:HV}
def CS (K:W.Frag) (ta:TA):TI:=fun σ H R=>ta σ H fun vs H1=>∃ a b,vs=[.ref a,.ref b]/\(∃ xs,SqL K H1 a xs)/\(∃ ys,SqL K H1 b ys)/\R (Itz K a b) H1
theorem B1 {a b:FE} {ta:TA} {p pos:HV} (hg:Gl X "zip") (hm:X.mg "zip"=none) (ha:PA X [a,b] ta) (hs:EV [a,b] X.env=[(false,F3 a X.env),(false,F3 b X.env)]:=by rfl) (hs2:EV [b] X.env=[(false,F3 b X.env)]:=by rfl) :
  PI X (.Tuple elts kt pt) (.Call (.Name "zip" p) [a,b] [] pos) (CS X.K ta):=by
 intro pins s σ H R I h;refine Call_ (cX I hg hm (by rfl:FA "zip"=some (.type "zip")) (FD (thn (ha pos pins s σ H _ I h) fun us s1 ⟨vs,H1,I1,r1,q1⟩=>?_) (by rw [hs,hs2]) (by rw [hs2]; rfl)));obtain ⟨a,b,e,⟨xs,ha⟩,⟨ys,hb⟩,q⟩:=q1;subst e;obtain ⟨u,v,rfl,ru,rv⟩:=r1.two
 cases (show u=EB a from ru)
 cases (show v=EB b from rv)
 obtain ⟨its,_,p1,_⟩:=I1.list ha;obtain ⟨jts,_,p2,_⟩:=I1.list hb;have l1:a<s1.heap.objs.size:=let ⟨o,ho,_⟩:=p1.isList; D0 ho;have l2:b<s1.heap.objs.size:=let ⟨o,ho,_⟩:=p2.isList; D0 ho;refine call_zip_2 p1.isList p2.isList fun h' hz hTI hTO h1 h2 hsz hk=>wpAny_pyIter_zip (s:={ s1 with heap:=h' }) hz ?_;refine ⟨s1.heap.objs.size+4,_,_,_,H1,rfl,I1.kept (t':=s1.toks) hk,yV l1 l2,⟨hz,hTI,⟨_,_,hTO⟩,h1,h2⟩,fun c hc=>?_,q⟩
 have hle:s1.heap.objs.size<=c:=by
  simp only [B_,Ek,or_false] at hc;rcases hc with rfl | rfl | rfl | rfl | rfl
  ·exact Fp _ _
  ·exact Fp _ _
  ·exact Fp _ _
  ·exact Av _
  ·exact Fp _ _
 exact I1.fpOk hle (I1.hok.fresh hle)
end
section
variable {σ:St} {H:Hp} {Q:VK} {D:cO} {QB:Bool->Hp->Prop} {QA:List V->Hp->Prop}
theorem Ae (h:D.nx σ H):Bf D σ H:=h
theorem B9 {te:TE} {g:TG} (h:te σ H fun x H1=>g x σ H1 D.nx):AA te g D σ H:=h
theorem bY {i:Nat} {v:V} {Q:St->Hp->Prop} (h:Q (σ.set i (some v)) H):cR i v σ H Q:=h
theorem Cr {te:TE} (h:te σ H D.rt):Dy te D σ H:=h
theorem zW {te:TE} (h:te σ H fun _ H1=>D.nx σ H1):Bc te D σ H:=h
theorem Ck {c:TT} {t u:TS} (h:c σ H fun b H1=>if b=true then t D σ H1 else u D σ H1):Dv c t u D σ H:=h
theorem Dk {t:TE} (h:t σ H fun x H1=>∃ c,x=.bl c/\QB c H1):tB t σ H QB:=h
theorem x8 {t:TE} (h:t σ H fun x H1=>∃ c,x=.bl c/\QB c H1):tJ t σ H QB:=h
theorem zX {b:Bool} {P:Bool->Prop} (h:P b):∃ c,V.bl b=V.bl c/\P c:=⟨b,rfl,h⟩
theorem xR {a:Δ} {P:Δ->Prop} (h:P a):∃ c,V.ref a=V.ref c/\P c:=⟨a,rfl,h⟩
theorem xQ {i:Int} {P:Int->Prop} (h:P i):∃ c,V.int i=V.int c/\P c:=⟨i,rfl,h⟩
theorem Cv {i:Nat} {v:V} (e:σ[i]?=some (some v)) (h:Q v H):CC i σ H Q:=⟨v,e,h⟩
theorem DW {v:V} (h:Q v H):tC v σ H Q:=h
theorem Dg {r:R2} {ta tb:TE} (h:ta σ H fun x H1=>tb σ H1 fun y H2=>r x y H2 Q):tOp r ta tb σ H Q:=h
theorem Dl {r:V->Hp->VK->Prop} {ta:TE} (h:ta σ H fun x H1=>r x H1 Q):tUn r ta σ H Q:=h
theorem zQ {ta tb:TE} (h:ta σ H fun x H1=>∃ c,x=.bl c/\if c=true then tb σ H1 Q else Q (.bl false) H1):A7 ta tb σ H Q:=h
theorem Af {ta:TE} (h:ta σ H fun x H1=>∃ c,x=.bl c/\Q (.bl (!c)) H1):Bg ta σ H Q:=h
theorem B8 {t u:TT} (h:t σ H fun c H1=>if c=true then u σ H1 QB else QB false H1):Dr t u σ H QB:=h
theorem Di {t u:TT} (h:t σ H fun c H1=>if c=true then QB true H1 else u σ H1 QB):tOr t u σ H QB:=h
theorem Cq {t:TT} (h:t σ H fun c H1=>QB (!c) H1):Dx t σ H QB:=h
theorem Df {t:TT} {ta tb:TE} (h:t σ H fun c H1=>if c=true then ta σ H1 Q else tb σ H1 Q):tIf t ta tb σ H Q:=h
theorem da (h:QB true H):fX σ H QB:=h
theorem Dd {g:Int->Int->V} {i j:Int} (h:Q (g i j) H):rI0 g (.int i) (.int j) H Q:=⟨i,j,rfl,rfl,h⟩
theorem cw {C:Int->Int->Prop} {g:Int->Int->V} {i j:Int} (c:C i j) (h:Q (g i j) H):rI C g (.int i) (.int j) H Q:=⟨i,j,rfl,rfl,c,h⟩
theorem DV {g:Int->V} {i:Int} (h:Q (g i) H):rU g (.int i) H Q:=⟨i,rfl,h⟩
theorem Cf {i j:Int} (h:Q (.bl (decide (i=j))) H):rEq (.int i) (.int j) H Q:=⟨rfl,by
 rw [jq,Int.instDecidableEq.eq_def]<;>first | exact h | (simpa [jq] using h)⟩
theorem Co {i j:Int} (h:Q (.bl (!decide (i=j))) H):rNe (.int i) (.int j) H Q:=⟨rfl,by
 have e:decide (V.int i=V.int j)=decide (i=j):=by by_cases z:i=j<;>simp [z]
 rw [e]; exact h⟩
theorem Cg {i j:Str} (h:Q (.bl (decide (i=j))) H):rEq (.str i) (.str j) H Q:=⟨rfl,by
 have e:decide (V.str i=V.str j)=decide (i=j):=by by_cases z:i=j<;>simp [z]
 rw [e]; exact h⟩
theorem Ce {i j:Bool} (h:Q (.bl (decide (i=j))) H):rEq (.bl i) (.bl j) H Q:=⟨rfl,by
 have e:decide (V.bl i=V.bl j)=decide (i=j):=by by_cases z:i=j<;>simp [z]
 rw [e]; exact h⟩
theorem Cn {i j:Bool} (h:Q (.bl (!decide (i=j))) H):rNe (.bl i) (.bl j) H Q:=⟨rfl,by
 have e:decide (V.bl i=V.bl j)=decide (i=j):=by by_cases z:i=j<;>simp [z]
 rw [e]; exact h⟩
theorem aH {K:W.Frag} {p:Δ} {xs:List V} {i:Int} {v:V} (h:SqL K H p xs) (e:atI xs i=some v) (q:Q v H):zM K (.ref p) (.int i) H Q:=⟨p,xs,i,v,rfl,rfl,h,e,q⟩
theorem bH {K:W.Frag} {p:Δ} {xs:List V} {i:Int} {v:V} (h:SqT K H p xs) (e:atI xs i=some v) (q:Q v H):zN K (.ref p) (.int i) H Q:=⟨p,xs,i,v,rfl,rfl,h,e,q⟩
theorem z6 {K:W.Frag} {p:Δ} {xs:List V} {i:Int} {v:V} (h:SqL K H p xs) (e:atI xs i=some v) (q:Q v H):rIx K (.ref p) (.int i) H Q:=.inl (aH h e q)
theorem z7 {K:W.Frag} {p:Δ} {xs:List V} {i:Int} {v:V} (h:SqT K H p xs) (e:atI xs i=some v) (q:Q v H):rIx K (.ref p) (.int i) H Q:=.inr (.inl (bH h e q))
theorem xG {r r':R2} {ta tb tc:TE} (h:ta σ H fun x H1=>tb σ H1 fun y H2=>r x y H2 fun z H3=>∃ k,z=.bl k/\if k=true then tc σ H3 fun y' H4=>r' y y' H4 Q else Q (.bl false) H3):rQ r r' ta tb tc σ H Q:=h
theorem zR {sp:Sp} {dvs:List V} {E:XK} {t:TA} (h:t σ H fun vs H1=>sp (vs++dvs) H1 Q E):tF sp dvs E t σ H Q:=h
theorem Cp (h:QA [] H):CA σ H QA:=h
theorem zT {ta:TE} {tr:TA} (h:ta σ H fun x H1=>tr σ H1 fun xs H2=>QA (x::xs) H2):Ba ta tr σ H QA:=h
theorem Dc {r:List V->Hp->VK->Prop} {t:TA} (h:t σ H fun vs H1=>r vs H1 Q):tCB r t σ H Q:=h
end
theorem BK {K:W.Frag}:W.kitOne K (.type "int") (.type "int")=some true:=by kernel_rfl
theorem BJ {K:W.Frag}:W.kitOne K (.type "int") (.type "bool")=some false:=by kernel_rfl
section
variable {X:Cx} {K:W.Frag} {H:Hp} {Q:VK} {σ:St}
def B5 (K:W.Frag):List V->Hp->VK->Prop:=fun xs H Q=>∃ x n t b,xs=[x,.ty n]/\gu K H x t/\W.kitOne K t (.type n)=some b/\Q (.bl b) H
theorem tU:bM X (.builtin "isinstance") (B5 X.K):=oU
theorem cS {x:V} {n:String} {t:ς} {b:Bool} (ty:gu K H x t) (e:W.kitOne K t (.type n)=some b) (h:Q (.bl b) H):B5 K [x,.ty n] H Q:=⟨x,n,t,b,rfl,ty,e,h⟩
def zO (K:W.Frag):List V->Hp->VK->Prop:=fun xs H Q=>∃ p ys,xs=[.ref p]/\(SqL K H p ys\/SqT K H p ys)/\Q (.int ys.length) H
theorem Bu:bM X (.builtin "len") (zO X.K):=mP
theorem bA {p:Δ} {ys:List V} (h:H p=some (.lst ys)) (q:Q (.int ys.length) H):zO K [.ref p] H Q:=⟨p,ys,rfl,.inl (SqL.of h),q⟩
theorem tD {p:Δ} {ys:List V} (h:H p=some (.tup ys)) (q:Q (.int ys.length) H):zO K [.ref p] H Q:=⟨p,ys,rfl,.inr (SqT.of h),q⟩
def B4 (K:W.Frag):List V->Hp->VK->Prop:=fun xs H Q=>∃ (p:Δ) (bs:List Bool),xs=[.ref p]/\SqL K H p (bs.map V.bl)/\Q (.bl (bs.all id)) H
theorem Bt (hc:X.calm=true):bM X (.builtin "all") (B4 X.K):=oR hc
theorem ri {p:Δ} {bs:List Bool} (h:H p=some (.lst (bs.map V.bl))) (q:Q (.bl (bs.all id)) H):B4 K [.ref p] H Q:=⟨p,bs,rfl,SqL.of h,q⟩
def C3:List V->Hp->VK->Prop:=fun xs H Q=>∃ i,xs=[.int i]/\Q (.int (if i<0 then -i else i)) H
theorem Bs:bM X (.builtin "abs") C3:=vF
theorem B7 {i:Int} (q:Q (.int (if i<0 then -i else i)) H):C3 [.int i] H Q:=⟨i,rfl,q⟩
def AU:List V->Hp->VK->Prop:=fun xs H Q=>∃ i j,xs=[.int i,.int j]/\Q (.int (if j<i then j else i)) H
theorem sD (hc:X.calm=true):bM X (.builtin "min") AU:=tV hc
theorem Ab {i j:Int} (q:Q (.int (if j<i then j else i)) H):AU [.int i,.int j] H Q:=⟨i,j,rfl,q⟩
def xB (K:W.Frag):List V->Hp->VK->Prop:=fun xs H Q=>∃ p ys,xs=[.ref p]/\(SqL K H p ys\/SqT K H p ys)/\∀ l,H l=none->Q (.ref l) (upd H l (.lst ys))
theorem zd:bM X (.type "list") (xB X.K):=mQ
theorem p5 {p:Δ} {ys:List V} (h:H p=some (.lst ys)) (q:∀ l,H l=none->Q (.ref l) (upd H l (.lst ys))):xB K [.ref p] H Q:=⟨p,ys,rfl,.inl (SqL.of h),q⟩
def rh (K:W.Frag):List V->Hp->VK->Prop:=fun xs H Q=>∃ p ys,xs=[.ref p]/\((SqL K H p ys/\∀ l,H l=none->Q (.ref l) (upd H l (.tup ys)))\/(SqT K H p ys/\Q (.ref p) H))
theorem vE:bM X (.type "tuple") (rh X.K):=kY
theorem mz {p:Δ} {ys:List V} (h:H p=some (.lst ys)) (q:∀ l,H l=none->Q (.ref l) (upd H l (.tup ys))):rh K [.ref p] H Q:=⟨p,ys,rfl,.inl ⟨SqL.of h,q⟩⟩
def C5 (K:W.Frag) (f:Str):V->Hp->VK->Prop:=fun x H1 Q=>∃ a C dx fs v,x=.ref a/\H1 a=some (.ins C dx fs)/\Cls K C/\cI K C f/\fs.lookup f=some v/\Q v H1
theorem Ci {ta:TE} {f:Str} (h:ta σ H fun x H1=>C5 K f x H1 Q):Cy K ta f σ H Q:=h
theorem jz {f:Str} {a C dx:Δ} {fs:List (Str×V)} {v:V} (h:H a=some (.ins C dx fs)) (c:Cls K C) (n:cI K C f) (l:fs.lookup f=some v) (q:Q v H):C5 K f (.ref a) H Q:=⟨a,C,dx,fs,v,rfl,h,c,n,l,q⟩
def AS (C:Δ) (m:Str):V->Hp->Prop->Prop:=fun x H1 q=>∃ a dx fs,x=.ref a/\H1 a=some (.ins C dx fs)/\fs.lookup m=none/\q
theorem Aa {C:Δ} {m:Str} {sp:Sp} {dvs:List V} {E:XK} {ta:TE} {t:TA} (h:ta σ H fun x H1=>AS C m x H1 (t σ H1 fun vs H2=>sp (x::(vs++dvs)) H2 Q E)):yN C m sp dvs E ta t σ H Q:=h
theorem bq {C a dx:Δ} {m:Str} {fs:List (Str×V)} {q:Prop} (h:H a=some (.ins C dx fs)) (l:fs.lookup m=none) (hq:q):AS C m (.ref a) H q:=⟨a,dx,fs,rfl,h,l,hq⟩
theorem z9 {C:Δ} {sp:Sp} {dvs:List V} {E:XK} {t:TA} (h:t σ H fun vs H1=>∀ x dx,H1 x=none->H1 dx=none->dx≠x ->
 sp (.ref x::(vs++dvs)) (upd (upd H1 dx (.own x)) x (.ins C dx [])) (fun v H2=>v=.non/\Q (.ref x) H2) E):Be C sp dvs E t σ H Q:=h
def rBM (K:W.Frag) (T:String):V->Hp->Prop->Prop:=fun x H1 q=>tyV K T x H1/\q
theorem De {T:String} {r:V->List V->Hp->VK->Prop} {to:TE} {t:TA} (h:to σ H fun x H1=>rBM K T x H1 (t σ H1 fun xs H2=>r x xs H2 Q)):tBM K T r to t σ H Q:=h
theorem Ca {T:String} {r:V->List V->Hp->VK->Prop} {to:TE} (h:to σ H fun x H1=>rBM K T x H1 (r x [] H1 Q)):Ds K T r to σ H Q:=h
theorem bP {l:Δ} {xs:List V} {q:Prop} (h:H l=some (.lst xs)) (hq:q):rBM K "list" (.ref l) H q:=⟨.inl ⟨rfl,_,SqL.of h⟩,hq⟩
theorem aV {l:Δ} {xs:List V} {y:V} (h:H l=some (.lst xs)) (z:xs.length<D7) (q:Q .non (upd H l (.lst (xs++[y])))):tf (.ref l) [y] H Q:=⟨l,xs,y,rfl,rfl,h,z,q⟩
theorem xH {l:Δ} {xs:List V} (h:H l=some (.lst xs)) (q:Q .non (upd H l (.lst []))):xw (.ref l) [] H Q:=⟨l,xs,rfl,rfl,h,q⟩
theorem Dj {r:V->Option Int->Option Int->Hp->VK->Prop} {te:TE} {tl th:TO} (h:te σ H fun x H1=>tl σ H1 fun l H2=>th σ H2 fun u H3=>r x l u H3 Q):tSl r te tl th σ H Q:=h
theorem uN {Q:Option Int->Hp->Prop} (h:Q none H):tI σ H Q:=h
theorem Ag {t:TE} {Q:Option Int->Hp->Prop} (h:t σ H fun x H1=>∃ i,x=.int i/\Q (some i) H1):Bh t σ H Q:=h
theorem xX {a:Δ} {xs:List V} {lo hi:Option Int} (h:H a=some (.lst xs)) (q:∀ p,H p=none->Q (.ref p) (upd H p (.lst (mV xs lo hi)))):B6 K (.ref a) lo hi H Q:=⟨a,xs,rfl,SqL.of h,q⟩
def tN (J:It) (g:TG) (tb:TS) (D:cO) (σ:St) (H1:Hp):Prop:=∃ W:Nat->Nat->St->Hp->Prop,(∃ m,W 0 m σ H1)/\∀ i m σ H,W i m σ H ->
 (J.stop i H/\D.nx σ H)\/(J.go i H/\∃ N:St->Hp->Prop,(∀ σ' H',N σ' H'->∃ m',m'<m/\W (i+1) m' σ' H')/\∀ x H',J.yld i H x H'->g x σ H' fun σ2 H2=>tb { D with nx:=N,ct:=N,bk:=D.nx } σ2 H2)
theorem Cj {wi:TI} {g:TG} {tb:TS} {D:cO} (h:wi σ H fun J H1=>tN J g tb D σ H1):Du wi g tb D σ H:=h
theorem cK {a:Δ} {xs:List V} {g:TG} {tb:TS} {D:cO} (Pv:Nat->St->Hp->Prop) (h0:Pv 0 σ H) (hl:∀ i σ H,i<=xs.length->Pv i σ H->SqL K H a xs)
  (hs:∀ i x σ H,xs[i]?=some x->Pv i σ H->g x σ H fun σ2 H2=>tb { D with nx:=Pv (i+1),ct:=Pv (i+1),bk:=D.nx } σ2 H2) (hd:∀ σ H,Pv xs.length σ H->D.nx σ H):tN (Itl K a) g tb D σ H:=vQ Pv h0 hl hs hd
theorem cu {lo:Int} {n:Nat} {g:TG} {tb:TS} {D:cO} (Pv:Nat->St->Hp->Prop) (h0:Pv 0 σ H)
  (hs:∀ i σ H,i<n->Pv i σ H->g (.int (lo+i)) σ H fun σ2 H2=>tb { D with nx:=Pv (i+1),ct:=Pv (i+1),bk:=D.nx } σ2 H2) (hd:∀ σ H,Pv n σ H->D.nx σ H):tN (Itr lo n) g tb D σ H:=ua Pv h0 hs hd
theorem Ai {ta:TA} {R:It->Hp->Prop} (h:ta σ H fun vs H1=>∃ j:Int,vs=[.int j]/\-(2 ^ 62)<=j/\j<2 ^ 62/\R (Itr 0 j.toNat) H1):AN ta σ H R:=h
theorem xT {tl:TE} {R:It->Hp->Prop} (h:tl σ H fun x H1=>∃ a,x=.ref a/\(∃ xs,SqL K H1 a xs)/\R (Itl K a) H1):vX K tl σ H R:=h
end
theorem bG {zs:List Int} {i:Int} (h0:0<=i) (h1:i<zs.length):atI (zs.map V.int) i=some (.int (zs.getD i.toNat 0)):=by
 obtain ⟨k,rfl⟩:∃ k:Nat,i=(k:Int):=⟨i.toNat,by omega⟩
 refine bI ?_;have hk:k<zs.length:=by omega
 simp [hk]
theorem aj.new {H:Hp} {p:Δ} {o:HO} (h:H p=none):aj H (upd H p o):=fun b u e=>by rw [ai (aC e h)]; exact e
theorem aj.later {H0 H:Hp} {p:Δ} {o:HO} (s:aj H0 H) (h:H0 p=none):aj H0 (upd H p o):=fun b u e=>by rw [ai (aC e h)]; exact s b u e
theorem CU {b:Bool} {A B:Prop} (h:if b=true then A else B):if (true&&b)=true then A else B:=by rw [J7]; exact h
theorem CT {b:Bool} {A B:Prop} (h:if b=true then B else A):if (!b)=true then A else B:=by cases b<;>exact h
def fu (J:It) (g:TG) (tt:TT) (te:TE) (cap:List (Option Nat)) (l:Δ) (σ:St) (H1:Hp) (Q:VK):Prop :=
 ∃ (n:Nat) (Pv:Nat->List V->St->Hp->Prop),Pv 0 [] (cT cap σ) (upd H1 l (.lst [])) /\
  (∀ i ys σ' H',i<n->Pv i ys σ' H'->J.go i H'/\∀ x H2,J.yld i H' x H2->g x σ' H2 fun σ3 H3=>tt σ3 H3 fun b H4 =>
   if b=true then te σ3 H4 fun y H5=>H5 l=some (.lst ys)/\ys.length<D7/\Pv (i+1) (ys++[y]) σ3 (upd H5 l (.lst (ys++[y]))) else Pv (i+1) ys σ3 H4) /\
  ∀ ys σ' H',Pv n ys σ' H'->J.stop n H'/\Q (.ref l) H'
section
variable {K:W.Frag} {σ:St} {H:Hp} {Q:VK} {te:TE} {cap:List (Option Nat)} {l:Δ}
theorem zS {wi:TI} {g:TG} {tt:TT} (h:wi σ H fun J H1=>∀ l,H1 l=none->fu J g tt te cap l σ H1 Q):tG wi g tt te cap σ H Q:=h
theorem lK {α β:Type} (F:α->β) (xs:List α) (i:Nat) {x:α} (h:xs[i]?=some x):(xs.take (i+1)).map F=(xs.take i).map F++[F x]:=by
 rw [Ft,h,Ef];rfl
theorem jP {a:Δ} {xs:List V} (F:V->V) (hs:SqL K H a xs) (hz:xs.length<=1000) (hl:H l=none)
  (step:∀ x o H' (Q':VK),x∈xs->aj H H'->(∀ H5,aj H' H5->Q' (F x) H5)->te (((cT (none::cap) σ).set 0 o).set 0 (some x)) H' Q')
  (fin:∀ H',aj H H'->H' l=some (.lst (xs.map F))->Q (.ref l) H'):fu (Itl K a) (cR 0) fX te (none::cap) l σ H Q:=by
 refine ⟨xs.length,fun i ys σ' H'=>ys=(xs.take i).map F/\(∃ o,σ'=(cT (none::cap) σ).set 0 o)/\aj H H'/\H' l=some (.lst ys),⟨rfl,⟨none,rfl⟩,aj.new hl,ag⟩,?_,?_⟩
 ·rintro i ys σ' H' hi ⟨rfl,⟨o,rfl⟩,s,e⟩;refine ⟨⟨xs,xs[i],s.seq hs,by simp [hi]⟩,fun x H2 y=>?_⟩;obtain ⟨e2,y⟩:=y;subst e2;have hx:=y xs (s.seq hs);refine bY (da (jW ?_));refine step x o H2 _ (EW hx) s fun H5 s5=>⟨s5 _ _ e,?_,?_⟩
  ·rw [Ξ,FP];exact cN (by omega)
  ·exact ⟨(lK F xs i hx).symm,⟨_,HB ..⟩,(s.trans s5).later hl,ag⟩
 ·rintro ys σ' H' ⟨rfl,_,s,e⟩;rw [EN (Av _)] at e;exact ⟨⟨xs,s.seq hs,Av _⟩,fin H' s e⟩
theorem fG {n:Nat} (F:Nat->V) (hz:n<=1000) (hl:H l=none)
  (step:∀ i o H' (Q':VK),i<n->aj H H'->(∀ H5,aj H' H5->Q' (F i) H5)->te (((cT (none::cap) σ).set 0 o).set 0 (some (.int ((0:Int)+(i:Nat))))) H' Q')
  (fin:∀ H',aj H H'->H' l=some (.lst ((ED n).map F))->Q (.ref l) H'):fu (Itr 0 n) (cR 0) fX te (none::cap) l σ H Q:=by
 refine ⟨n,fun i ys σ' H'=>ys=(ED i).map F/\(∃ o,σ'=(cT (none::cap) σ).set 0 o)/\aj H H'/\H' l=some (.lst ys),⟨rfl,⟨none,rfl⟩,aj.new hl,ag⟩,?_,?_⟩
 ·rintro i ys σ' H' hi ⟨rfl,⟨o,rfl⟩,s,e⟩;refine ⟨hi,fun x H2 y=>?_⟩;obtain ⟨e2,rfl⟩:=y;subst e2;refine bY (da (jW ?_));refine step i o H2 _ hi s fun H5 s5=>⟨s5 _ _ e,?_,?_⟩
  ·rw [Ξ,Eo];exact cN (by omega)
  ·refine ⟨?_,⟨_,HB ..⟩,(s.trans s5).later hl,ag⟩;rw [Fw,Ef];rfl
 ·rintro ys σ' H' ⟨rfl,_,s,e⟩;exact ⟨Av _,fin H' s e⟩
def AW (K:W.Frag) (f:Str) (y x:V) (H2:Hp) (k:Hp->Prop):Prop:=∃ a C dx fs,x=.ref a/\H2 a=some (.ins C dx fs)/\Cls K C/\cI K C f/\fs.length<1000/\k (upd H2 a (.ins C dx (dQ f y fs)))
theorem Al {D:cO} {ta tv:TE} {f:Str} (h:tv σ H fun y H1=>ta σ H1 fun x H2=>AW K f y x H2 fun H3=>D.nx σ H3):Dn K ta tv f D σ H:=h
theorem fO {f:Str} {y:V} {k:Hp->Prop} {a C dx:Δ} {fs:List (Str×V)} (h:H a=some (.ins C dx fs)) (c:Cls K C) (n:cI K C f) (z:fs.length<1000) (q:k (upd H a (.ins C dx (dQ f y fs)))):AW K f y (.ref a) H k:=⟨a,C,dx,fs,rfl,h,c,n,z,q⟩
def Bn (c:TT) (tb:TS) (D:cO) (σ:St) (H:Hp):Prop:=∃ W:Nat->St->Hp->Prop,(∃ m,W m σ H)/\∀ m σ H,W m σ H ->
 c σ H fun b H1=>if b=true then ∃ N:St->Hp->Prop,(∀ σ' H',N σ' H'->∃ m',m'<m/\W m' σ' H')/\tb { D with nx:=N,ct:=N,bk:=D.nx } σ H1 else D.nx σ H1
theorem yd {D:cO} {c:TT} {tb:TS} (h:Bn c tb D σ H):yT c tb D σ H:=h
theorem fj {n:Nat} {tt:TGs} {a:Δ} {xs:List V} {QS:St->Hp->Prop} (h:H a=some (.tup xs)) (hl:xs.length=n) (q:tt xs σ H QS):ub K n tt (.ref a) σ H QS:=⟨a,xs,rfl,SqT.of h,hl,q⟩
theorem dR {tg:TG} {u:TGs} {v:V} {r:List V} {QS:St->Hp->Prop} (h:tg v σ H fun σ' H'=>u r σ' H' QS):jd tg u (v::r) σ H QS:=⟨v,r,rfl,h⟩
theorem jA {QS:St->Hp->Prop} (h:QS σ H):vR [] σ H QS:=⟨rfl,h⟩
end
section
variable {X:Cx} (K:W.Frag) (h:X.K=K)
include h
theorem aA:IxR X (zM K):=h ▸ sN
theorem bw:IxR X (zN K):=h ▸ vZ
theorem mZ:IxR X (rIx K):=h ▸ BD
theorem bg:bM X (.builtin "isinstance") (B5 K):=h ▸ tU
theorem bu:bM X (.builtin "len") (zO K):=h ▸ Bu
theorem mO (hc:X.calm=true):bM X (.builtin "all") (B4 K):=h ▸ Bt hc
theorem oO:bM X (.type "list") (xB K):=h ▸ zd
theorem lR:bM X (.type "tuple") (rh K):=h ▸ vE
theorem qi:SlR X (B6 K):=h ▸ As
theorem jv {e:FE} {ta:TE} {f:Str} {pos:HV} (he:PE X e ta) (hb:Ii e f X.env (F3 e X.env)=F3 e X.env):PE X (.Attribute e f pos) (Cy K ta f):=h ▸ BX he hb
end
theorem lS {zs:List Int} {k:Nat}:mV (zs.map V.int) (some (k:Int)) none=(zs.drop k).map V.int:=by
 unfold mV;rw [HT.yj,HT.Ap,Ξ];rcases Nat.le_total k zs.length with h | h
 ·rw [Jc h,<- List.map_drop,EN (by rw [Ξ,GH]; omega)]
 ·rw [Nat.min_eq_right h,List.drop_eq_nil_of_le h,Ka,Gm]; rfl
theorem getD_mem {α:Type} {zs:List α} {k:Nat} {d:α} (h:k<zs.length):zs.getD k d∈zs:=by
 rw [Fb,ξ h];exact Er h
theorem cG {X:Cx} (K:W.Frag) (hK:X.K=K) {es:List FE} {k:Nat} {t:TGs} {n:Nat} {pos:HV} (hc:X.calm=true) (h:PGs X es t)
  (hn:(JN es X.env).length=n:=by rfl) (hst:(JN es X.env).findIdx? (·.1)=none:=by rfl):PG X (.Tuple es k pos) (ub K n t):=hK ▸ B0 hc h hn hst
theorem eR {H:Hp}:∀ (ns:List Int),RepL H (ns.map IB) (ns.map V.int)
 | []=>by simp only [Hs,RepL]
 | n::r=>by
  simp only [EL,RepL,Rep];exact ⟨_,_,rfl,rfl,eR r⟩
theorem eS {H:Hp} {a:Δ} {ns:List Int} (h:H a=some (.lst (ns.map V.int))):Rep H (.list (ns.map IB)) (.ref a):=by
 simp only [Rep];exact ⟨a,_,rfl,h,eR ns⟩
theorem ku {H:Hp}:∀ {ds:List Gp} {xs:List V},RepL H ds xs->ds.length=xs.length/\∀ (i:Nat) x,xs[i]?=some x->∃ d,ds[i]?=some d/\Rep H d x
 | [],xs,h=>by simp only [RepL] at h; subst h; exact ⟨rfl,fun i x e=>by simp at e⟩
 | d::ds,xs,h=>by
  simp only [RepL] at h;obtain ⟨x,r,rfl,h1,h2⟩:=h;obtain ⟨l,g⟩:=ku h2;refine ⟨by simp [l],fun i y e=>?_⟩
  cases i with
  | zero => simp at e; subst e; exact ⟨d, rfl, h1⟩
  | succ i => exact g i y (by simpa using e)
theorem tY {K:W.Frag} {σ:St} {H:Hp} {Q:VK} {te:TE} {l a b:Δ} {xs ys:List V} (F:Nat->V) (hx:H a=some (.lst xs)) (hy:H b=some (.lst ys)) (he:xs.length=ys.length) (hz:xs.length<=1000) (hl:H l=none)
  (step:∀ (i:Nat) x y H' (Q':VK),xs[i]?=some x->ys[i]?=some y->aj H H'->(∀ H5,aj H' H5->Q' (F i) H5)->te [some x,some y] H' Q')
  (fin:∀ H',aj H H'->H' l=some (.lst ((ED xs.length).map F))->Q (.ref l) H'):fu (Itz K a b) (ub K 2 (jd (cR 0) (jd (cR 1) vR))) fX te [none,none] l σ H Q:=by
 refine ⟨xs.length,fun i zs σ' H'=>zs=(ED i).map F/\(∃ o o',σ'=[o,o'])/\aj H H'/\H' l=some (.lst zs),⟨rfl,⟨none,none,rfl⟩,aj.new hl,ag⟩,?_,?_⟩
 ·rintro i zs σ' H' hi ⟨rfl,⟨o,o',rfl⟩,s,e⟩;refine ⟨⟨xs,ys,xs[i],ys[i]'(by omega),SqL.of (s _ _ hx),SqL.of (s _ _ hy),by simp [hi],by simp⟩,fun v H2 z=>?_⟩;obtain ⟨T,rfl,hT,z⟩:=z;obtain ⟨x,y,ex,ey,rfl⟩:=z xs ys (SqL.of (s _ _ hx)) (SqL.of (s _ _ hy));have sT:=aj.new (o:=HO.tup [x,y]) hT;refine fj ag rfl (dR (bY (dR (bY (jA (da (jW ?_)))))));refine step i x y _ _ ex ey (s.trans sT) fun H5 s5=>⟨s5 _ _ (sT _ _ e),?_,?_⟩
  ·rw [Ξ,Eo];exact cN (by omega)
  ·refine ⟨?_,⟨_,_,rfl⟩,((s.trans sT).trans s5).later hl,ag⟩;rw [Fw,Ef];rfl
 ·rintro zs σ' H' ⟨rfl,_,s,e⟩;exact ⟨⟨xs,ys,SqL.of (s _ _ hx),SqL.of (s _ _ hy),.inl (Av _)⟩,fin H' s e⟩
end L2
set_option maxHeartbeats 4000000
namespace L2
open PySem
inductive DS {α:Type}:KH α->Prop
 | pure (a:α):DS (.pure a)
 | raise (e:ς):DS (.raise e)
 | unsup (w:String):DS (.unsupported w)
 | fin (e:Ending):DS (.finish e)
 | rule {t:String} {k:Unit->KH α}:DS (k ())->DS (.rule t k)
 | here {p:HV} {k:Unit->KH α}:DS (k ())->DS (.at p k)
 | load {a:Δ} {p:Option ς} {k:GN->KH α}:(∀ o,DS (k o))->DS (.load a p k)
 | upd {a:Δ} {p:Option ς} {f:GN->GN} {k:Unit->KH α}:(∀ o,(f o).dict=o.dict/\(f o).isFreed=o.isFreed)->DS (k ())->DS (.update a p f k)
 | alloc {o:GN} {k:Δ->KH α}:(∀ n,DS (k n))->DS (.alloc o k)
 | point {l:List ς} {k:Unit->KH α}:DS (k ())->DS (.point l k)
 | fresh {k:Tok->KH α}:(∀ n,DS (k n))->DS (.fresh k)
 | ask {k:Setting->KH α}:(∀ n,DS (k n))->DS (.ask k)
 | stack {k:List (Code×HV)->KH α}:(∀ n,DS (k n))->DS (.stack k)
theorem DS.andThen {α β:Type} {m:KH α} {f:α->KH β} (h:DS m) (g:∀ a,DS (f a)):DS (m >>= f):=by
 show DS (HE m f)
 induction h with
 | pure a=>rw [HE]; exact g a
 | raise e=>rw [HE]; exact .raise e
 | unsup w=>rw [HE]; exact .unsup w
 | fin e=>rw [HE]; exact .fin e
 | rule _ ih=>rw [HE]; exact .rule ih
 | here _ ih=>rw [HE]; exact .here ih
 | load _ ih=>rw [HE]; exact .load ih
 | upd z _ ih=>rw [HE]; exact .upd z ih
 | alloc _ ih=>rw [HE]; exact .alloc ih
 | point _ ih=>rw [HE]; exact .point ih
 | fresh _ ih=>rw [HE]; exact .fresh ih
 | ask _ ih=>rw [HE]; exact .ask ih
 | stack _ ih=>rw [HE]; exact .stack ih
def mJ (e:Δ) (dx:Option Δ) (h:E5):Prop:=∃ o,h.get? e=some o/\o.dict=dx
theorem mJ.upd {e a:Δ} {dx:Option Δ} {h:E5} {f:GN->GN} (x:mJ e dx h) (z:∀ o,(f o).dict=o.dict/\(f o).isFreed=o.isFreed):mJ e dx (h.update a f):=by
 obtain ⟨o,h1,h2⟩:=x;by_cases q:a=e
 ·subst q;have fr:o.isFreed=false:=(Heap.get?_some_iff.mp h1).2;exact ⟨_,GF f h1 (by rw [(z o).2]; exact fr),by rw [(z o).1]; exact h2⟩
 ·exact ⟨o,by rw [EX h f q]; exact h1,h2⟩
theorem DS.run {α:Type} {M:Iq} {Γ:Ctx} {m:KH α} {Q:α->HV->Ω->Prop} {E:ς->HV->Ω->Prop} {p:HV} {s:Ω} {e:Δ} {dx:Option Δ} (h:DS m) (w:IQ M Γ m Q E p s) (x:mJ e dx s.heap) :
  IQ M Γ m (fun a p s'=>Q a p s'/\mJ e dx s'.heap) (fun v p s'=>E v p s'/\mJ e dx s'.heap) p s:=by
 induction h generalizing p s with
 | pure a=>rw [IQ] at w ⊢; exact ⟨w,x⟩
 | raise v=>rw [IQ] at w ⊢; exact ⟨w,x⟩
 | unsup q=>rw [IQ] at w; exact w.elim
 | fin q=>rw [IQ] at w; exact w.elim
 | rule _ ih=>rw [IQ] at w ⊢; exact ih w x
 | here _ ih=>rw [IQ] at w ⊢; exact ih w x
 | load _ ih=>rw [IQ] at w ⊢; obtain ⟨o,h1,h2⟩:=w; exact ⟨o,h1,ih o h2 x⟩
 | upd z _ ih=>rw [IQ] at w ⊢; exact ⟨w.1,ih w.2 (x.upd z)⟩
 | alloc _ ih=>rw [IQ] at w ⊢; exact ih _ w (let ⟨o,h1,h2⟩:=x; ⟨o,χ _ h1,h2⟩)
 | point _ ih=>rw [IQ] at w ⊢; exact ih w x
 | fresh _ ih=>rw [IQ] at w ⊢; exact ih _ w x
 | ask _ ih=>rw [IQ] at w ⊢; exact ih _ w x
 | stack _ ih=>rw [IQ] at w ⊢; exact ih _ w x
theorem DS.any {α:Type} {M:Iq} {A:Eg} {m:KH α} {Q:α->Ω->Prop} {E:ς->Ω->Prop} {s:Ω} {e:Δ} {dx:Option Δ} (h:DS m) (w:EA M A m Q E s) (x:mJ e dx s.heap) :
  EA M A m (fun a s'=>Q a s'/\mJ e dx s'.heap) E s:=fun Γ p hΓ =>
 Sem.wp_mono M Γ m (fun _ _ _ z=>z) (fun _ _ _ z=>z.1) p s (h.run (w Γ p hΓ) x)
theorem fH {α:Type} {c:Prop} [Decidable c] {a b:KH α} (h1:DS a) (h2:DS b):DS (if c then a else b):=by split<;>assumption
theorem gY (v:ς) (i:Nat):DS (field v i):=by
 unfold field fieldsOf;refine DS.andThen ?_ fun vs=>?_
 ·cases v with
  | ref a =>
   refine DS.andThen (.load fun o=>.pure o) fun o=>?_
   cases o.data<;>first | exact .pure _ | exact .unsup _
  | _ => exact .unsup _
 ·cases vs[i]?<;>first | exact .pure _ | exact .unsup _
theorem mW (f:Array ς->Array ς) (o:GN):(Lm f o).dict=o.dict/\(Lm f o).isFreed=o.isFreed:=by
 obtain ⟨c,d,dt,sl⟩:=o
 cases dt<;>exact ⟨rfl,rfl⟩
theorem fI (v:ς) (i:Nat) (x:ς):DS (L8 v i x):=by
 unfold L8
 cases v with
 | ref a =>
  unfold updateField;refine DS.andThen (.load fun o=>.pure o) fun o=>?_
  cases o.data with
  | fields vs => exact fH (.upd (mW _) (.pure ())) (.unsup _)
  | _ => exact .unsup _
 | _=>exact .unsup _
theorem eW (e:ς) (f:Option Δ):DS (setFlight e f):=by
 unfold setFlight;exact DS.andThen (gY _ _) fun tb=>fH (fI _ _ _) (.pure _)
theorem zg (env:J_) (b:Bool) (l:List J_):DS (keptBack env b l):=by
 cases l with
 | nil =>
  unfold keptBack underTheClaimsCaller;refine fH (.pure _) (DS.andThen (DS.andThen (.stack fun n=>.pure n) fun _=>.pure _) fun q=>.pure _)
 | cons c r=>unfold keptBack; exact .pure _
theorem t6 (env:J_) (l:List J_):DS (behindIsImport env l):=by
 unfold behindIsImport;exact fH (.pure _) (fH (.pure _) (DS.andThen (gY _ _) fun _=>.pure _))
theorem pB:∀ l:List J_,DS (readyFrames l)
 | []=>by unfold readyFrames; exact .pure _
 | env::r=>by
  unfold readyFrames
  cases env.frame with
  | none => exact .unsup _
  | some f =>
   refine DS.andThen (.load fun o=>.pure o) fun o=>fH (.pure _) ?_;refine DS.andThen (t6 _ _) fun b=>DS.andThen (zg _ _ _) fun v=>DS.andThen (.upd (fun o=>⟨rfl,by obtain ⟨c,d,dt,sl⟩:=o; cases dt<;>rfl⟩) (.pure ())) fun _=>pB r
theorem qG (env:J_):DS (frameOf env):=by
 unfold frameOf frameEnvs;refine DS.andThen (DS.andThen (.stack fun n=>.pure n) fun _=>.pure _) fun l=>DS.andThen ?_ fun o=>?_
 ·generalize l.dropWhile _=l'
  cases l' with
  | nil => unfold frameObject; exact .pure _
  | cons c r => unfold frameObject; exact DS.andThen (pB _) fun _ => .pure _
 ·cases o with
  | none => exact .unsup _
  | some f => exact .pure _
theorem vL (f:Δ) (b:Bool):DS (entryPlaceOf f b):=by
 unfold entryPlaceOf;refine DS.andThen (.stack fun n=>.pure n) fun l=>?_
 cases l.find? _ with
 | none=>exact .pure _
 | some q=>exact .pure _
theorem pj (a b c d e:ς) (l:List ς):DS (JY a b c d e l):=by
 unfold JY newFields newObj newObjAsIs;generalize ([a,b,c,d,e]++if l.isEmpty then List.replicate 6 GR else l)=vs;dsimp only
 split
 ·exact DS.andThen (.unsup _) fun _=>DS.andThen (.alloc fun n=>.pure n) fun _=>.pure _
 ·exact DS.andThen (.alloc fun n=>.pure n) fun _=>.pure _
theorem gZ (e:ς) (env:J_):DS (noteFrame e env):=by
  unfold noteFrame
  cases env.frame with
  | none => exact .unsup _
  | some f =>
    refine DS.andThen (gY _ _) fun hd=>?_;have tail:DS (do
        let a <- frameOf env
        let pl <- entryPlaceOf f (hd != .none)
        let b <- JY hd a .none (HQ f) .none pl
        L8 e 1 b):=DS.andThen (qG _) fun _=>DS.andThen (vL _ _) fun _=>DS.andThen (pj _ _ _ _ _ _) fun _=>fI _ _ _
    refine fH ?_ tail;refine DS.andThen (gY _ _) fun x=>fH (.pure _) (DS.andThen (fI _ _ _) fun _=>tail)
theorem jR (env:J_) (e:ς):DS (leaving env e):=by
 unfold leaving;exact DS.andThen (gZ _ _) fun _=>eW _ _
end L2
namespace L2
open PySem PySem.Spec PyProof.Rows
structure Exc (g h:E5) (H:Hp) (e C:Δ) (xo:Option Δ):Prop where
 tr:h.Traced g e (.ref C)
 ne:g.get? e=none
 he:H e=none
 hT:∀ oe vs T,h.get? e=some oe->oe.data=.fields vs->vs[1]?=some (.ref T)->H T=none
 dc:∀ dx,xo=some dx->mJ e (some dx) h
noncomputable def CX1 (P:D_) (w:Eh):CXT:=fun outer H s E x s'=>∃ (e C:Δ) (xo:Option Δ) (H':Hp),x=.ref e/\s'.os=s.os/\JH s'.gens/\Un (frs outer) [] H H' s.heap s'.heap/\HOk P w H' s'.heap/\Exc s.heap s'.heap H' e C xo/\E (.ref C) xo H'
section
variable {X:Cx} {pins:List (Δ×GN)} {σ:St} {H:Hp} {s:Ω}
theorem Inv.left {h':E5} {es:List Δ} (I:Inv X pins σ H s) (hs:X.stack=X.env::X.outer) (he:∀ b∈es,H b=none/\X.s₀.heap.get? b=none)
  (keep:∀ b o,s.heap.get? b=some o->b∉frs X.stack->b∉es->h'.get? b=some o) (slot:∀ b o,s.heap.get? b=some o->b∈frs X.stack->∃ sl,h'.get? b=some { o with slots:=sl }):Un X.fs X.ex X.H₀ H X.s₀.heap h'/\HOk X.prog X.w H h':=by
 have sub:∀ b∈X.fs,b∈frs X.stack:=fun b hb=>by
  rw [hs]; unfold frs; rw [G2]
  cases X.env.frame with
  | none => exact hb
  | some f => exact Au _ hb
 have nfr:∀ b u,H b=some u->b∉frs X.stack:=fun b u e z=>by rw [I.stkFree b z] at e; cases e
 have nes:∀ b u,H b=some u->b∉es:=fun b u e z=>by rw [(he b z).1] at e; cases e
 have neL:∀ b o,X.s₀.heap.get? b=some o->b∉X.fs->b∉frs X.stack:=fun b o e hb z=>by
  rcases B_.mp (I.stkSub b z) with q | q
  ·exact absurd (EG (D0 e) (q ▸ I.ok.above)) (Fo _)
  ·exact hb q
 have ne0:∀ b o,X.s₀.heap.get? b=some o->b∉es:=fun b o e z=>by rw [(he b z).2] at e; cases e
 refine ⟨⟨fun b o e n hb hx=>keep b o (I.base.keep b o e n hb hx) (neL b o e hb) (ne0 b o e),fun b o e n hb hx=>?_,I.base.free,fun b o e hx=>?_,I.base.tups,I.base.frzs,I.base.tbls⟩,fun b u e=>?_⟩
 ·obtain ⟨sl,e1⟩:=I.base.slot b o e n hb hx;obtain ⟨sl',e2⟩:=slot b _ e1 (sub b hb);exact ⟨sl',e2⟩
 ·obtain ⟨o',e1⟩:=I.base.there b o e hx;by_cases hf:b∈frs X.stack
  ·obtain ⟨sl,e2⟩:=slot b o' e1 hf;exact ⟨_,e2⟩
  ·exact ⟨o',keep b o' e1 hf (ne0 b o e)⟩
 ·refine (I.hok b u e).stay (fun c v hc q=>?_) (fun _ q=>q) fun _ _ q=>q;rcases hc with z | z
  ·rw [z] at q ⊢; exact keep b v q (nfr b u e) (nes b u e)
  ·exact keep c v q (nfr c _ z) (nes c _ z)
end
theorem aY.get {P:D_} {w:Eh} {H:Hp} {h:E5} {a:Δ} {o:HO} (x:aY P w H h a o):∃ ob,h.get? a=some ob:=by
 cases o with
 | lst xs=>obtain ⟨_,_,_,_,e⟩:=x; exact ⟨_,e⟩
 | tup xs=>obtain ⟨_,_,_,p⟩:=x; obtain ⟨o,e,_⟩:=p; exact ⟨_,e⟩
 | dK kvs=>obtain ⟨_,_,_,_,o,_,_,e,_⟩:=x; exact ⟨_,e⟩
 | dT kvs=>obtain ⟨_,_,_,_,o,_,_,e,_⟩:=x; exact ⟨_,e⟩
 | set S n=>obtain ⟨o,_,_,_,e,_⟩:=x; exact ⟨_,e⟩
 | ins C dx fs=>obtain ⟨_,_,_,e,_⟩:=x; exact ⟨_,e⟩
 | own y=>obtain ⟨_,e⟩:=x; exact ⟨_,e⟩
 | xd fs=>obtain ⟨_,⟨_,_,_,e,_⟩,_⟩:=x; exact ⟨_,e⟩
 | rng lo hi=>obtain ⟨_,_,_,e⟩:=x; exact ⟨_,e⟩
 | frz ob u=>obtain ⟨e,_⟩:=x; exact ⟨_,e⟩
 | tbl ps=>exact ⟨_,(show h.get? a=some _ from x)⟩
 | met f y=>exact ⟨_,(show h.get? a=some _ from x)⟩
 | ext φ=>obtain ⟨_,⟨_,e⟩,_⟩:=x; exact ⟨_,e⟩
theorem HOk.none_of {P:D_} {w:Eh} {H:Hp} {h:E5} {a:Δ} (k:HOk P w H h) (e:h.get? a=none):H a=none:=by
 cases q:H a with
 | none=>rfl
 | some o=>obtain ⟨_,z⟩:=(k a o q).get; rw [e] at z; cases z
section
variable {P:D_} {w:Eh} {K:W.Frag} {mg:Str->Option ς} {base:E5} {N:List Str} {qual:Str} {scope:Hq} {f:Δ} {cd:ς} {A:Eg} {outer:List J_} {s₀:Ω} {H₀:Hp} {E:XK} {pins:List (Δ×GN)} {σ:St} {H:Hp} {s:Ω}
theorem kP {l:List J_} {as:List Δ} (h:∀ b∈frs l,b∈as):∀ env∈l,∀ a,env.frame=some a->a∈as:=fun env he a ha=>h a (Hg.mpr ⟨env,he,ha⟩)
theorem AH {e C:Δ} {xo:Option Δ} {oe:GN} {vs:Array ς} (I1:Inv (dh (CX1 P w) P w K mg base N qual scope f cd A outer s₀ H₀ E) pins σ H s) (he:s.heap.get? e=some oe) (hcl:oe.cls=.ref C) (hda:oe.data=.fields vs) (h1:vs[1]?=some .none)
  (hs0:s₀.heap.get? e=none) (hHe:H e=none) (dc:∀ dx,xo=some dx->oe.dict=some dx) (q:E (.ref C) xo H):(dh (CX1 P w) P w K mg base N qual scope f cd A outer s₀ H₀ E).xe (.ref e) s:=by
 have ff:=I1.stack;have hl:=W.funFrames_hide (as:=e::frs (dh (CX1 P w) P w K mg base N qual scope f cd A outer s₀ H₀ E).stack) ff (kP fun b hb=>Au _ hb);have fin:=wpAny_leaving_first (M:=EH P w) (E:=fun v s'=>CX1 P w outer H₀ s₀ E v s') (base:=W.hideAll s.heap (e::frs (dh (CX1 P w) P w K mg base N qual scope f cd A outer s₀ H₀ E).stack)) (L:=s₀.heap.objs.size) (e:=e) (s:=s) (Q:=fun _ s'=>∃ h2,s'={ s with heap:=h2 }/\Heap.Left (W.hideAll s.heap (e::frs (dh (CX1 P w) P w K mg base N qual scope f cd A outer s₀ H₀ E).stack)) (Iz qual scope s₀.heap.objs.size f cd::outer) e oe.cls s.heap h2) I1.ok.frames hl rfl he (fun b o z=>W.of_hideAll _ z) (W.hideAll_none _ Θ) hda h1 fun h2 lf=>⟨h2,rfl,lf⟩
 refine E8 (DS.any (jR _ _) fin ⟨oe,he,rfl⟩) (fun _ s' ⟨⟨h2,e2,lf⟩,hd2⟩=>?_) fun _ _ z=>z;subst e2;obtain ⟨st,ff2,tr,up⟩:=lf;have lf:=I1.left (h':=h2) (es:=[e]) rfl (fun b hb=>by rw [Ax.mp hb]; exact ⟨hHe,hs0⟩) (fun b o z nf ne=>st b o (W.hideAll_get _ z (by intro m; rcases B_.mp m with r | r; exact ne (by simp [r]); exact nf r)))
  (fun b o z hb=>by
   obtain ⟨_,o',z',hd⟩:=ff.mem hb;rw [z] at z'; cases z';exact up b o z hd)
 obtain ⟨oe',ws,T,oT,ts,g1,g2,g3,g4,g5,g6,g7,g8,g9⟩:=tr;have nT:T∉frs (dh (CX1 P w) P w K mg base N qual scope f cd A outer s₀ H₀ E).stack:=fun z=>by
  obtain ⟨_,o,zo,hd⟩:=ff2.mem z;rw [g7] at zo; cases zo;exact hd ts g8
 have key:∀ o,s.heap.get? T=some o->False:=fun o z=>by
  rw [W.hideAll_get _ z (by intro m; rcases B_.mp m with r | r; exact g6 r; exact nT r)] at g5
  cases g5
 have hT0:s₀.heap.get? T=none:=by
  cases z:s₀.heap.get? T with
  | none => rfl
  | some o => obtain ⟨o', z'⟩ := I1.base.there T o z (by intro q; cases q); exact (key o' z').elim
 have hHT:H T=none:=by
  cases z:H T with
  | none => rfl
  | some o => obtain ⟨o', z'⟩ := (I1.hok T o z).get; exact (key o' z').elim
 refine ⟨e,C,xo,H,rfl,I1.os,I1.bare,lf.1,lf.2,⟨⟨oe',ws,T,oT,ts,g1,g2.trans hcl,g3,g4,hT0,g6,g7,g8,g9⟩,hs0,hHe,fun oe2 vs' T' z1 z2 z3=>?_,fun dx z=>by rw [dc dx z] at hd2; exact hd2⟩,q⟩;rw [g1] at z1; cases z1;rw [g3] at z2; cases z2;rw [g4] at z3; cases z3;exact hHT
theorem fZ {h':E5} {t':Nat} {e C:Δ} {vs:List ς} (I:Inv (dh (CX1 P w) P w K mg base N qual scope f cd A outer s₀ H₀ E) pins σ H s) (hx:LI s.heap h' e (.ref C) vs) (q:E (.ref C) none H) :
  (dh (CX1 P w) P w K mg base N qual scope f cd A outer s₀ H₀ E).xe (.ref e) { s with heap:=h',toks:=t' }:=by
 have I1:=I.kept (t':=t') hx.keeps;obtain ⟨t,he,ht,_⟩:=hx.there
 have hs0:s₀.heap.get? e=none:=by
  cases z:s₀.heap.get? e with
  | none => rfl
  | some o => obtain ⟨o', z'⟩ := I.base.there e o z (by intro q; cases q); rw [hx.new] at z'; cases z'
 exact AH I1 he rfl rfl rfl hs0 (I.hok.none_of hx.new) (fun _ z=>by cases z) q
theorem bZ:eV (CX1 P w) (dh (CX1 P w) P w K mg base N qual scope f cd A outer s₀ H₀ E) E:=by
  intro pins σ H s x s' I h;obtain ⟨e,C,xo,H',rfl,os,bare,un,hok,ex,q⟩:=h;have J:=I.call' (s':=s') (ch:=[]) os un hok bare (fun b hb=>by cases hb);obtain ⟨⟨oe,ws,T,oT,ts,g1,g2,g3,g4,g5,g6,g7,g8,g9⟩,ne,hHe,hHT,dc⟩:=ex;have hHT:=hHT oe ws T g1 g3 g4;have s0:∀ {b:Δ},s.heap.get? b=none->s₀.heap.get? b=none:=fun {b} hb=>by
    cases z:s₀.heap.get? b with
    | none=>rfl
    | some o=>obtain ⟨o',z'⟩:=I.base.there b o z (by intro q; cases q); rw [hb] at z'; cases z'
  have ff:=J.stack;have hl:=W.funFrames_hide (as:=e::T::frs (dh (CX1 P w) P w K mg base N qual scope f cd A outer s₀ H₀ E).stack) ff (kP fun b hb=>Au _ (Au _ hb));have fin:=wpAny_leaving_next (M:=EH P w) (E:=fun v s'=>CX1 P w outer H₀ s₀ E v s') (base:=W.hideAll s'.heap (e::T::frs (dh (CX1 P w) P w K mg base N qual scope f cd A outer s₀ H₀ E).stack)) (L:=s₀.heap.objs.size) (e:=e) (s:=s') (Q:=fun _ s2=>∃ h2,s2={ s' with heap:=h2 }/\Heap.Left (W.hideAll s'.heap (e::T::frs (dh (CX1 P w) P w K mg base N qual scope f cd A outer s₀ H₀ E).stack)) (Iz qual scope s₀.heap.objs.size f cd::outer) e (.ref C) s'.heap h2) J.ok.frames hl rfl
    ⟨oe,ws,T,oT,ts,g1,g2,g3,g4,W.hideAll_none _ (Au _ Θ),g6,g7,g8,g9⟩ (fun b o z=>W.of_hideAll _ z) (W.hideAll_none _ Θ) fun h2 lf=>⟨h2,rfl,lf⟩
  refine E8 (DS.any (jR _ _) fin ⟨oe,g1,rfl⟩) (fun _ s2 ⟨⟨h2,e2,lf⟩,hd2⟩=>?_) fun _ _ z=>z;subst e2;obtain ⟨st,ff2,tr,up⟩:=lf;have lf:=J.left (h':=h2) (es:=[e,T]) rfl (fun b hb=>by
      simp only [B_,Ek,or_false] at hb;rcases hb with rfl | rfl
      · exact ⟨hHe,s0 ne⟩
      · exact ⟨hHT,s0 g5⟩) (fun b o z nf ne=>st b o (W.hideAll_get _ z (by
        intro m;rcases B_.mp m with r | m
        · exact ne (by simp [r])
        · rcases B_.mp m with r | r
          · exact ne (by simp [r])
          · exact nf r)))
      (fun b o z hb=>by
        obtain ⟨_,o',z',hd⟩:=ff.mem hb;rw [z] at z'; cases z';exact up b o z hd)
  obtain ⟨oe2,ws2,T2,oT2,ts2,k1,k2,k3,k4,k5,k6,k7,k8,k9⟩:=tr;have nT:T2∉frs (dh (CX1 P w) P w K mg base N qual scope f cd A outer s₀ H₀ E).stack:=fun z=>by
    obtain ⟨_,o,zo,hd⟩:=ff2.mem z;rw [k7] at zo; cases zo;exact hd ts2 k8
  have hT0:s₀.heap.get? T2=none/\H' T2=none:=by
    by_cases r:T2=T
    · subst r; exact ⟨s0 g5,hHT⟩
    · have key:∀ o,s'.heap.get? T2=some o->False:=fun o z=>by
        rw [W.hideAll_get _ z (by
          intro m;rcases B_.mp m with q | m
          · exact k6 q
          · rcases B_.mp m with q | q
            · exact r q
            · exact nT q)] at k5
        cases k5
      constructor
      · cases z:s₀.heap.get? T2 with
        | none=>rfl
        | some o=>obtain ⟨o',z'⟩:=J.base.there T2 o z (by intro q; cases q); exact (key o' z').elim
      · cases z:H' T2 with
        | none=>rfl
        | some o=>obtain ⟨o',z'⟩:=(J.hok T2 o z).get; exact (key o' z').elim
  refine ⟨e,C,xo,H',rfl,J.os,J.bare,lf.1,lf.2,⟨⟨oe2,ws2,T2,oT2,ts2,k1,k2,k3,k4,hT0.1,k6,k7,k8,k9⟩,s0 ne,hHe,fun oe' vs' T' z1 z2 z3=>?_,fun dx z=>by
      obtain ⟨o,y1,y2⟩:=dc dx z;rw [g1] at y1; cases y1;rw [y2] at hd2; exact hd2⟩,q⟩
  rw [k1] at z1; cases z1;rw [k3] at z2; cases z2;rw [k4] at z3; cases z3;exact hT0.2
end
def rR (C:Δ) (E:XK) (t:TA):TS:=fun _ σ H=>t σ H fun vs H1=>vs.length<=D7/\E (.ref C) none H1
theorem xq {X:Cx} {E:XK} {x:Str} {C:Δ} {B newId initId:String} {bm:List ς} {np cpos pos:HV} {e:FE} {es:List FE} {t:TA} (O:OwnCls x C bm newId X.mg X.base) (FB:ExcBaseFacts B newId initId bm) (hc:X.calm=true) (hg:Gl X x)
  (hx:∀ (pins:List (Δ×GN)) (σ:St) (H:Hp) (s:Ω) (h':E5) (t':Nat) (e:Δ) (vs:List ς),Inv X pins σ H s->LI s.heap h' e (.ref C) vs->E (.ref C) none H->X.xe (.ref e) { s with heap:=h',toks:=t' })
  (ha:PA X (e::es) t) (hd:(x==("__debug__":Str))=false:=by decide) (he:EV (e::es) X.env=(false,F3 e X.env)::EV es X.env:=by rfl) (hpl:(GW cpos (EV es X.env)).any (·.1)=false:=by rfl) :
  PS X (.Raise (some (.Call (.Name x np) (e::es) [] cpos)) none pos) (rR C E t):=by
 intro pins s σ H D I h;obtain ⟨tl,N,nm,q,bs,hdct,sn,sub,ab,col,dd,k0,k1,k2,k3,k5,mN,hC,hN,hni,T⟩:=O.obj;refine wpAny_Raise_call_subT (C:=C) (nm:=nm) (q:=q) (N:=N) (bs:=bs) (bm:=tl) (hdct:=hdct) (sn:=sn) (sub:=sub) (ab:=ab) (col:=col) (dd:=dd) (k0:=k0) (k1:=k1) (k2:=k2) (k3:=k3) (k5:=k5)
  FB (mN:=mN) (T.hasType FB.hasBase) (I.ok.hd hc) (by rw [he]; show (false||(GW cpos (EV es X.env)).any (·.1))=false; rw [hpl]; rfl) hni (d9 I hg O.bound ⟨rfl,?_⟩ hd)
 have h1:=ha cpos pins s σ H _ I h;rw [he] at h1 ⊢;refine HK (E8 h1 (fun us s2 ⟨vs,H2,I2,r2,hl,hE⟩=>⟨rfl,by show us.length<=D7; rw [<- r2.length]; exact hl,I2.bk _ _ hC,hN.keeps I2.bk,T.keeps I2.bk,fun h' a mk=>?_⟩) fun _ _ y=>y);exact hx pins σ H2 s2 h' s2.toks a us I2 mk hE
section
variable {P:D_} {w:Eh} {K:W.Frag} {mg:Str->Option ς} {base:E5}
theorem Fun.ok1 {x qual:Str} {st:Ie} {f:Δ} {fd:FU} {N ps:List Str} {k:Nat} {sp:Sp} (F:Fun K x qual st f fd) (S:aB N ps (ak st)) (len:∀ vs H Q E,sp vs H Q E->vs.length=ps.length)
  (hbody:∀ (cdv:ς) (A:Eg) (outer:List J_) (s:Ω) (H:Hp) (vs:List V) (Q:VK) (E:XK),bF k (A.deeper (Iz qual (ak st) s.heap.objs.size f cdv))->sp vs H Q E ->
   ∃ t,PSs (dh (CX1 P w) P w K mg base N qual (ak st) f cdv A outer s H E) (cj st) t/\t { nx:=fun _ H'=>Q .non H',rt:=Q } (start N vs) H):aW P w K mg base (CX1 P w) (k+1) f fd ps sp:=by
 obtain ⟨oc,od,kV,doc,pm,an,cdv,ct,osl,rfl,lk,hcd⟩:=F.ex;exact vP lk hcd S len fun A outer s H vs Q E hr hsp=>hbody cdv A outer s H vs Q E hr hsp
theorem aW.up {k:Nat} {f:Δ} {fd:FU} {ps:List Str} {sp:Sp} (F:aW P w K mg base CX0 k f fd ps sp):aW P w K mg base (CX1 P w) k f fd ps sp :=
 ⟨F.len,fun A outer s H args us vs Q E hr e0 hb hv hs=>G0 (F.run A outer s H args us vs Q E hr e0 hb hv hs) fun r s' h=>by
  cases r with
  | error e => exact Es h
  | ok fl => cases fl <;> exact h⟩
end
end L2
namespace L2
open PySem PySem.Spec PyProof.Rows PySem.W Builtin Builtin.ObjectAttr Builtin.Getset_descriptor
section
variable {prog:D_} {w:Eh} {A:Eg} {E:ς->Ω->Prop} {s:Ω} {K:W.Frag} {x C:Δ} {R:Kq->Ω->Prop}
theorem ze {tp:ς} (X:K.In s.heap) (LT:Looks (EH prog w) s.heap (typeOf (.ref x)) (.ref C)) (hm:mroIn K C (.type "object")=some true)
  (h:R (.ok (.ret (.ref C))) s):HA (EH prog w) A (.call (.builtin "getset_descriptor.__get__") ⟨[.builtin "object.__class__",.ref x,tp],[]⟩) R s:=by
 have L1:=looks_mroIn (M:=EH prog w) X hm; obtain ⟨hh,g,dr,t,os⟩:=s;refine codeAny_call_builtin KF.slot_gs.plain KF.entry_gs (KF.slot_gs.check _ _ _ _ _ _ _ _ KF.type_class (KF.args_gs _ _ _) ?_); unfold Gw.«getset_descriptor.__get__» descrGet; rw [dga_obj];refine θ (A_ ?_); unfold descrGetter descrCheckInstance descrNameAndClass isInstance; simp only [KF.owner_class]
 repeat lk
 refine ⟨Code.quiet_builtin _ (by decide +kernel),Gz KF.entry_class ?_⟩; unfold Gw.«object.__class__» shownTypeOf
 repeat lk
 exact h
theorem t8 {Q:Option ς->Ω->Prop} (X:K.In s.heap) (LT:Looks (EH prog w) s.heap (typeOf (.ref x)) (.ref C))
  (hga:findIn K (.ref C) "__getattribute__"=some (some (.builtin "BaseException.__getattribute__"))) (hgt:findIn K (.ref C) "__getattr__"=some none)
  (ha:findIn K (.ref C) "__class__"=some (some (.builtin "object.__class__"))) (hn:specialIn K (.builtin "object.__class__") "__get__"=some (some (.builtin "getset_descriptor.__get__"))) (htk:takesIn K (.builtin "object.__class__")=some true)
  (hm:mroIn K C (.type "object")=some true) (hb:mroIn K C (.type "BaseException")=some true)
  (h:Q (some (.ref C)) { s with toks:=s.toks+1 }):EA (EH prog w) A (getAttr? (.ref x) "__class__") Q E s:=by
 obtain ⟨hh,g,d,t,os⟩:=s;have L1:=looks_findIn (M:=EH prog w) X hga;have L2:=looks_findIn (M:=EH prog w) X hgt;have L3:=looks_mroIn (M:=EH prog w) X hb
 have L4:Looks (EH prog w) hh (find (.ref x) (.ref C) "__class__") (.bind (.builtin "getset_descriptor.__get__") (.builtin "object.__class__")):=by
  have a1:=looks_findIn (M:=EH prog w) X ha;have a2:Looks (EH prog w) hh (getOf (some (.builtin "object.__class__"))) (some (.builtin "getset_descriptor.__get__")):=looks_specialIn X hn;have a3:=looks_takesIn (M:=EH prog w) X htk;refine a1.andThen (a2.andThen ?_);have a4:Looks (EH prog w) hh (dataDescriptor? (some (.builtin "object.__class__")) (some (.builtin "getset_descriptor.__get__"))) (some (.builtin "getset_descriptor.__get__",.builtin "object.__class__")):=a3.andThen .now;exact a4.andThen (Looks.tag .now)
 have f3:=(Mp).ga.bind (.ref x);unfold getAttr? getAttrBy? getAttrBy;refine θ (wpAny_mkText (θ (Hl (FW (θ (LT.at (θ (L1.at ?_))))))))
 show EA _ _ (getAttrByItsOwn _ _ _ _ _ _) _ _ _
 unfold getAttrByItsOwn hookBefore;refine θ (L2.at ?_);refine θ (Hl (FW ?_))
 show EA _ _ (boundAndCalled _ _ _) _ _ _
 unfold boundAndCalled;rw [f3];refine θ (A_ (Ic ?_));have hk:builtinKind "BaseException.__getattribute__"=some .slot:=(by decide +kernel); have hsplit:splitId "BaseException.__getattribute__"=some ("BaseException","__getattribute__"):=by decide +kernel
 refine codeAny_call_builtin (Mp).ga.plain F.entry_bexc_ga ?_;have ha:=F.args_bexc_ga (.ref x) (.str "__class__" t);simp only [checkBuiltinCall,hk,hsplit]; refine θ ?_;unfold isInstance;refine θ (LT.at (L3.at ?_));simp only [J8,FI,if_false]; refine wpAny_of_eq (a:=()) ha ?_;unfold Gw.«object.__getattribute__»
 repeat (first | with_reducible refine Ic (ze X LT hm ?_) | lk)
 exact h
end
end L2
namespace L2
open PySem PySem.Spec PyProof.Rows
structure eI (K:W.Frag) (C:Δ):Prop where
 ga:W.findIn K (.ref C) "__getattribute__"=some (some (.builtin "BaseException.__getattribute__"))
 gt:W.findIn K (.ref C) "__getattr__"=some none
 cl:W.findIn K (.ref C) "__class__"=some (some (.builtin "object.__class__"))
 gs:W.specialIn K (.builtin "object.__class__") "__get__"=some (some (.builtin "getset_descriptor.__get__"))
 tk:W.takesIn K (.builtin "object.__class__")=some true
 mo:W.mroIn K C (.type "object")=some true
 mb:W.mroIn K C (.type "BaseException")=some true
theorem eI.cls {K:W.Frag} {C:Δ} (e:eI K C):∃ cd,W.clsIn K C=some cd:=by
 obtain ⟨cd,hc,_⟩:=LS.mp e.mo;exact ⟨cd,hc⟩
def i7 (e C:Δ) (h:E5):Prop:=∃ o,h.get? e=some o/\o.cls=.ref C
theorem i7.looks {e C:Δ} {h:E5} {M:Iq} (p:i7 e C h):PySem.W.Looks M h (typeOf (.ref e)) (.ref C):=by
 obtain ⟨o,h1,h2⟩:=p;rw [<- h2]; exact (PySem.W.Looks.ld h1).andThen .now
def jH (e C:Δ) (xo:Option Δ) (h:E5):Prop:=∃ o vs,h.get? e=some o/\o.cls=.ref C/\o.data=.fields vs/\∀ dx,xo=some dx->o.dict=some dx
theorem jH.at {e C:Δ} {xo:Option Δ} {h:E5} (p:jH e C xo h):i7 e C h:=let ⟨o,_,h1,h2,_⟩:=p; ⟨o,h1,h2⟩
noncomputable def tM (e C:Δ) (xo:Option Δ):HO:=.ext (jH e C xo)
noncomputable abbrev DE (e C:Δ):HO:=tM e C none
theorem v5 {K:W.Frag} {e C:Δ} (x:eI K C):PySem.W.KitX K (.ref e) (.ref C) (i7 e C) where
 ty:=fun _ _ _ p=>i7.looks p
 it:=fun _ _ X _=>by
  obtain ⟨cdD,hcD⟩:=x.cls;unfold W.clsIn at hcD
  split at hcD
  ·rename_i ho;intro A' Q' E' s' k q;unfold isType loadHead;exact θ (wpAny_loadPart (k _ _ (X _ _ ho)) (A_ q))
  ·cases hcD
 ne:=fun h tp dd its n sl X htp=>by
  obtain ⟨cdD,hcD⟩:=x.cls;refine JG.mpr fun q=>?_;have z:=Value.ref.inj (beq_iff_eq.mp q);subst z;unfold W.clsIn at hcD
  split at hcD
  ·rename_i ho;have z:=(X _ _ ho).symm.trans htp
   cases z
  ·cases hcD
 ca:=fun X p k=>t8 X (i7.looks p) x.ga x.gt x.cl x.gs x.tk x.mo x.mb k
def tq (K:W.Frag):List V->Hp->VK->Prop:=fun xs H Q=>∃ e C xo y c b,xs=[.ref e,y]/\H e=some (tM e C xo)/\eI K C/\aL y c/\W.kitOne K (.ref C) c=some b/\Q (.bl b) H
theorem qB {X:Cx}:bM X (.builtin "isinstance") (tq X.K):=by
 intro pins s σ H xs us Q I r h;obtain ⟨e,C,xo,y,c,b,rfl,he,ex,ry,k,q⟩:=h;obtain ⟨u,v,rfl,ru,rv⟩:=r.two
 cases (show u=EB e from ru)
 have hv:v=c:=by
  cases y with
  | ref a => exact (show v = EB a from rv).trans (show c = EB a from ry).symm
  | ty n => exact (show v = Gj n from rv).trans (show c = Gj n from ry).symm
  | non => exact (show v = GR from rv).trans (show c = GR from ry).symm
  | bl z => exact (show v = Im z from rv).trans (show c = Im z from ry).symm
  | int i => obtain ⟨t, rfl⟩ := ry; simp [W.kitOne, W.kitCls] at k
  | str i => obtain ⟨t, rfl⟩ := ry; simp [W.kitOne, W.kitCls] at k
  | byt i => obtain ⟨t, rfl⟩ := ry; simp [W.kitOne, W.kitCls] at k
  | flt i => obtain ⟨t, rfl⟩ := ry; simp [W.kitOne, W.kitCls] at k
 subst hv;have p:i7 e C s.heap:=jH.at (show aY X.prog X.w H s.heap e (.ext (jH e C xo)) from I.hok e _ he).1;exact W.kia_one (v5 ex) I.kIn p k (fun z=>nomatch z) fun tk=>⟨.bl b,H,I.tok tk,rfl,q⟩
theorem cn {X:Cx} (K:W.Frag) (h:X.K=K):bM X (.builtin "isinstance") (tq K):=h ▸ qB
theorem gf {K:W.Frag} {H:Hp} {Q:VK} {e C D:Δ} {xo:Option Δ} {b:Bool} (he:H e=some (tM e C xo)) (x:eI K C) (k:W.kitOne K (.ref C) (.ref D)=some b) (q:Q (.bl b) H):tq K [.ref e,.ref D] H Q :=
 ⟨e,C,xo,.ref D,.ref D,b,rfl,he,x,rfl,k,q⟩
theorem xU {K:W.Frag} {H:Hp} {Q:VK} {e C:Δ} {xo:Option Δ} {n:String} {b:Bool} (he:H e=some (tM e C xo)) (x:eI K C) (k:W.kitOne K (.ref C) (.type n)=some b) (q:Q (.bl b) H):tq K [.ref e,.ty n] H Q :=
 ⟨e,C,xo,.ty n,.type n,b,rfl,he,x,rfl,k,q⟩
section
variable {X:Cx} {pins:List (Δ×GN)} {σ:St} {H:Hp} {s:Ω}
theorem Inv.held {h':E5} {es:List Δ} (I:Inv X pins σ H s) (hs:X.stack=X.env::X.outer) (hf:X.env.frame=some X.env.locals)
  (he:∀ b∈es,H b=none/\X.s₀.heap.get? b=none/\(∀ p∈X.pn++pins,p.1≠b)/\∃ o vs,s.heap.get? b=some o/\o.data=.fields vs)
  (keep:∀ b o,s.heap.get? b=some o->b∉frs X.stack->b∉es->h'.get? b=some o) (slot:∀ b o,s.heap.get? b=some o->b∈frs X.stack->∃ sl,h'.get? b=some { o with slots:=sl }):Inv X pins σ H { s with heap:=h' }:=by
 have lf:=I.left hs (fun b hb=>⟨(he b hb).1,(he b hb).2.1⟩) keep slot;have inL:X.env.locals∈frs X.stack:=by rw [hs]; unfold frs; rw [G2,hf]; exact Θ
 have cellK:∀ c v,s.heap.IsCell c v->h'.IsCell c v:=fun c v ⟨o,ho,hd⟩=>by
  by_cases hb:c∈frs X.stack
  ·obtain ⟨sl,q⟩:=slot c o ho hb;exact ⟨_,q,hd⟩
  ·refine ⟨o,keep c o ho hb fun hm=>?_,hd⟩;obtain ⟨_,_,_,o',vs,ho',hd'⟩:=he c hm;rw [ho] at ho'; cases ho'; rw [hd] at hd'; cases hd'
 refine ⟨I.ok,I.os,I.bare,lf.1,?_,fun x c e=>?_,I.free,I.freeC,fun p hp=>?_,lf.2,I.len⟩
 ·obtain ⟨m,⟨o,es',ep,ho,r⟩,hl⟩:=I.loc;obtain ⟨sl,hL⟩:=slot _ o ho inL;refine ⟨m,⟨_,es',ep,hL,r⟩,fun i x v e1 e2 e3=>?_⟩;obtain ⟨u,ru,l⟩:=hl i x v e1 e2 e3;refine ⟨u,ru,?_⟩;rcases l with l | ⟨k,c,e,z⟩
  ·exact .inl l
  ·exact .inr ⟨k,c,e,cellK c _ z⟩
 ·obtain ⟨v,z⟩:=I.cell x c e;exact ⟨v,cellK c v z⟩
 ·obtain ⟨e,n,ne,nf,d⟩:=I.pin p hp;refine ⟨keep p.1 p.2 e (fun z=>?_) fun z=>(he p.1 z).2.2.1 p hp rfl,n,ne,nf,d⟩;rcases B_.mp (I.stkSub p.1 z) with q | q
  ·exact ne q
  ·exact nf q
theorem Inv.track {e:Δ} {φ:E5->Prop} (I:Inv X pins σ H s) (hH:H e=none) (h0:X.s₀.heap.get? e=none) (hp:∀ p∈X.pn++pins,p.1≠e) (hd:∃ o vs,s.heap.get? e=some o/\o.data=.fields vs)
    (hφ:φ s.heap) (st:∀ h1 h2:E5,φ h1->(∀ o,h1.get? e=some o->h2.get? e=some o)->φ h2):Inv X pins σ (upd H e (.ext φ)) s:=by
  obtain ⟨oe,vs,ho,hdd⟩:=hd;have ne:∀ b u,H b=some u->b≠e:=fun b u z=>aC z hH;have n0:∀ b o,X.s₀.heap.get? b=some o->b≠e:=fun b o z q=>by rw [q,h0] at z; cases z
  have nH0:∀ b u,X.H₀ b=some u->H b≠none->b≠e:=fun b u _ z q=>z (q ▸ hH);refine ⟨I.ok,I.os,I.bare,⟨I.base.keep,I.base.slot,fun b o z n hx=>?_,I.base.there,fun b xs z=>?_,fun b o u z=>?_,fun b ps z=>?_⟩,I.loc,I.cell,?_,fun x c z=>?_,fun p hp'=>?_,fun b u z=>?_,I.len⟩
  · rw [ai (n0 b o z)]; exact I.base.free b o z n hx
  · have q:=I.base.tups b xs z
    rw [ai (ne _ _ q)]; exact q
  · have q:=I.base.frzs b o u z
    rw [ai (ne _ _ q)]; exact q
  · obtain ⟨m,q⟩:=I.base.tbls b ps z
    exact ⟨m,by rw [ai (ne _ _ q)]; exact q⟩
  · have q:X.env.locals≠e:=fun q=>by
      obtain ⟨m,⟨o',es,ep,ho',hd',_⟩,_⟩:=I.loc;rw [q,ho] at ho'; cases ho'; rw [hdd] at hd'; cases hd'
    rw [ai q]; exact I.free
  · have q:c≠e:=fun q=>by
      obtain ⟨v,o',ho',hd'⟩:=I.cell x c z;rw [q,ho] at ho'; cases ho'; rw [hdd] at hd'; cases hd'
    rw [ai q]; exact I.freeC x c z
  · obtain ⟨a,n,r⟩:=I.pin p hp'
    exact ⟨a,by rw [ai (hp p hp')]; exact n,r⟩
  · by_cases q:b=e
    · subst q
      rw [ag] at z
      cases z;exact ⟨hφ,⟨oe,ho⟩,st⟩
    · rw [ai q] at z
      refine (I.hok b u z).stay (fun _ _ _ w=>w) (fun c w=>?_) fun c xs w=>?_
      · rw [ai (ne _ _ w)]; exact w
      · rw [ai (ne _ _ w)]; exact w
end
noncomputable abbrev Cx.tryIn (X:Cx) (pins:List (Δ×GN)) (E:ς->Ω->Prop):Cx:={ X with pn:=X.pn++pins,xe:=E }
section
variable {X:Cx} {pins pins':List (Δ×GN)} {σ:St} {H:Hp} {s:Ω} {E:ς->Ω->Prop}
theorem Cx.Ok.tryIn (ok:X.Ok):(X.tryIn pins E).Ok :=
 ⟨ok.mod,ok.kind,ok.glob,ok.blt,ok.above,ok.inj,ok.has,ok.cab,ok.hd,ok.frames,ok.stk,ok.exf,ok.bs,ok.bsz,ok.noex,ok.exfs,ok.funs,ok.frf⟩
theorem Cx.Ok.tryOut (ok:(X.tryIn pins E).Ok):X.Ok :=
 ⟨ok.mod,ok.kind,ok.glob,ok.blt,ok.above,ok.inj,ok.has,ok.cab,ok.hd,ok.frames,ok.stk,ok.exf,ok.bs,ok.bsz,ok.noex,ok.exfs,ok.funs,ok.frf⟩
theorem Inv.tryIn (I:Inv X pins σ H s) (E:ς->Ω->Prop):Inv (X.tryIn pins E) [] σ H s :=
 ⟨I.ok.tryIn,I.os,I.bare,I.base,I.loc,I.cell,I.free,I.freeC,fun p hp=>I.pin p (by simpa using hp),I.hok,I.len⟩
theorem Inv.tryOut (I:Inv (X.tryIn pins E) pins' σ H s):Inv X pins σ H s :=
 ⟨I.ok.tryOut,I.os,I.bare,I.base,I.loc,I.cell,I.free,I.freeC,fun p hp=>I.pin p (Ea _ hp),I.hok,I.len⟩
theorem SP.tryOut {D:cO} {f:Flow} {s':Ω} (h:SP (X.tryIn pins E) pins' D f s'):SP X pins D f s':=by
 cases f with
 | next=>obtain ⟨σ',H',I,q⟩:=h; exact ⟨σ',H',I.tryOut,q⟩
 | brk=>obtain ⟨σ',H',I,q⟩:=h; exact ⟨σ',H',I.tryOut,q⟩
 | cont=>obtain ⟨σ',H',I,q⟩:=h; exact ⟨σ',H',I.tryOut,q⟩
 | ret u=>obtain ⟨v,σ',H',I,r,q⟩:=h; exact ⟨v,σ',H',I.tryOut,r,q⟩
end
def XT (X:Cx) (pins:List (Δ×GN)) (ET:St->XK):ς->Ω->Prop:=fun x s'=>∃ (σ:St) (e C:Δ) (xo:Option Δ) (H':Hp),x=.ref e/\Inv X pins σ H' s'/\Exc X.s₀.heap s'.heap H' e C xo /\
 (∀ p∈X.pn++pins,p.1≠e/\∀ oe vs T,s'.heap.get? e=some oe->oe.data=.fields vs->vs[1]?=some (.ref T)->p.1≠T)/\ET σ (.ref C) xo H'
def mK (CX:CXT) (X:Cx) (ET:St->XK):Prop:=∀ (pins:List (Δ×GN)) (σ:St) (H:Hp) (s:Ω) (e:ς) (s':Ω),Inv X pins σ H s->CX X.stack H s (ET σ) e s'->X.xe e s'
theorem C1 {X:Cx} {pins:List (Δ×GN)} {ET:St->XK} (hx:X.ex=[]:=by rfl):mK (CX1 X.prog X.w) (X.tryIn pins (XT X pins ET)) ET:=by
 intro pins' σ H s x s' I h;obtain ⟨e,C,xo,H',rfl,os,bare,un,hok,ex,q⟩:=h;have J:=I.call' (s':=s') (ch:=[]) os un hok bare (fun b hb=>by cases hb);obtain ⟨⟨oe,ws,T,oT,ts,g1,g2,g3,g4,g5,g6,g7,g8,g9⟩,ne,hHe,hHT,dc⟩:=ex;have s0:∀ {b:Δ},s.heap.get? b=none->X.s₀.heap.get? b=none:=fun {b} hb=>by
  cases z:X.s₀.heap.get? b with
  | none => rfl
  | some o => obtain ⟨o', z'⟩ := I.base.there b o z (by show b ∉ X.ex; rw [hx]; simp); rw [hb] at z'; cases z'
 refine ⟨σ,e,C,xo,H',rfl,J.tryOut,⟨⟨oe,ws,T,oT,ts,g1,g2,g3,g4,s0 g5,g6,g7,g8,g9⟩,s0 ne,hHe,hHT,dc⟩,fun p hp=>?_,q⟩;have hp':=(I.pin p (Ea _ hp)).1;refine ⟨fun z=>(by rw [z,ne] at hp'; cases hp'),fun oe' vs' T' z1 z2 z3 z=>?_⟩;rw [g1] at z1; cases z1;rw [g3] at z2; cases z2;rw [g4] at z3; cases z3;rw [z,g5] at hp'
 cases hp'
def yG (sp:Sp) (dvs:List V) (ET:St->XK) (t:TA):TE:=fun σ H Q=>t σ H fun vs H1=>sp (vs++dvs) H1 Q (ET σ)
section
variable {X:Cx} {CX:CXT} {k:Nat} {f C:Δ} {fd:FU} {ps:List Str} {sp:Sp} {dvs:List V} {ds:List ς} {ET:St->XK} {x m:Str} {p pos apos:HV} {e o:FE} {es:List FE} {ta:TE} {t:TA}
theorem Ao {pins:List (Δ×GN)} {σ:St} {H:Hp} {s:Ω} {Q:VK} {us:List ς} {vs:List V} (F:aW X.prog X.w X.K X.mg X.base CX k f fd ps sp) (hr:bF k X.A) (hb:aI X.K fd ps ds) (hd:Vals dvs ds) (hx:mK CX X ET)
  (I:Inv X pins σ H s) (r:Vals vs us) (h:sp (vs++dvs) H Q (ET σ)):EA (EH X.prog X.w) X.A (call (.ref f) us) (EP X pins σ Q) X.xe s:=by
 have r2:Vals (vs++dvs) (us++ds):=r.append hd;have hl:(us++ds).length=ps.length:=by rw [<- r2.length]; exact F.len _ _ _ _ h
 refine Ic (G0 (F.run X.A X.stack s H ⟨us,[]⟩ (us++ds) (vs++dvs) Q (ET σ) hr I.env0 (hb s us I.kIn hl) r2 h) fun r s' hq=>?_)
 cases r with
 | error e=>exact hx pins σ H s e s' I hq
 | ok fl =>
  cases fl with
  | ret u => exact I.after hq
  | next => exact Es hq
  | brk => exact Es hq
  | cont => exact Es hq
theorem wV (F:aW X.prog X.w X.K X.mg X.base CX k f fd ps sp) (hr:bF k X.A) (hg:Gl X x) (hm:X.mg x=some (.ref f)) (hk:W.keepIn X.K (.ref f)=true) (hb:aI X.K fd ps ds) (hd:Vals dvs ds) (hx:mK CX X ET)
  (ha:PA X (e::es) t) (hdb:(x==("__debug__":Str))=false:=by decide) (he:EV (e::es) X.env=(false,F3 e X.env)::EV es X.env:=by rfl) (hpl:(GW pos (EV es X.env)).any (·.1)=false:=by rfl) :
  PE X (.Call (.Name x p) (e::es) [] pos) (yG sp dvs ET t):=by
 intro pins s σ H Q I h;refine Fz (d9 I hg hm ?_ hdb);refine W.callWith_K (h₀:=X.base) I.ok.mod.kin hk (thn (ha pos pins s σ H _ I h) fun us s1 ⟨vs,H1,I1,r,q⟩=>⟨I1.kIn,?_⟩) he hpl;exact Ao F hr hb hd hx I1 r q
end
section
variable {σ:St} {H:Hp} {Q:VK}
theorem xE {sp:Sp} {dvs:List V} {ET:St->XK} {t:TA} (h:t σ H fun vs H1=>sp (vs++dvs) H1 Q (ET σ)):yG sp dvs ET t σ H Q:=h
end
noncomputable abbrev Cx.suite (X:Cx) (e:Δ):Cx:={ X with A:=X.A.mark (some (.ref e)),calm:=false,xe:=fun _ _=>False }
section
variable {X:Cx} {pins:List (Δ×GN)} {σ:St} {H:Hp} {s:Ω} {e:Δ}
theorem Cx.Ok.suite (ok:X.Ok):(X.suite e).Ok :=
 ⟨ok.mod,ok.kind,ok.glob,ok.blt,ok.above,ok.inj,ok.has,ok.cab,fun z=>Bool.noConfusion z,ok.frames,ok.stk,ok.exf,ok.bs,ok.bsz,ok.noex,ok.exfs,ok.funs,ok.frf⟩
theorem Inv.suite (I:Inv X pins σ H s):Inv (X.suite e) pins σ H s:=⟨I.ok.suite,I.os,I.bare,I.base,I.loc,I.cell,I.free,I.freeC,I.pin,I.hok,I.len⟩
theorem Inv.unsuite (ok:X.Ok) (I:Inv (X.suite e) pins σ H s):Inv X pins σ H s:=⟨ok,I.os,I.bare,I.base,I.loc,I.cell,I.free,I.freeC,I.pin,I.hok,I.len⟩
end
noncomputable def Dh (i:Nat) (D:cO):cO:={ nx:=fun σ H=>D.nx (σ.set i none) H,rt:=D.rt,bk:=fun σ H=>D.bk (σ.set i none) H,ct:=fun σ H=>D.ct (σ.set i none) H }
def Bk (K:W.Frag) (S:Δ) (i:Nat) (ts:TS) (D:cO):St->XK:=fun σ cls xo H1=>∃ C,cls=.ref C/\W.exmOne K (.ref C) (.ref S)=some true/\∀ e,H1 e=none->ts (Dh i D) (σ.set i (some (.ref e))) (upd H1 e (tM e C xo))
def Dz (K:W.Frag) (S:Δ) (i:Nat) (tb:(St->XK)->TS) (ts:TS):TS:=fun D σ H=>tb (Bk K S i ts D) D σ H
theorem js {X:Cx} {pins:List (Δ×GN)} {σ:St} {H:Hp} {s:Ω} {M:Iq} {A:Eg} {E:ς->Ω->Prop} {i:Nat} {n:Str} {pos:HV} {Q:Unit->Ω->Prop} (I:Inv X pins σ H s) (hN:X.N.Nodup) (hi:X.N[i]?=some n)
  (hk:X.env.kindOf n=some .local) (h:∀ s',Inv X pins (σ.set i none) H s'->Q () s'):EA M A (do bindName X.env n .none; unbindBehindTheSuite X.env n pos) Q E s:=by
 obtain ⟨m,hn,hl⟩:=id I.loc;have hcls:(X.env.scope.kind==.class||(X.env.scope.kind==.module&&X.env.locals != X.env.globals))=false:=by rw [I.ok.kind]; rfl
 have cne:=I.cne;refine wpAny_nameGoes_keeps hk hn hcls fun h' v hn' hs=>h _ ?_;obtain ⟨oL,_,_,hoL,_⟩:=id hn;have hk':HOk X.prog X.w H h':=fun b ob e=>by
  refine (I.hok b ob e).stay (fun c w' hc q=>(hs.2 c ?_).trans q) (fun _ q=>q) fun _ _ q=>q;rintro rfl;rcases hc with rfl | hc
  ·rw [I.free] at e; cases e
  ·rw [I.free] at hc; cases hc
 have nL:∀ b o,X.s₀.heap.get? b=some o->b≠X.env.locals:=fun b o e=>D5 (EG (D0 e) I.ok.above);refine ⟨I.ok,I.os,I.bare,⟨fun b o e n hb hx=>(hs.2 b (nL b o e)).trans (I.base.keep b o e n hb hx),fun b o e n hb hx=>?_,I.base.free,fun b o e hx=>?_,I.base.tups,I.base.frzs,I.base.tbls⟩,⟨_,hn',fun j y v' e1 e2 e3=>?_⟩,fun y c e=>?_,I.free,I.freeC,fun p hp=>?_,hk',by simpa using I.len⟩
 ·obtain ⟨sl,e1⟩:=I.base.slot b o e n hb hx;exact ⟨sl,(hs.2 b (nL b o e)).trans e1⟩
 ·obtain ⟨o',e1⟩:=I.base.there b o e hx;exact ⟨o',(hs.2 b (nL b o e)).trans e1⟩
 ·by_cases hj:j=i
  ·subst hj;have hiσ:j<σ.length:=by rw [I.len]; exact (Aw.mp hi).1
   rw [Ht hiσ] at e2
   cases e2
  ·rw [Jq (FH hj)] at e2;obtain ⟨u',r',q⟩:=hl j y v' e1 e2 e3;refine ⟨u',r',?_⟩;rcases q with ⟨k,e⟩ | ⟨k,c,e,z⟩
   ·refine .inl ⟨k,?_⟩;have:y≠n:=fun e=>hj (j2 hN e1 (e ▸ hi))
    simp [this,e]
   ·exact .inr ⟨k,c,e,z.sameBut hs (cne y c e)⟩
 ·obtain ⟨w',z⟩:=I.cell y c e;exact ⟨w',z.sameBut hs (cne y c e)⟩
 ·obtain ⟨e,n,ne,nf,d⟩:=I.pin p hp;exact ⟨(hs.2 p.1 ne).trans e,n,ne,nf,d⟩
theorem B2 {X:Cx} {i:Nat} {n x:Str} {S:Δ} {body suite:List Ie} {b₀:Ie} {np hpos pos:HV} {tb:(St->XK)->TS} {ts:TS} (hN:X.N.Nodup) (hi:X.N[i]?=some n) (hk:X.env.kindOf n=some .local)
  (hg:Gl X x) (hm:X.mg x=some (.ref S)) (hb:∀ pins ET,PSs (X.tryIn pins (XT X pins ET)) body (tb ET)) (hh:∀ e,PSs (X.suite e) (b₀::suite) ts)
  (hs:X.stack=X.env::X.outer:=by rfl) (hf:X.env.frame=some X.env.locals:=by rfl) (hd:(x==("__debug__":Str))=false:=by decide) :
  PS X (.Try body [.ExceptHandler (some (.Name x np)) (some n) (b₀::suite) hpos] [] [] pos) (Dz X.K S i tb ts):=by
 intro pins s σ H D I h;refine wpAny_Try_except (E8 (hb pins (Bk X.K S i ts D) [] s σ H D (I.tryIn _) h) (fun f s1 q=>?_) (fun y s1 q=>?_))
 ·have q:=q.tryOut
  cases f with
  | next =>
   obtain ⟨σ',H',I',q'⟩:=q;exact aM pins s1 σ' H' D I' q'
  | brk => exact q
  | cont => exact q
  | ret u => exact q
 ·obtain ⟨σ1,e,C,xo,H1,rfl,I1,ex,hp,C',hC,hx',k⟩:=q
  cases hC;obtain ⟨⟨oe,ws,T,oT,tl,g1,g2,g3,g4,g5,g6,g7,g8,g9⟩,ne,hHe,hHT,dc⟩:=ex;have hHT:=hHT oe ws T g1 g3 g4;obtain ⟨a0,h0⟩:∃ a0,ws[0]?=some a0:=by
   have hsz:1<ws.size:=(LB.mp g4).1;exact ⟨ws[0],by simp [show 0<ws.size by omega]⟩
  have ff:=I1.stack;have hl:=W.funFrames_hide (as:=e::T::frs X.stack) ff (kP fun b hb=>Au _ (Au _ hb))
  have fl:Lx (W.hideAll s1.heap (e::T::frs X.stack)) (X.env::X.outer) e (.ref C) a0 s1.heap :=
   ⟨fun b o z=>W.of_hideAll _ z,W.hideAll_none _ Θ,hs ▸ hl,⟨oe,ws,T,oT,tl,g1,⟨g2,h0⟩,g3,g4,W.hideAll_none _ (Au _ Θ),g6,g7,g8,g9⟩⟩
  have stay:∀ h',Heap.StaysIn (W.hideAll s1.heap (e::T::frs X.stack)) h'->s1.heap.UpToSlots h'->Inv X pins σ1 H1 { s1 with heap:=h' }:=fun h' st sm=>by
   refine I1.held (es:=[e,T]) hs hf (fun b hb=>?_) (fun b o z nf nm=>st b o (W.hideAll_get _ z ?_)) fun b o z hb=>?_
   ·simp only [B_,Ek,or_false] at hb;rcases hb with rfl | rfl
    ·exact ⟨hHe,ne,fun p hq=>(hp p hq).1,oe,ws,g1,g3⟩
    ·exact ⟨hHT,g5,fun p hq=>(hp p hq).2 oe ws _ g1 g3 g4,oT,tl,g7,g8⟩
   ·intro m;rcases B_.mp m with r | m
    ·exact nm (by simp [r])
    ·rcases B_.mp m with r | r
     ·exact nm (by simp [r])
     ·exact nf r
   ·obtain ⟨_,o',z',hd'⟩:=ff.mem hb;rw [z] at z'; cases z';exact sm b o z hd'
  refine E8 (DS.any (gZ _ _) (wpAny_looks_onW (Q:=fun _ s2=>∃ h4,s2={ s1 with heap:=h4 }/\Heap.HeldW (W.hideAll s1.heap (e::T::frs X.stack)) (X.env::X.outer) e (.ref C) a0 X.env.locals h4/\s1.heap.UpToSlots h4) (I1.ok.frames.trans (congrArg some hs)) hf fl fun h4 held sm4=>⟨h4,rfl,held,sm4⟩) ⟨oe,g1,rfl⟩) (fun _ s2 ⟨⟨h4,e4,held,sm4⟩,d4⟩=>?_) fun _ _ z=>z;subst e4;refine E8 (DS.any (eW _ _) (wpAny_landsW (s:={ s1 with heap:=h4 }) (Q:=fun _ s2=>∃ h5,s2={ s1 with heap:=h5 }/\Lx (W.hideAll s1.heap (e::T::frs X.stack)) (X.env::X.outer) e (.ref C) a0 h5/\h4.UpToSlots h5) held fun h5 fl5 sm5=>⟨h5,rfl,fl5,sm5⟩) d4) (fun _ s2 ⟨⟨h5,e5,fl5,sm5⟩,d5⟩=>?_) fun _ _ z=>z;subst e5;have I5:=stay h5 fl5.1 (sm4.trans sm5);refine wpAny_handleBy_cons (codeAny_handlers_test (d9 (X:=X.suite e) I5.suite hg hm ?_ hd)) (by intro q; cases q);have LT:PySem.W.Looks (EH X.prog X.w) h5 (typeOf (.ref e)) (.ref C):=i7.looks fl5.there;refine (W.exm_one (h:=h5) I5.kIn LT hx').here ?_;refine codeAny_handlers_suite_as ?_;refine E8 (DS.any (eW _ _) (lands_againW (s:={ s1 with heap:=h5 }) (Q:=fun _ s2=>∃ h6,s2={ s1 with heap:=h6 }/\Lx (W.hideAll s1.heap (e::T::frs X.stack)) (X.env::X.outer) e (.ref C) a0 h6/\h5.UpToSlots h6) fl5 fun h6 fl6 sm6=>⟨h6,rfl,fl6,sm6⟩) d5) (fun _ s2 ⟨⟨h6,e6,fl6,sm6⟩,d6⟩=>?_) fun _ _ z=>z;subst e6;have I6:=stay h6 fl6.1 ((sm4.trans sm5).trans sm6);obtain ⟨oe6,ws6,z1,z2,z3,_⟩:=fl6.first;have dc6:∀ dx,xo=some dx->oe6.dict=some dx:=fun dx z=>by
   obtain ⟨o,y1,y2⟩:=dc dx z;rw [g1] at y1; cases y1;obtain ⟨o,y3,y4⟩:=d6;rw [show ({ s1 with heap:=h6 }:Ω).heap=h6 from rfl,z1] at y3; cases y3;rw [y4,y2]
  have I7:Inv X pins σ1 (upd H1 e (tM e C xo)) { s1 with heap:=h6 }:=I6.track hHe ne (fun p hq=>(hp p hq).1) ⟨oe6,ws6,z1,z3⟩ ⟨oe6,ws6,z1,z2,z3,dc6⟩ fun ha hb ⟨o,vs,p1,p2⟩ kk=>⟨o,vs,kk o p1,p2⟩
  refine iL (X:=X.suite e) (v:=.ref e) I7.suite hN hi (.inl hk) rfl (fun s8 I8=>?_) (.inr hk);refine E8 (hh e pins s8 _ _ (Dh i D) I8 (k e hHe)) (fun f s9 q=>?_) fun _ _ z=>Es z
  show EA _ _ _ _ _ _
  cases f with
  | next =>
   obtain ⟨σ',H',I',q'⟩:=q;exact js (I'.unsuite I.ok) hN hi hk fun s' J=>⟨_,H',J,q'⟩
  | brk =>
   obtain ⟨σ',H',I',q'⟩:=q;exact js (I'.unsuite I.ok) hN hi hk fun s' J=>⟨_,H',J,q'⟩
  | cont =>
   obtain ⟨σ',H',I',q'⟩:=q;exact js (I'.unsuite I.ok) hN hi hk fun s' J=>⟨_,H',J,q'⟩
  | ret u =>
   obtain ⟨v,σ',H',I',r,q'⟩:=q;exact js (I'.unsuite I.ok) hN hi hk fun s' J=>⟨v,_,H',J,r,q'⟩
structure dG (k:Nat) (A:Eg):Prop where
 dp:A.depth+3*k+5<recursionLimit
 un:A.units+16*k+200<Ho
theorem bF.q {k:Nat} {A:Eg} (r:bF k A):dG k A:=⟨r.dp,r.un⟩
theorem dG.mono {j k:Nat} {A:Eg} (r:dG k A) (h:j<=k):dG j A:=⟨by have:=r.dp; omega,by have:=r.un; omega⟩
theorem dG.deeper {k:Nat} {A:Eg} (r:dG (k+1) A) (env:J_):dG k (A.deeper env) :=
 ⟨by have:=r.dp; show A.depth+1+3*k+5<_; omega,by have:=r.un; show A.units+3+16*k+200<_; omega⟩
theorem dG.mark {k:Nat} {A:Eg} {v:Option ς} (r:dG k A):dG k (A.mark v):=⟨r.dp,r.un⟩
structure vt (P:D_) (w:Eh) (K:W.Frag) (mg:Str->Option ς) (base:E5) (k:Nat) (f:Δ) (fd:FU) (ps:List Str) (sp:Sp):Prop where
 len:∀ vs H Q E,sp vs H Q E->vs.length=ps.length
 run:∀ (A:Eg) (outer:List J_) (s:Ω) (H:Hp) (args:Args) (us:List ς) (vs:List V) (Q:VK) (E:XK),dG k A->oB P w K mg base A outer s H->L0 s fd args (ps.zip us)->Vals vs us->sp vs H Q E ->
  HA (EH P w) A (.call (.ref f) args) (CR CX0 outer P w H s Q E) s
noncomputable abbrev Cx.quiet (X:Cx):Cx:={ X with calm:=false }
section
variable {P:D_} {w:Eh} {K:W.Frag} {mg:Str->Option ς} {base:E5}
theorem Fun.okQ {x qual:Str} {st:Ie} {f:Δ} {fd:FU} {N ps:List Str} {k:Nat} {sp:Sp} (F:Fun K x qual st f fd) (S:aB N ps (ak st)) (len:∀ vs H Q E,sp vs H Q E->vs.length=ps.length)
  (hbody:∀ (cdv:ς) (A:Eg) (outer:List J_) (s:Ω) (H:Hp) (vs:List V) (Q:VK) (E:XK),dG k (A.deeper (Iz qual (ak st) s.heap.objs.size f cdv))->sp vs H Q E ->
   ∃ t,PSs (dh CX0 P w K mg base N qual (ak st) f cdv A outer s H E).quiet.nox (cj st) t/\t { nx:=fun _ H'=>Q .non H',rt:=Q } (start N vs) H):vt P w K mg base (k+1) f fd ps sp:=by
 obtain ⟨oc,od,kV,doc,pm,an,cdv,ct,osl,rfl,lk,hcd⟩:=F.ex;refine ⟨len,fun A outer s H args us vs Q E hr e0 hb r hsp=>?_⟩;have hl:=len _ _ _ _ hsp;have KX:K.In s.heap:=e0.mod.kin.keeps fun b o e=>(e0.bs b o e).1;have lim:s.heap.NoLimit:=e0.mod.nolimit.keeps fun b o e=>(e0.bs b o e).1;have hkind:∀ y∈ps.zip us,(ak st).names.lookup y.1=some .local\/((ak st).names.lookup y.1=some .cell/\((Ma (s.heap.objs.size+1) (ak st).names []).lookup y.1).isSome=true):=fun ⟨n,v⟩ hy=>by
  rcases S.par n (Jb hy).1 with q | q
  ·exact .inl q
  ·exact .inr ⟨q,W.cellsFrom_some _ _ _ (.inl q)⟩
 refine codeAny_call_function (by have:=hr.dp; omega) (KX _ _ lk) rfl S.co S.gen rfl (W.codeRec_of KX hcd) (hb _ _ _ _ ?_);refine L7 S.kind hkind fun env he s1 x=>?_;subst he;refine ⟨lim.keeps x.toInCall.keep,codeAny_func ?_⟩;obtain ⟨t,ht,hq⟩:=hbody cdv A outer s H vs Q E (hr.deeper _) hsp;have I0:Inv (dh CX0 P w K mg base N qual (ak st) f cdv { A with handled:=none } outer s H E) [] (start N vs) H s1:=lY S rfl ⟨e0.frames,e0.mod,e0.bs,e0.bsz,e0.funs,e0.frf,e0.hok,e0.bare⟩ hl r x
 have I:Inv (dh CX0 P w K mg base N qual (ak st) f cdv A outer s H E).quiet.nox [] (start N vs) H s1 :=
  ⟨⟨I0.ok.mod,I0.ok.kind,I0.ok.glob,I0.ok.blt,I0.ok.above,I0.ok.inj,I0.ok.has,I0.ok.cab,fun z=>Bool.noConfusion z,I0.ok.frames,I0.ok.stk,I0.ok.exf,I0.ok.bs,I0.ok.bsz,I0.ok.noex,I0.ok.exfs,I0.ok.funs,I0.ok.frf⟩,I0.os,I0.bare,I0.base,I0.loc,I0.cell,I0.free,I0.freeC,I0.pin,I0.hok,I0.len⟩
 refine E8 (ht [] s1 (start N vs) H _ I hq) (fun fl s' hs=>?_) fun e s' hs=>Es hs
 have fin:∀ {σ':St} {H':Hp} {v:V} {u:ς},Inv (dh CX0 P w K mg base N qual (ak st) f cdv A outer s H E).quiet.nox [] σ' H' s'->aL v u->Q v H'->CE outer P w H s Q u s' :=
  fun {σ' H' v u} J rv q=>⟨v,H',J.os,J.bare,J.base,J.hok,rv,q⟩
 cases fl with
 | ret u =>
  obtain ⟨v,σ',H',J,rv,q⟩:=hs;exact fin J rv q
 | next =>
  obtain ⟨σ',H',J,q⟩:=hs;exact fin (v:=V.non) (u:=GR) J rfl q
 | brk =>
  obtain ⟨_,_,_,q⟩:=hs;exact Es q
 | cont =>
  obtain ⟨_,_,_,q⟩:=hs;exact Es q
end
section
variable {X:Cx} {k:Nat} {f C:Δ} {fd:FU} {ps:List Str} {sp:Sp} {dvs:List V} {ds:List ς} {x m:Str} {p pos apos:HV} {e o:FE} {es:List FE} {ta:TE} {t:TA}
theorem wU (F:vt X.prog X.w X.K X.mg X.base k f fd ps sp) (hr:dG k X.A) (hg:Gl X x) (hm:X.mg x=some (.ref f)) (hk:W.keepIn X.K (.ref f)=true) (hb:aI X.K fd ps ds) (hd:Vals dvs ds)
  (ha:PA X (e::es) t) (hdb:(x==("__debug__":Str))=false:=by decide) (he:EV (e::es) X.env=(false,F3 e X.env)::EV es X.env:=by rfl) (hpl:(GW pos (EV es X.env)).any (·.1)=false:=by rfl) :
  PE X (.Call (.Name x p) (e::es) [] pos) (tF sp dvs E0 t):=by
 intro pins s σ H Q I h;refine Fz (d9 I hg hm ?_ hdb);refine W.callWith_K (h₀:=X.base) I.ok.mod.kin hk (thn (ha pos pins s σ H _ I h) fun us s1 ⟨vs,H1,I1,r,q⟩=>⟨I1.kIn,?_⟩) he hpl;have r2:Vals (vs++dvs) (us++ds):=r.append hd;have hl:(us++ds).length=ps.length:=by rw [<- r2.length]; exact F.len _ _ _ _ q
 refine Ic (G0 (F.run X.A X.stack s1 H1 ⟨us,[]⟩ (us++ds) (vs++dvs) Q E0 hr I1.env0 (hb s1 us I1.kIn hl) r2 q) fun r s' hq=>?_)
 cases r with
 | error e=>exact Es hq
 | ok fl =>
  cases fl with
  | ret u => exact I1.after hq
  | next => exact Es hq
  | brk => exact Es hq
  | cont => exact Es hq
end
theorem iS {K:W.Frag} {A S:Δ} (bs:W.subIn K (.ref S) (.type "BaseException")=some true) (mo:W.mroIn K S (.type "object")=some true) (ty:W.typeIn K (.ref S)=some (.type "type"))
  (sb:W.subIn K (.ref A) (.ref S)=some true):W.exmOne K (.ref A) (.ref S)=some true:=by
 obtain ⟨cd,hc,_⟩:=LS.mp mo;simp only [W.exmOne,W.kitCls];simp [bs,hc,ty,sb]
theorem BW {K:W.Frag} {h:E5} {mg:Str->Option ς} {x:Str} {C:Δ} {bmB:List ς} {newId:String} (X:K.In h) (hm:mg x=some (.ref C)) (q:W.excIn K C bmB newId=true):OwnCls x C bmB newId mg h:=by
 refine ⟨hm,?_⟩;simp only [W.excIn] at q
 split at q
 case h_2=>cases q
 case h_1 dd cd sl ho =>
  split at q
  case h_2=>cases q
  case h_1 C' bm k0 k1 k2 k3 n k5 hmr hsl =>
   simp only [Eu,beq_iff_eq,Bool.not_eq_true'] at q;obtain ⟨⟨⟨⟨⟨e1,e2⟩,hdel⟩,ht⟩,hok⟩,hni⟩:=q;subst e1 e2;have hh:=X _ _ ho;obtain ⟨nm,bs,mro,ns,qn,hd,sn,sub,ab,col,del⟩:=cd;simp only at hmr hdel hok hni
   subst hmr hdel;obtain ⟨l⟩:=sl;simp only at hsl
   subst hsl;exact ⟨bm,ns,nm,qn,bs,hd,sn,sub,ab,col,dd,k0,k1,k2,k3,k5,_,hh,.of_isNs (W.isNs_of_in X hok),W.nsMap_none_of_in X hok hni,W.tail_of_in X ht⟩
theorem cM {X:Cx} {E:XK} {x:Str} {C:Δ} {B newId initId:String} {bm:List ς} {np cpos pos:HV} {e:FE} {es:List FE} {t:TA} (hm:X.mg x=some (.ref C)) (q:W.excIn X.K C bm newId=true) (FB:ExcBaseFacts B newId initId bm) (hc:X.calm=true) (hg:Gl X x)
  (hx:∀ (pins:List (Δ×GN)) (σ:St) (H:Hp) (s:Ω) (h':E5) (t':Nat) (e:Δ) (vs:List ς),Inv X pins σ H s->LI s.heap h' e (.ref C) vs->E (.ref C) none H->X.xe (.ref e) { s with heap:=h',toks:=t' })
  (ha:PA X (e::es) t) (hd:(x==("__debug__":Str))=false:=by decide) (he:EV (e::es) X.env=(false,F3 e X.env)::EV es X.env:=by rfl) (hpl:(GW cpos (EV es X.env)).any (·.1)=false:=by rfl) :
  PS X (.Raise (some (.Call (.Name x np) (e::es) [] cpos)) none pos) (rR C E t):=fun pins s σ H D I h =>
 xq (BW I.ok.mod.kin hm q) FB hc hg hx ha hd he hpl pins s σ H D I h
theorem xW {C:Δ} {E:XK} {t:TA} {D:cO} {σ:St} {H:Hp} (h:t σ H fun vs H1=>vs.length<=D7/\E (.ref C) none H1):rR C E t D σ H:=h
section
variable {P:D_} {w:Eh} {K:W.Frag} {mg:Str->Option ς} {base:E5}
theorem aW.down {k:Nat} {f:Δ} {fd:FU} {ps:List Str} {sp sp':Sp} (F:aW P w K mg base (CX1 P w) k f fd ps sp) (h:∀ vs H Q E,sp' vs H Q E->sp vs H Q (fun _ _ _=>False)):aW P w K mg base CX0 k f fd ps sp' :=
 ⟨fun vs H Q E q=>F.len vs H Q _ (h _ _ _ _ q),fun A outer s H args us vs Q E hr e0 hb hv hs=>G0 (F.run A outer s H args us vs Q _ hr e0 hb hv (h _ _ _ _ hs)) fun r s' hq=>by
  cases r with
  | error e => obtain ⟨_, _, _, _, _, _, _, _, _, _, z⟩ := hq; exact z.elim
  | ok fl => cases fl <;> exact hq⟩
end
theorem Cu {K:W.Frag} {S:Δ} {i:Nat} {tb:(St->XK)->TS} {ts:TS} {D:cO} {σ:St} {H:Hp} (h:tb (Bk K S i ts D) D σ H):Dz K S i tb ts D σ H:=h
theorem xF {H:Hp} {Q:VK} {a b:Δ} {xs zs:List V} (ha:H a=some (.lst xs)) (hb:H b=some (.lst zs)) (z:xs.length+zs.length<=D7) (q:∀ p,H p=none->Q (.ref p) (upd H p (.lst (xs++zs)))):C4 (.ref a) (.ref b) H Q :=
 ⟨a,b,xs,zs,rfl,rfl,ha,hb,z,q⟩
theorem kq {H:Hp}:∀ (bs:List Bool),RepL H (bs.map HH) (bs.map V.bl)
 | []=>by simp only [Hs,RepL]
 | n::r=>by
  simp only [EL,RepL,Rep];exact ⟨_,_,rfl,rfl,kq r⟩
theorem mB {H:Hp} {a:Δ} {bs:List Bool} (h:H a=some (.lst (bs.map V.bl))):Rep H (.list (bs.map HH)) (.ref a):=by
 simp only [Rep];exact ⟨a,_,rfl,h,kq bs⟩
theorem lW:∀ ns ms:List Bool,IC (ns.map HH) (ms.map HH)=decide (ns=ms)
 | [],[]=>by simp [IC]
 | [],_::_=>by simp [IC]
 | _::_,[]=>by simp [IC]
 | a::r,b::u=>by
  simp only [EL,IC,Gv,lW r u];by_cases h:a=b<;>by_cases h':r=u<;>simp [h,h']
theorem md:∀ bs:List Bool,Hi (bs.map HH)=true
 | []=>rfl
 | _::r=>by simp [Hi,Kw,md r]
theorem jQ:∀ bs:List Bool,Kg (bs.map HH)=0
 | []=>rfl
 | _::r=>by simp [Kg,La,jQ r]
theorem iI (bs:List Bool):Ig (.list (bs.map HH))=true:=by
 simp [Ig,Kw,La,md,jQ]
theorem rk {H:Hp} {Q:VK} {a b:Δ} {ns ms:List Bool} (ha:H a=some (.lst (ns.map V.bl))) (hb:H b=some (.lst (ms.map V.bl))) (q:Q (.bl (!decide (ns=ms))) H):zJ true (.ref a) (.ref b) H Q :=
 ⟨_,_,mB ha,mB hb,iI _,iI _,by
  have e:Gv (.list (ns.map HH)) (.list (ms.map HH))=decide (ns=ms):=by simp only [Gv]; exact lW ns ms
  rw [e]; exact q⟩
def SameBut (l:Δ) (H H':Hp):Prop:=∀ b o,H b=some o->b≠l->H' b=some o
theorem aj.but {H H':Hp} (s:aj H H') (l:Δ):SameBut l H H':=fun b o e _=>s b o e
section
variable {K:W.Frag} {σ:St} {H:Hp} {Q:VK} {te:TE} {cap:List (Option Nat)} {l:Δ}
theorem mT {n:Nat} (R:Nat->V->Hp->Prop) (hz:n<=1000) (hl:H l=none) (mono:∀ i v H1 H2,SameBut l H1 H2->R i v H1->R i v H2)
  (step:∀ i o H' (Q':VK),i<n->aj H H'->(∃ ys,H' l=some (.lst ys))->(∀ v H5,aj H' H5->R i v H5->Q' v H5)->te (((cT (none::cap) σ).set 0 o).set 0 (some (.int ((0:Int)+(i:Nat))))) H' Q')
  (fin:∀ ys H',aj H H'->H' l=some (.lst ys)->ys.length=n->(∀ (i:Nat) v,ys[i]?=some v->R i v H')->Q (.ref l) H'):fu (Itr 0 n) (cR 0) fX te (none::cap) l σ H Q:=by
 refine ⟨n,fun i ys σ' H'=>ys.length=i/\(∀ (j:Nat) v,ys[j]?=some v->R j v H')/\(∃ o,σ'=(cT (none::cap) σ).set 0 o)/\aj H H'/\H' l=some (.lst ys),⟨rfl,fun j v e=>by simp at e,⟨none,rfl⟩,aj.new hl,ag⟩,?_,?_⟩
 ·rintro i ys σ' H' hi ⟨ly,hR,⟨o,rfl⟩,s,e⟩;refine ⟨hi,fun x H2 y=>?_⟩;obtain ⟨e2,rfl⟩:=y;subst e2;refine bY (da (jW ?_));refine step i o H2 _ hi s ⟨ys,e⟩ fun v H5 s5 r=>⟨s5 _ _ e,cN (by omega),?_⟩
  have sb:SameBut l H5 (upd H5 l (.lst (ys++[v]))):=fun b u eb hb=>by rw [ai hb]; exact eb
  refine ⟨by rw [DZ,ly]; rfl,fun j u ej=>?_,⟨_,HB ..⟩,(s.trans s5).later hl,ag⟩;by_cases hj:j<ys.length
  ·rw [FO hj] at ej;exact mono j u _ _ sb (mono j u _ _ (s5.but l) (hR j u ej))
  ·rw [E1 (by omega)] at ej;have:j=i:=by
    have hh:=(Aw.mp ej).1;rw [EO] at hh;omega
   subst this;rw [ly,Ka] at ej
   cases ej;exact mono j _ _ _ sb r
 ·rintro ys σ' H' ⟨ly,hR,_,s,e⟩;exact ⟨Av _,fin ys H' s e ly hR⟩
end
def Bd (t:TS):TS:=fun D σ H=>∃ J:St->Hp->Prop,t { D with nx:=J } σ H/\∀ σ' H',J σ' H'->D.nx σ' H'
theorem fe {X:Cx} {st:Ie} {t:TS} (h:PS X st t):PS X st (Bd t):=by
 intro pins s σ H D I ⟨J,h1,h2⟩;refine E8 (h pins s σ H _ I h1) (fun f s' q=>?_) fun _ _ z=>z
 cases f with
 | next=>obtain ⟨σ',H',J',q⟩:=q; exact ⟨σ',H',J',h2 σ' H' q⟩
 | brk=>exact q
 | cont=>exact q
 | ret u=>exact q
theorem fk {t:TS} {D:cO} {σ:St} {H:Hp} (J:St->Hp->Prop) (h1:t { D with nx:=J } σ H) (h2:∀ σ' H',J σ' H'->D.nx σ' H'):Bd t D σ H:=⟨J,h1,h2⟩
noncomputable def Ite (K:W.Frag) (a:Δ):It :=
  ⟨fun i H=>∃ xs x,SqL K H a xs/\xs[i]?=some x,
   fun i H v H'=>∃ T,v=.ref T/\H T=none/\∀ xs,SqL K H a xs->∃ x,xs[i]?=some x/\H'=upd H T (.tup [.int (i:Nat),x]),
   fun i H=>∃ xs,SqL K H a xs/\xs.length<=i⟩
theorem vm {P:D_} {w:Eh} {K:W.Frag} {elts:List FE} {kt:Nat} {pt:HV} {a n:Δ} (ha:a<n) :
    oF P w K (.Tuple elts kt pt) (Ite K a) [n+1,n] (n+1) (fun i h=>(∃ old,IsEnum h (n+1) n ((i:Nat):Int) old)/\h.IsListIter n a i) where
  mem:=by simp
  obj:=fun i h st c hc=>by
    obtain ⟨⟨old,z1⟩,⟨o4,e4,c4,d4⟩⟩:=st;simp only [B_,Ek,or_false] at hc;rcases hc with rfl | rfl
    · exact ⟨_,z1,fun v z=>by cases z⟩
    · exact ⟨_,e4,fun v z=>by rw [d4] at z; cases z⟩
  keep:=fun i h h' st k=>by
    obtain ⟨⟨old,z1⟩,z4⟩:=st;exact ⟨⟨old,k _ (by simp) _ z1⟩,z4.at fun o e=>k _ (by simp) o e⟩
  item:=by
    intro X hP hw hK hc i pins s σ H E I hf st hg;subst hP hw hK;obtain ⟨xs,x,hqa,hx⟩:=hg;obtain ⟨its,rv,p,hz⟩:=I.list hqa;obtain ⟨u,hu,ru⟩:=rv.get hx;obtain ⟨⟨old,z1⟩,z4⟩:=st;have ltz:n+1<s.heap.objs.size:=D0 z1;have nn:n+1≠n:=Nat.succ_ne_self n;refine wpAny_pyNext_enum_item z1 z4 p.isList (x:=u) (by simpa using hu) nn fun h' a1 a2 a3 a4 hk=>?_;refine ⟨_,rfl,wpAny_letOwnedTupleGo_enum (s:={ s with heap:=h',toks:=s.toks+1 }) a1 fun h2 b1 hs=>?_⟩;have neT:∀ {c:Δ},c<=n+1->c≠s.heap.objs.size:=fun h=>D5 (Ej h ltz);have kk:∀ c o,c∉[n+1,n]->s.heap.get? c=some o->h2.get? c=some o:=fun c o hc e=>by
      simp only [B_,Ek,or_false,not_or] at hc;exact (hs.2 c hc.1).trans (hk c o hc.1 hc.2 e)
    obtain ⟨o4,e4,c4⟩:=a2;have q4:h2.get? n=_:=(hs.2 _ (FH nn)).trans e4;have qT:h2.get? s.heap.objs.size=_:=(hs.2 _ (FH (neT (Av _)))).trans a3;have I1:Inv X pins σ (upd H s.heap.objs.size (.tup [.int (i:Nat),x])) { s with heap:=h2,toks:=s.toks+1 }:=I.turnedL (ch:=[n+1,n]) kk hf (fun c hc=>by
        simp only [B_,Ek,or_false] at hc;rcases hc with rfl | rfl
        · exact ⟨_,b1⟩
        · exact ⟨_,q4⟩) (Av _) ⟨by show 2<=D7; decide,[.int (i:Nat) s.toks,u],.cons ⟨_,rfl⟩ (.cons ru .nil),_,qT,rfl,_,rfl⟩
    refine ⟨.ref s.heap.objs.size,_,I1,rfl,⟨_,rfl,I.hok.fresh (Av _),fun vs hv=>?_⟩,⟨⟨_,b1⟩,⟨_,q4,c4⟩⟩,fun c hc=>?_⟩
    · rw [I.list_inj hv hqa]
      exact ⟨x,hx,rfl⟩
    · have hle:c<=n+1:=by
        simp only [B_,Ek,or_false] at hc;rcases hc with rfl | rfl
        · exact Av _
        · exact Fp _ 1
      rw [ai (neT hle)];exact (hf c hc).1
  done:=by
    intro X hP hw hK hc i pins s σ H E I hf st hg;subst hP hw hK;obtain ⟨xs,hqa,hl⟩:=hg;obtain ⟨its,rv,p,hz⟩:=I.list hqa;obtain ⟨⟨old,z1⟩,z4⟩:=st;have l1:=rv.length;refine wpAny_pyNext_enum_end (I.ok.hd hc) z1 z4 p.isList (by simp; omega) fun h' hk=>⟨rfl,?_⟩
    have kk:∀ c o,c∉[n+1,n]->s.heap.get? c=some o->h'.get? c=some o:=fun c o hc e=>by
      simp only [B_,Ek,or_false,not_or] at hc;exact hk c o hc.2 e
    have nit:∀ c u,H c=some u->c∉[n+1,n]:=fun c u e z=>by rw [(hf c z).1] at e; cases e
    refine I.step (g':=s.gens) (d':=s.drawn) (t':=s.toks) (ch:=[n+1,n]) (fun c hc=>⟨(hf c hc).2.2.2.1,(hf c hc).2.1,(hf c hc).2.2.2.2.1,(hf c hc).2.2.2.2.2⟩) (fun c o _ _ hc e _=>kk c o hc e) (fun c o _ _ hc e _=>⟨o.slots,kk c o hc e⟩) (fun _ _ _ _ n=>n)
      (fun c o hc e=>⟨o,kk c o hc e⟩) (fun _ _ e=>e) (fun _ _ _ e=>e) (fun _ ps e=>⟨#[],by rw [e]; simp⟩) (fun m hm=>?_) (fun c u e=>?_) I.bare
    · obtain ⟨ob,es,ep,ho,r⟩:=hm
      exact ⟨ob,es,ep,kk _ ob (fun z=>(hf _ z).2.1 rfl) ho,r⟩
    · refine (I.hok c u e).stay (fun d v hd q=>kk d v ?_ q) (fun _ e'=>e') fun _ _ e'=>e'
      rcases hd with z | z
      · rw [z]; exact nit c u e
      · exact nit d _ z
  self:=fun _ _ _ _ _ st h=>let ⟨⟨_,z⟩,_⟩:=st; wpAny_pyIter_enum z h
section
variable {X:Cx} {elts:List FE} {kt:Nat} {pt:HV}
def AM (K:W.Frag) (ta:TA):TI:=fun σ H R=>ta σ H fun vs H1=>∃ a,vs=[.ref a]/\(∃ xs,SqL K H1 a xs)/\R (Ite K a) H1
theorem nz {a:FE} {ta:TA} {p pos:HV} (hg:Gl X "enumerate") (hm:X.mg "enumerate"=none) (ha:PA X [a] ta) (hs:EV [a] X.env=[(false,F3 a X.env)]:=by rfl) :
  PI X (.Tuple elts kt pt) (.Call (.Name "enumerate" p) [a] [] pos) (AM X.K ta):=by
 intro pins s σ H R I h;refine Call_ (cX I hg hm (by rfl:FA "enumerate"=some (.type "enumerate")) (FD (thn (ha pos pins s σ H _ I h) fun us s1 ⟨vs,H1,I1,r1,q1⟩=>?_) hs rfl));obtain ⟨a,e,⟨xs,ha⟩,q⟩:=q1;subst e;obtain ⟨u,rfl,ru⟩:=r1.one
 cases (show u=EB a from ru)
 obtain ⟨its,_,p1,_⟩:=I1.list ha;have l1:a<s1.heap.objs.size:=let ⟨o,ho,_⟩:=p1.isList; D0 ho;refine call_enumerate_list p1.isList fun h' hz h1 hsz hk=>wpAny_pyIter_enum (s:={ s1 with heap:=h' }) hz ?_;refine ⟨s1.heap.objs.size+1,_,_,_,H1,rfl,I1.kept (t':=s1.toks) hk,vm l1,⟨⟨_,hz⟩,h1⟩,fun c hc=>?_,q⟩
 have hle:s1.heap.objs.size<=c:=by
  simp only [B_,Ek,or_false] at hc;rcases hc with rfl | rfl
  ·exact Fp _ _
  ·exact Av _
 exact I1.fpOk hle (I1.hok.fresh hle)
end
theorem xS {K:W.Frag} {ta:TA} {σ:St} {H:Hp} {R:It->Hp->Prop} (h:ta σ H fun vs H1=>∃ a,vs=[.ref a]/\(∃ xs,SqL K H1 a xs)/\R (Ite K a) H1):AM K ta σ H R:=h
theorem t9 {K:W.Frag} {σ:St} {H:Hp} {a:Δ} {xs:List V} {g:TG} {tb:TS} {D:cO} (Pv:Nat->St->Hp->Prop) (h0:Pv 0 σ H) (hl:∀ i σ H,i<=xs.length->Pv i σ H->SqL K H a xs)
  (hs:∀ i x σ H T,xs[i]?=some x->Pv i σ H->H T=none->g (.ref T) σ (upd H T (.tup [.int (i:Nat),x])) fun σ2 H2=>tb { D with nx:=Pv (i+1),ct:=Pv (i+1),bk:=D.nx } σ2 H2) (hd:∀ σ H,Pv xs.length σ H->D.nx σ H):tN (Ite K a) g tb D σ H:=by
 refine ⟨fun i m σ H=>i<=xs.length/\m=xs.length - i/\Pv i σ H,⟨_,El _,rfl,h0⟩,fun i m σ H ⟨hi,hm,p⟩=>?_⟩;by_cases h:i<xs.length
 ·refine .inr ⟨⟨xs,xs[i],hl i σ H hi p,by simp [h]⟩,Pv (i+1),fun σ' H' p'=>⟨xs.length - (i+1),by omega,by omega,rfl,p'⟩,fun x H' y=>?_⟩;obtain ⟨T,rfl,hT,y⟩:=y;obtain ⟨x,hx,rfl⟩:=y xs (hl i σ H hi p);exact hs i x σ H T hx p hT
 ·have e:i=xs.length:=by omega
  subst e;exact .inl ⟨⟨xs,hl _ σ H hi p,Av _⟩,hd σ H p⟩
end L2
open PySem PySem.Spec PyProof.Rows
namespace L2
structure AI (K:W.Frag) (C:Δ) (m:Str) (f:Δ):Prop where
 ga:W.specialIn K (.ref C) "__getattribute__"=some (some (.builtin "type.__getattribute__"))
 rd:W.readsIn K C (.type "type")=true
 at_:W.findCls K (.ref C) (.type "type") m=some (.val (.ref f))
 kp:W.keepIn K (.ref f)=true
section
variable {X:Cx} {CX:CXT} {k:Nat} {f C:Δ} {fd:FU} {ps:List Str} {sp:Sp} {dvs:List V} {ds:List ς} {E:XK} {x m:Str} {p pos apos:HV} {e o:FE} {es:List FE} {ta:TE} {t:TA}
theorem wR {pl:KH Bool} (hg:Gl X x) (hm:X.mg x=some (.ref C)) (c:AI X.K C m f) (F:aW X.prog X.w X.K X.mg X.base CX k f fd ps sp) (hr:bF k X.A) (hb:aI X.K fd ps ds) (hd:Vals dvs ds) (hx:eV CX X E) (ha:PA X (e::es) t)
  (hdb:(x==("__debug__":Str))=false:=by decide)
  (hst:EV (e::es) X.env=(false,F3 e X.env)::EV es X.env:=by rfl) (hpl:(GW pos (EV es X.env)).any (·.1)=false:=by rfl)
  (ht:F3 (.Call (.Attribute (.Name x p) m apos) (e::es) [] pos) X.env=(do
   let ov <- F3 (.Name x p) X.env
   standAt apos.atName
   let (f,first) <- Jv [ov] (LP ov m pl)
   callWith pos f first (GW pos (EV (e::es) X.env)) (MC pos (KG [] X.env))):=by rfl) :
  PE X (.Call (.Attribute (.Name x p) m apos) (e::es) [] pos) (tF sp dvs E t):=by
 intro pins s σ H Q I h;refine W.methodCall_KW (pl:=pl) (thn ((eD (v:=.ref C) hg hm rfl hdb) pins s σ H (fun x H1=>x=.ref C/\H1=H) I ⟨rfl,rfl⟩) fun u s1 ⟨x,H1,I1,rx,ex,eh⟩=>?_) ht;subst ex; subst eh;obtain rfl:u=EB C:=rx
 refine W.method_cls I1.kIn c.ga (W.cls_value I1.kIn c.rd c.at_ rfl ?_);have I2:=I1.tok (s1.toks+1);refine W.callWith_K (first:=[]) (h₀:=X.base) I.ok.mod.kin c.kp (thn (ha pos pins _ σ H1 _ I2 h) fun us s2 ⟨vs,H2,I3,r,q2⟩=>⟨I3.kIn,?_⟩) hst hpl;exact nJ (us:=us) (vs:=vs) F hr hb hd hx I3 r q2
end
theorem aN {X:Cx} {s:Ie} {ss:List Ie} {r:TS} {C:TS->Prop} (d:PS X s r) (k:∀ r',r'=r->∃ ts,PSs X ss ts/\C (CB r' ts)):∃ ts,PSs X (s::ss) ts/\C ts :=
 let ⟨_,h1,h2⟩:=k r rfl
 ⟨_,aK d h1,h2⟩
theorem dY {X:Cx} {s:Ie} {r:TS} {C:TS->Prop} (d:PS X s r) (k:∀ r',r'=r->C r'):∃ ts,PSs X [s] ts/\C ts:=⟨_,ao d,k r rfl⟩
theorem Cc {r r':TS} {D:cO} {σ:St} {H:Hp} (e:r'=r) (h:r D σ H):r' D σ H:=e ▸ h
theorem Ak {t u:TS} {D:cO} {σ:St} {H:Hp} (k:∀ u',u'=u->t { D with nx:=u' D } σ H):CB t u D σ H:=k u rfl
theorem DP {us:List ς} (h:us.length=1):∃ a0,us=[a0]:=match us,h with | [a0],_=>⟨a0,rfl⟩
theorem DQ {us:List ς} (h:us.length=2):∃ a0 a1,us=[a0,a1]:=match us,h with | [a0,a1],_=>⟨a0,a1,rfl⟩
theorem DR {us:List ς} (h:us.length=3):∃ a0 a1 a2,us=[a0,a1,a2]:=match us,h with | [a0,a1,a2],_=>⟨a0,a1,a2,rfl⟩
theorem DT {us:List ς} (h:us.length=4):∃ a0 a1 a2 a3,us=[a0,a1,a2,a3]:=match us,h with | [a0,a1,a2,a3],_=>⟨a0,a1,a2,a3,rfl⟩
theorem DU {us:List ς} (h:us.length=5):∃ a0 a1 a2 a3 a4,us=[a0,a1,a2,a3,a4]:=match us,h with | [a0,a1,a2,a3,a4],_=>⟨a0,a1,a2,a3,a4,rfl⟩
section
variable {κ:Type} [DecidableEq κ]
noncomputable def aT (kvs:List (κ×V)) (k:κ):Option V:=(kvs.find? fun kv=>decide (kv.1=k)).map (·.2)
noncomputable def b7 (kvs:List (κ×V)) (k:κ) (v:V):List (κ×V) :=
 if (kvs.any fun kv=>decide (kv.1=k))=true then kvs.map (fun kv=>if kv.1=k then (kv.1,v) else kv) else kvs++[(k,v)]
theorem b9 {p:κ×V} {r:List (κ×V)} {k:κ} (e:p.1=k):aT (p::r) k=some p.2:=by simp [aT,Fx,e]
theorem b8 {p:κ×V} {r:List (κ×V)} {k:κ} (e:¬ p.1=k):aT (p::r) k=aT r k:=by simp [aT,Fx,e]
theorem dU (k:κ):∀ kvs:List (κ×V),(kvs.any fun kv=>decide (kv.1=k))=(aT kvs k).isSome
 | []=>rfl
 | p::r=>by
  rw [Ld];by_cases e:p.1=k
  ·simp only [b9 e,decide_eq_true e,Bool.true_or,Option.isSome_some]
  ·rw [b8 e,decide_eq_false e,JJ]; exact dU k r
theorem qp (k j:κ) (y:V):∀ kvs:List (κ×V),aT (kvs.map fun kv=>if kv.1=k then (kv.1,y) else kv) j=(aT kvs j).map fun x=>if j=k then y else x
 | []=>rfl
 | p::r=>by
  have ih:=qp k j y r;rw [EL];by_cases h:p.1=k
  ·rw [if_pos h];by_cases e:p.1=j
   ·rw [b9 (p:=(p.1,y)) e,b9 e,IT,if_pos (e.symm.trans h)]
   ·rw [b8 (p:=(p.1,y)) e,b8 e,ih]
  ·rw [if_neg h];by_cases e:p.1=j
   ·rw [b9 (p:=p) e,b9 e,IT,if_neg (fun z=>h (e.trans z))]
   ·rw [b8 (p:=p) e,b8 e,ih]
theorem mE (k j:κ) (y:V):∀ kvs:List (κ×V),aT kvs k=none->aT (kvs++[(k,y)]) j=if j=k then some y else aT kvs j
 | [],_=>by
  by_cases e:k=j
  ·rw [if_pos e.symm]; exact b9 (p:=(k,y)) e
  ·rw [if_neg (fun z=>e z.symm)]; exact b8 (p:=(k,y)) e
 | p::r,hn=>by
  rw [JR];have hk:¬ p.1=k:=fun z=>by rw [b9 z] at hn; cases hn
  rw [b8 hk] at hn;have ih:=mE k j y r hn;by_cases e:p.1=j
  ·rw [b9 e,b9 e,if_neg (fun z=>hk (e.trans z))]
  ·rw [b8 e,b8 e,ih]
theorem iM (kvs:List (κ×V)) (k j:κ) (y:V):aT (b7 kvs k y) j=if j=k then some y else aT kvs j:=by
 unfold b7;by_cases a:(kvs.any fun kv=>decide (kv.1=k))=true
 ·rw [if_pos a,qp];rw [dU] at a;by_cases e:j=k
  ·obtain ⟨x,hx⟩:=LF.mp a;rw [if_pos e,e,hx,IT,if_pos rfl]
  ·rw [if_neg e]
   cases aT kvs j with
   | none=>rfl
   | some x=>rw [IT,if_neg e]
 ·rw [if_neg a];refine mE k j y kvs ?_;rw [dU] at a
  cases q:aT kvs k with
  | none => rfl
  | some x => rw [q] at a; exact (a rfl).elim
theorem cL (kvs:List (κ×V)) (k:κ) (v:V):(b7 kvs k v).length<=kvs.length+1:=by
 unfold b7
 split
 ·rw [Ξ]; omega
 ·rw [DZ,C_,List.length_nil]; omega
theorem ko {kvs:List (κ×V)} {k:κ} (v:V) (h:aT kvs k=none):b7 kvs k v=kvs++[(k,v)]:=by
 unfold b7;rw [dU,h];exact if_neg (by decide)
theorem fA.isSome_eq {o:Option V} {u:Option ς} (r:fA o u):o.isSome=u.isSome:=by
 cases o with
 | none=>cases u with
  | none => rfl
  | some _ => exact (show False from r).elim
 | some _=>cases u with
  | none => exact (show False from r).elim
  | some _ => rfl
theorem fA.getD {o:Option V} {u:Option ς} {d:V} {d':ς} (r:fA o u) (rd:aL d d'):aL (o.getD d) (u.getD d'):=by
 cases o with
 | none=>cases u with
  | none => exact rd
  | some _ => exact (show False from r).elim
 | some _=>cases u with
  | none => exact (show False from r).elim
  | some _ => exact r
theorem KV.val {kvs:List (κ×V)} {vs:List (κ×ς)} (r:KV kvs vs) (k:κ):fA (aT kvs k) (JC vs k):=by
 unfold KV at r
 induction r with
 | nil=>exact Gk
 | @cons p q ps qs h t ih =>
  obtain ⟨h1,h2⟩:=h;by_cases e:p.1=k
  ·have e':q.1=k:=h1.symm.trans e;have b:JC (q::qs) k=some q.2:=by simp [JC,Fx,e']
   rw [b9 e,b]; exact h2
  ·have e':¬ q.1=k:=fun z=>e (h1.trans z);have b:JC (q::qs) k=JC qs k:=by simp [JC,Fx,e']
   rw [b8 e,b]; exact ih
theorem KV.any {kvs:List (κ×V)} {vs:List (κ×ς)} (r:KV kvs vs) (k:κ):(kvs.any fun kv=>decide (kv.1=k))=vs.any fun kv=>decide (kv.1=k):=by
 unfold KV at r
 induction r with
 | nil=>rfl
 | cons h t ih=>rw [Ld,Ld,ih,h.1]
theorem KV.repl {kvs:List (κ×V)} {vs:List (κ×ς)} (r:KV kvs vs) (k:κ) {y:V} {u:ς} (ry:aL y u) :
  KV (kvs.map fun kv=>if kv.1=k then (kv.1,y) else kv) (vs.map fun kv=>if kv.1=k then (kv.1,u) else kv):=by
 unfold KV at r ⊢
 induction r with
 | nil=>exact .nil
 | @cons p q ps qs h t ih =>
  rw [EL,EL];refine .cons ?_ ih;obtain ⟨h1,h2⟩:=h;by_cases e:p.1=k
  ·rw [if_pos e,if_pos (h1.symm.trans e)]; exact ⟨h1,ry⟩
  ·rw [if_neg e,if_neg (fun z=>e (h1.trans z))]; exact ⟨h1,h2⟩
theorem KV.put {kvs:List (κ×V)} {vs:List (κ×ς)} (r:KV kvs vs) (k:κ) {y:V} {u:ς} (ry:aL y u):KV (b7 kvs k y) (stored vs k u):=by
 unfold b7 stored;rw [r.any k];by_cases e:(vs.any fun kv=>decide (kv.1=k))=true
 ·rw [if_pos e,if_pos e]; exact r.repl k ry
 ·rw [if_neg e,if_neg e]; exact Paired.snoc r ⟨rfl,ry⟩
theorem KV.length {kvs:List (κ×V)} {vs:List (κ×ς)} (r:KV kvs vs):kvs.length=vs.length:=Paired.length r
end
theorem l0 {P:D_} {w:Eh} {k:Key} {u:ς} (r:aL (kV k) u):(a7 P w).is k u=true:=by
 cases k with
 | inl i=>obtain ⟨t,e⟩:=(show ∃ t,u=HR i t from r); subst e; exact pK P w i t
 | inr x=>obtain ⟨t,e⟩:=(show ∃ t,u=KW x t from r); subst e; exact pM P w x t
theorem lZ {P:D_} {w:Eh}:∀ {ks:List Key} {us:List ς},Vals (ks.map kV) us->ItemsAre (a7 P w) ks us
 | [],_,r=>by rw [Hs] at r; cases r; exact .nil
 | k::ks,_,r=>by
  rw [EL] at r
  cases r with
  | cons h t => exact .cons (l0 h) (lZ t)
abbrev KT (H:Hp):List (List Key×V)->List (List Key×Δ×ς)->Prop:=Paired fun p q=>p.1=q.1/\H q.2.1=some (.tup (p.1.map kV))/\aL p.2 q.2.2
theorem KT.val {H:Hp} {kvs:List (List Key×V)} {xs:List (List Key×Δ×ς)} (r:KT H kvs xs) (k:List Key):fA (aT kvs k) ((J1 xs k).map (·.2)):=by
 induction r with
 | nil=>exact Gk
 | @cons p q ps qs h t ih =>
  obtain ⟨h1,_,h2⟩:=h;by_cases e:p.1=k
  ·have e':q.1=k:=h1.symm.trans e;have b:J1 (q::qs) k=some q.2:=by simp [J1,Fx,e']
   rw [b9 e,b]; exact h2
  ·have e':¬ q.1=k:=fun z=>e (h1.trans z);have b:J1 (q::qs) k=J1 qs k:=by simp [J1,Fx,e']
   rw [b8 e,b]; exact ih
theorem KT.repl {H:Hp} {kvs:List (List Key×V)} {xs:List (List Key×Δ×ς)} (r:KT H kvs xs) (k:List Key) {y:V} {u:ς} (ry:aL y u) :
  KT H (kvs.map fun kv=>if kv.1=k then (kv.1,y) else kv) (xs.map (putAt k u)):=by
 induction r with
 | nil=>exact .nil
 | @cons p q ps qs h t ih =>
  rw [EL,EL];refine .cons ?_ ih;obtain ⟨h1,h2,h3⟩:=h;unfold putAt;by_cases e:p.1=k
  ·rw [if_pos e,if_pos (h1.symm.trans e)]; exact ⟨h1,h2,ry⟩
  ·rw [if_neg e,if_neg (fun z=>e (h1.trans z))]; exact ⟨h1,h2,h3⟩
theorem KT.put {H:Hp} {kvs:List (List Key×V)} {xs:List (List Key×Δ×ς)} (r:KT H kvs xs) (k:List Key) {b:Δ} {y:V} {u:ς} (hb:H b=some (.tup (k.map kV))) (ry:aL y u) :
  KT H (b7 kvs k y) (storedH xs k b u):=by
 have e:(kvs.any fun kv=>decide (kv.1=k))=(J1 xs k).isSome:=by
  rw [dU,(r.val k).isSome_eq,MQ]
 unfold b7 storedH;rw [e];by_cases q:(J1 xs k).isSome=true
 ·rw [if_pos q,if_pos q]; exact r.repl k ry
 ·rw [if_neg q,if_neg q]; exact Paired.snoc r ⟨rfl,hb,ry⟩
theorem KT.keeps {H H':Hp} {kvs:List (List Key×V)} {xs:List (List Key×Δ×ς)} (r:KT H kvs xs) (ht:∀ b ys,H b=some (.tup ys)->H' b=some (.tup ys)):KT H' kvs xs :=
 Paired.mapP r fun _ _ z=>⟨z.1,ht _ _ z.2.1,z.2.2⟩
section
variable {P:D_} {w:Eh} {H:Hp} {h:E5} {a:Δ}
theorem AY {u:HO} (ok:HOk P w H h) (e:Rd H a u):aY P w H h a u:=e.ok ok
theorem lT {kvs:List (Key×V)} (ok:HOk P w H h) (e:Rd H a (.dK kvs)):kvs.length<=D7/\(a==Fe)=false/\∃ vs,KV kvs vs/\h.DictOf (a7 P w) a vs :=
 show aY P w H h a (.dK kvs) from AY ok e
theorem sG {kvs:List (Key×V)} (ok:HOk P w H h) (e:H a=some (.dK kvs)):kvs.length<=D7/\(a==Fe)=false/\∃ vs,KV kvs vs/\h.DictOf (a7 P w) a vs:=lT ok (.inl e)
theorem gH {ks:List Key} (ok:HOk P w H h) (e:H a=some (.tup (ks.map kV))):(HM (a7 P w)).is h ks a:=by
 obtain ⟨_,its,r,o,h1,h2,n,h3⟩:=(show aY P w H h a (.tup (ks.map kV)) from ok a _ e)
 exact ⟨o,its.toArray,n,h1,h2,h3,by simpa using lZ r⟩
theorem lU {kvs:List (List Key×V)} (ok:HOk P w H h) (e:Rd H a (.dT kvs)):kvs.length<=D7/\(a==Fe)=false /\
  ∃ xs,KT H kvs xs/\h.DictOfH (HM (a7 P w)) a xs:=by
 obtain ⟨z,y,xs,r,o,es,ep,h1,h2,h3,h4,h5⟩:=(show aY P w H h a (.dT kvs) from AY ok e)
 refine ⟨z,y,xs,r,o,es,ep,h1,h2,h3,h4,fun x hx=>?_,h5⟩
 have all:∀ {l:List (List Key×V)} {m:List (List Key×Δ×ς)},KT H l m->∀ x∈m,(HM (a7 P w)).is h x.1 x.2.1:=by
  intro l m q
  induction q with
  | nil => intro x hx; exact nomatch hx
  | @cons p q ps qs hq t ih =>
   intro x hx;rcases B_.mp hx with e | hx
   ·subst e;exact gH ok (by rw [<- hq.1]; exact hq.2.1)
   ·exact ih x hx
 exact all r x hx
theorem vN {kvs:List (List Key×V)} (ok:HOk P w H h) (e:H a=some (.dT kvs)):kvs.length<=D7/\(a==Fe)=false /\
  ∃ xs,KT H kvs xs/\h.DictOfH (HM (a7 P w)) a xs:=lU ok (.inl e)
end
def fz (H:Hp) (a:Δ) (y:V) (r:Option V):Prop :=
 (∃ kvs k,Rd H a (.dK kvs)/\y=kV k/\r=aT kvs k)\/∃ kvs k b,Rd H a (.dT kvs)/\y=.ref b/\H b=some (.tup (k.map kV))/\r=aT kvs k
def qw (H:Hp) (a:Δ) (y v:V) (H':Hp):Prop :=
 (∃ kvs k,H a=some (.dK kvs)/\y=kV k/\kvs.length<D7/\H'=upd H a (.dK (b7 kvs k v))) \/
 ∃ kvs k b,H a=some (.dT kvs)/\y=.ref b/\H b=some (.tup (k.map kV))/\kvs.length<D7/\H'=upd H a (.dT (b7 kvs k v))
theorem fz.t {H:Hp} {a b:Δ} {kvs:List (List Key×V)} {k:List Key} (e:H a=some (.dT kvs)) (eb:H b=some (.tup (k.map kV))):fz H a (.ref b) (aT kvs k):=.inr ⟨kvs,k,b,.inl e,rfl,eb,rfl⟩
theorem qw.t {H:Hp} {a b:Δ} {kvs:List (List Key×V)} {k:List Key} {v:V} (e:H a=some (.dT kvs)) (eb:H b=some (.tup (k.map kV))) (hl:kvs.length<D7) :
  qw H a (.ref b) v (upd H a (.dT (b7 kvs k v))):=.inr ⟨kvs,k,b,e,rfl,eb,hl,rfl⟩
section
variable {X:Cx} {pins:List (Δ×GN)} {σ:St} {H:Hp} {s:Ω} {a:Δ} {y v:V} {u r:ς} {o:Option V} {A:Eg} {E:ς->Ω->Prop}
theorem Inv.big (I:Inv X pins σ H s):Fe<s.heap.objs.size:=by
 have h:F7<s.heap.objs.size:=(I.mod.glob.keeps I.bk).lt;exact Nat.lt_trans (by decide) h
theorem tZ {Q:ς->Ω->Prop} (hu:A.units+1<Ho) (I:Inv X pins σ H s) (g:fz H a y (some v)) (ry:aL y u) (h:∀ w' s',Inv X pins σ H s'->aL v w'->Q w' s') :
  EA (EH X.prog X.w) A (Ls (.ref a) u) Q E s:=by
 rcases g with ⟨kvs,k,e,ey,l⟩ | ⟨kvs,k,b,e,ey,eb,l⟩
 ·subst ey;obtain ⟨z,hd,vs,rel,dd⟩:=lT I.hok e;obtain ⟨w',hw,rw'⟩:=fA.some_of (v:=v) (o:=JC vs k) (by rw [l]; exact rel.val k);exact wpAny_getItem_of (l0 ry) dd.mapOf hw (h w' _ (I.tok _) rw')
 ·subst ey
  cases (show u=EB b from ry)
  obtain ⟨z,hd,xs,rel,dd⟩:=lU I.hok e;obtain ⟨w',hw,rw'⟩:=fA.some_of (v:=v) (o:=(J1 xs k).map (·.2)) (by rw [l]; exact rel.val k);obtain ⟨p,hp,hp2⟩:=G6.mp hw;refine wpAny_getItem_heap (Hx hu) (gH I.hok eb) dd hp ?_;rw [hp2];exact h w' _ (I.tok _) rw'
theorem DK {Q:ς->Ω->Prop} (hu:A.units+1<Ho) (I:Inv X pins σ H s) (g:fz H a y o) (ry:aL y u) (h:∀ s',Inv X pins σ H s'->Q (.bool o.isSome) s') :
  EA (EH X.prog X.w) A (F8 .In u (.ref a)) Q E s:=by
 rcases g with ⟨kvs,k,e,ey,l⟩ | ⟨kvs,k,b,e,ey,eb,l⟩
 ·subst ey;obtain ⟨z,hd,vs,rel,dd⟩:=lT I.hok e;refine wpAny_in_of (l0 ry) hd dd.mapOf ?_;rw [<- (rel.val k).isSome_eq,<- l];exact h _ (I.tok _)
 ·subst ey
  cases (show u=EB b from ry)
  obtain ⟨z,hd,xs,rel,dd⟩:=lU I.hok e;refine wpAny_in_heap (Hx hu) (gH I.hok eb) hd dd ?_;have q:=(rel.val k).isSome_eq;rw [MQ] at q;rw [<- q,<- l];exact h _ (I.tok _)
theorem jo {h':E5} {t':Nat} {ob:HO} (I:Inv X pins σ H s) (mu:Mut (H a)) (hs:F2 a s.heap h') (he:∃ q,h'.get? a=some q) (new:aY X.prog X.w (upd H a ob) h' a ob) :
  Inv X pins σ (upd H a ob) { s with heap:=h',toks:=t' } :=
 I.write (x:=a) (e:=a) mu (.inl rfl) (fun b q hb z=>(hs.2 b hb).trans z) he new
theorem vK {P:D_} {w:Eh} {H':Hp} {h':E5} {kvs:List (Key×V)} {vs:List (Key×ς)} (z:kvs.length<=D7) (hd:(a==Fe)=false) (rel:KV kvs vs) (dd:h'.DictOf (a7 P w) a vs) :
  aY P w H' h' a (.dK kvs):=⟨z,hd,vs,rel,dd⟩
theorem t5 {H':Hp} {Q:Unit->Ω->Prop} (hu:A.units+1<Ho) (I:Inv X pins σ H s) (g:qw H a y v H') (ry:aL y u) (rv:aL v r) (h:∀ s',Inv X pins σ H' s'->Q () s') :
  EA (EH X.prog X.w) A (setItem (.ref a) u r) Q E s:=by
 rcases g with ⟨kvs,k,e,ey,l,eH⟩ | ⟨kvs,k,b,e,ey,eb,l,eH⟩
 ·subst ey eH;obtain ⟨z,hd,vs,rel,dd⟩:=sG I.hok e;have hz:vs.length<=sizeLine:=by rw [<- rel.length]; exact z
  have hl:(b7 kvs k v).length<=sizeLine:=by have:=cL kvs k v; omega
  refine wpAny_setItem_pairs (hsz:=hz) (l0 ry) dd fun h' dd' hs=>h _ ?_;have he:∃ q,h'.get? a=some q:=let ⟨q,_,_,hq,_⟩:=dd'; ⟨q,hq⟩;exact jo I (by rw [e]; exact Gk) hs he (vK hl hd (rel.put k rv) dd')
 ·subst ey eH
  cases (show u=EB b from ry)
  obtain ⟨z,hd,xs,rel,dd⟩:=vN I.hok e;have hz:xs.length<=sizeLine:=by rw [<- Paired.length rel]; exact z
  have hl:(b7 kvs k v).length<=sizeLine:=by have:=cL kvs k v; omega
  refine wpAny_setItem_heap (hsz:=hz) (Hx hu) (gH I.hok eb) dd fun h' dd' hs=>h _ ?_;obtain ⟨q,es,ep,hq,h2,h3,h4,_,h5⟩:=dd';refine jo I (by rw [e]; exact Gk) hs ⟨q,hq⟩ ⟨hl,hd,_,(rel.put k eb rv).keeps fun c ys ec=>?_,q,es,ep,hq,h2,h3,h4,h5⟩;rw [ai (aZ ec e (fun z=>nomatch z))];exact ec
end
def CG (i:FE):Prop:=∀ ov iv,LY i false ov iv=operate [ov,iv] (Ls ov iv)
theorem Az {prog:D_} {w:Eh} {A:Eg} {E:ς->Ω->Prop} {s:Ω} {env:J_} {value slice:FE} {pos:HV} {T id:String} {Q:ς->Ω->Prop}
  (hl:Jt (.type T) "__getitem__"=pure (some (.builtin id))) (hs:CG slice)
  (h:EA (EH prog w) A (F3 value env) (fun o s₁=>EA (EH prog w) A (F3 slice env) (fun i s₂=>s₂.TypeIs o T/\EA (EH prog w) A (Ls o i) Q E s₂) E s₁) E s) :
  EA (EH prog w) A (F3 (.Subscript value slice pos) env) Q E s:=by
 refine Subscript_ (E8 h (fun o s₁ h₁=>E8 h₁ (fun i s₂ h₂=>?_) fun _ _ x=>x) fun _ _ x=>x);obtain ⟨hT,h₂⟩:=h₂;unfold MP;refine θ ?_;rw [getitemInPython_of_ne hT.not_modules];refine θ (Li hT hl ?_)
 have fin:EA (EH prog w) A (LY slice false o i) (fun r s₃=>EA (EH prog w) A (letTemporaryGo value o r >>= fun _=>pure r) Q E s₃) E s₂:=by
  rw [hs o i];exact wpAny_operating (E8 h₂ (fun r s₃ h₃=>θ (wpAny_letTemporaryGo (A_ h₃))) fun _ _ x=>x)
 first
  | exact A_ (θ fin)
  | exact θ (A_ (θ fin))
  | exact θ fin
theorem pf {X:Cx} {pins:List (Δ×GN)} {σ:St} {H:Hp} {s:Ω} {a:Δ} {y:V} {o:Option V} (I:Inv X pins σ H s) (g:fz H a y o):s.TypeIs (.ref a) "dict":=by
 rcases g with ⟨kvs,k,e,_,_⟩ | ⟨kvs,k,b,e,_,_,_⟩
 ·obtain ⟨_,_,vs,_,dd⟩:=lT I.hok e;exact dd.typeIs
 ·obtain ⟨_,_,xs,_,dd⟩:=lU I.hok e;exact dd.typeIs
def Bb (td ty:TE):TE:=fun σ H Q=>td σ H fun x H1=>ty σ H1 fun y H2=>∃ a v,x=.ref a/\fz H2 a y (some v)/\Q v H2
def Dt (ty td:TE):TE:=fun σ H Q=>ty σ H fun y H1=>td σ H1 fun x H2=>∃ a o,x=.ref a/\fz H2 a y o/\Q (.bl o.isSome) H2
def A0 (td ty tv:TE):TS:=fun D σ H=>tv σ H fun v H1=>td σ H1 fun x H2=>ty σ H2 fun y H3=>∃ a H4,x=.ref a/\qw H3 a y v H4/\D.nx σ H4
section
variable {X:Cx} {o i e value:FE} {pos pos' tpos:HV} {td ty tv:TE}
theorem zE (hu:X.A.units+1<Ho) (ho:PE X o td) (hi:PE X i ty) (hs:CG i):PE X (.Subscript o i pos) (Bb td ty):=by
 intro pins s σ H Q I h;refine Az PySem.F.slot_dict_getitem.lookup hs (thn (ho pins s σ H _ I h) fun u s1 ⟨x,H1,I1,rx,q1⟩=>thn (hi pins s1 σ H1 _ I1 q1) fun iv s2 ⟨y,H2,I2,ry,a,v,ex,g,q2⟩=>?_);subst ex;obtain rfl:u=EB a:=rx
 exact ⟨pf I2 g,tZ hu I2 g ry fun w' s3 I3 rw'=>⟨v,H2,I3,rw',q2⟩⟩
theorem ny (hu:X.A.units+1<Ho) (hi:PE X i ty) (ho:PE X o td):PC X .In i o (Dt ty td):=by
 intro pins s σ H Q I h;refine thn (hi pins s σ H _ I h) fun iv s1 ⟨y,H1,I1,ry,q1⟩=>thn (ho pins s1 σ H1 _ I1 q1) fun u s2 ⟨x,H2,I2,rx,a,ov,ex,g,q2⟩=>?_;subst ex;obtain rfl:u=EB a:=rx
 exact DK hu I2 g ry fun s3 I3=>⟨.bl ov.isSome,H2,I3,rfl,q2⟩
theorem sX (hu:X.A.units+1<Ho) (ho:PE X o td) (hi:PE X i ty) (hv:PE X value tv) (hs:KO value (some (.Subscript o i pos')) pos.line X.env=pure false) :
  PS X (.Assign [.Subscript o i pos'] value pos) (A0 td ty tv):=by
 intro pins s σ H D I h;refine wpAny_Assign_Subscript (thn (hv pins s σ H _ I h) fun r s1 ⟨v,H1,I1,rv,q1⟩=>thn (ho pins s1 σ H1 _ I1 q1) fun u s2 ⟨x,H2,I2,rx,q2⟩=>thn (hi pins s2 σ H2 _ I2 q2) fun iv s3 ⟨y,H3,I3,ry,a,H4,ex,g,q3⟩=>?_) hs;subst ex;obtain rfl:u=EB a:=rx
 exact t5 hu I3 g ry rv fun s4 I4=>⟨σ,H4,I4,q3⟩
end
theorem vJ {P:D_} {w:Eh} {H:Hp} (h:E5) (hb:Fe<h.objs.size):aY P w H (h.push { cls:=.type "dict",data:=.dict #[] }) h.objs.size (.dK []) :=
 ⟨El _,beq_eq_false_iff_ne.mpr (FH (D5 hb)),[],.nil,Ly h⟩
theorem vM {P:D_} {w:Eh} {H:Hp} (h:E5) (hb:Fe<h.objs.size):aY P w H (h.push { cls:=.type "dict",data:=.dict #[] }) h.objs.size (.dT []) :=
 ⟨El _,beq_eq_false_iff_ne.mpr (FH (D5 hb)),[],.nil,_,#[],0,D4 _ rfl,⟨rfl,rfl,rfl⟩,rfl,rfl,F0⟩
def yJ:TE:=fun _ H Q=>∀ p,H p=none->Q (.ref p) (upd H p (.dK []))
def yL:TE:=fun _ H Q=>∀ p,H p=none->Q (.ref p) (upd H p (.dT []))
section
variable {X:Cx} {pos:HV}
theorem wZ:PE X (.Dict [] [] pos) yJ:=fun pins s σ H Q I h =>
 wpAny_Dict_empty ⟨.ref s.heap.objs.size,_,I.laid (a:=s.heap.objs.size) (o:=.dK []) (t':=s.toks) (fun _ _ q=>χ _ q) (Av _) (vJ s.heap I.big),rfl,h _ (I.hok.fresh (Av _))⟩
theorem kc:PE X (.Dict [] [] pos) yL:=fun pins s σ H Q I h =>
 wpAny_Dict_empty ⟨.ref s.heap.objs.size,_,I.laid (a:=s.heap.objs.size) (o:=.dT []) (t':=s.toks) (fun _ _ q=>χ _ q) (Av _) (vM s.heap I.big),rfl,h _ (I.hok.fresh (Av _))⟩
end
structure M2 (X:Cx) (o:FE) (m:Str) (apos:HV) (e f:FE) (cpos:HV):Prop where
 base:Ii o m X.env (F3 o X.env)=F3 o X.env
 few:((GW cpos (EV [e,f] X.env)).all (fun x=>!x.1)&&(MC cpos (KG [] X.env)).all (fun x=>x.1.isSome)
  && decide (([e,f]:List FE).length+([]:List Keyword).length+(if ([]:List Keyword).isEmpty then 0 else 1)<30))=true
 line:(apos.endLine==cpos.line)=true
 trees:GW cpos (EV [e,f] X.env)=[(false,F3 e X.env),(false,F3 f X.env)]
def IsD (H:Hp) (a:Δ):Prop:=(∃ kvs,Rd H a (.dK kvs))\/∃ kvs,Rd H a (.dT kvs)
theorem qO {X:Cx} {pins:List (Δ×GN)} {σ:St} {H:Hp} {s:Ω} {a:Δ} (I:Inv X pins σ H s) (d:IsD H a) :
  s.TypeIs (.ref a) "dict"/\(∀ b,EB a=.ref b->∃ ob,s.heap.get? b=some ob/\ob.dict=none)/\(a==Fe)=false:=by
 rcases d with ⟨kvs,e⟩ | ⟨kvs,e⟩
 ·obtain ⟨_,hd,vs,_,dd⟩:=lT I.hok e;refine ⟨dd.typeIs,fun b q=>?_,hd⟩
  cases q;obtain ⟨ob,_,_,h1,h2,_⟩:=dd;exact ⟨ob,h1,h2.2.1⟩
 ·obtain ⟨_,hd,xs,_,dd⟩:=lU I.hok e;refine ⟨dd.typeIs,fun b q=>?_,hd⟩
  cases q;obtain ⟨ob,_,_,h1,h2,_⟩:=dd;exact ⟨ob,h1,h2.2.1⟩
section
variable {X:Cx} {pins:List (Δ×GN)} {σ:St} {H:Hp} {s:Ω} {a:Δ} {y d:V} {u r:ς} {o:Option V} {A:Eg} {E:ς->Ω->Prop}
theorem Bv {Q:ς->Ω->Prop} (hu:A.units+1<Ho) (I:Inv X pins σ H s) (g:fz H a y o) (ry:aL y u) (rd:aL d r) (h:∀ w' s',Inv X pins σ H s'->aL (o.getD d) w'->Q w' s') :
  EA (EH X.prog X.w) A (call (.builtin "dict.get") [.ref a,u,r]) Q E s:=by
 rcases g with ⟨kvs,k,e,ey,l⟩ | ⟨kvs,k,b,e,ey,eb,l⟩
 ·subst ey;obtain ⟨z,hd,vs,rel,dd⟩:=lT I.hok e;refine JD JS dd.typeIs LQ (LD _ _ _) (meets_dict_get_default (a7 X.prog X.w) a (l0 ry) hd r) ⟨_,dd.mapOf,h _ _ (I.tok _) ?_⟩;rw [l];exact (rel.val k).getD rd
 ·subst ey
  cases (show u=EB b from ry)
  obtain ⟨z,hd,xs,rel,dd⟩:=lU I.hok e;refine JD JS dd.typeIs LQ (LD _ _ _) (meetsH_dict_get_default (HM (a7 X.prog X.w)) a b hd r) ⟨Hx hu,k,xs,gH I.hok eb,dd,h _ _ (I.tok _) ?_⟩;rw [l];exact (rel.val k).getD rd
end
def yI (td ty tx:TE):TE:=fun σ H Q=>td σ H fun x H1=>∃ a,x=.ref a/\IsD H1 a/\ty σ H1 fun y H2=>tx σ H2 fun z H3=>∃ o,fz H3 a y o/\Q (o.getD z) H3
section
variable {X:Cx} {o e f:FE} {apos cpos:HV} {td ty tx:TE}
theorem wY (hu:X.A.units+1<Ho) (ho:PE X o td) (he:PE X e ty) (hf:PE X f tx) (m:M2 X o "get" apos e f cpos):PE X (.Call (.Attribute o "get" apos) [e,f] [] cpos) (yI td ty tx):=by
 intro pins s σ H Q I h;refine Kz m.base m.few m.line HX JS PySem.F.type_dict_get (thn (ho pins s σ H _ I h) fun u s1 ⟨x,H1,I1,rx,a,ex,d,q1⟩=>?_);subst ex;obtain rfl:u=EB a:=rx
 obtain ⟨t1,t2,_⟩:=qO I1 d;refine ⟨t1,t2,?_⟩;rw [m.trees];refine G_ rfl (HK (Fj (thn (he pins s1 σ H1 _ I1 q1) fun iv s2 ⟨y,H2,I2,ry,q2⟩ =>
  Fj (thn (hf pins s2 σ H2 _ I2 q2) fun fv s3 ⟨z,H3,I3,rz,ov,g,q3⟩=>GP ?_))))
 exact Bv hu I3 g ry rz fun w' s4 I4 rw'=>⟨_,H3,I4,rw',q3⟩
end
noncomputable def It2 (lo:Int) (n:Nat):It:=⟨fun i _=>i<n,fun i H x H'=>H'=H/\x=.int (lo+i*2),fun i _=>n<=i⟩
theorem qo {P:D_} {w:Eh} {K:W.Frag} {tg:FE} (it:Δ) (lo:Int) (n:Nat):oF P w K tg (It2 lo n) [it] it (fun i h=>Lf h it (lo+(i:Nat)*2) ((n:Int) - (i:Nat)) 2) where
 mem:=by simp
 obj:=fun i h st b hb=>by
  have e:b=it:=by simpa using hb
  subst e;exact ⟨_,st,fun v z=>by
   have z':Data.fields _=Data.cell v:=z
   cases z'⟩
 keep:=fun i h h' st k=>k it (by simp) _ st
 item:=by
  intro X hP hw hK hc i pins s σ H E I hf st hg;subst hP hw hK;obtain ⟨f0,f1,f2,f3,f4,f5⟩:=hf it (by simp);have W:=Walks.range (prog:=X.prog) (w:=X.w) (I.ok.hd hc) it lo 2 n;refine W.item i s _ _ hg st fun v h' tk hv st' kk=>?_;obtain ⟨t,rfl⟩:=hv;have I1:Inv X pins σ H { s with heap:=h',toks:=tk }:=I.turned (fun b o hb e=>kk b o (by simpa using hb) e) f0 f1 f3 f4 f5;exact ⟨_,rfl,sL (s:={ s with heap:=h',toks:=tk }) (n:="range_iterator") st' rfl rfl (by decide) ⟨.int (lo+i*2),H,I1,⟨t,rfl⟩,⟨rfl,rfl⟩,st',fun b hb=>(hf b hb).1⟩⟩
 done:=by
  intro X hP hw hK hc i pins s σ H E I hf st hg;subst hP hw hK;obtain ⟨f0,f1,f2,f3,f4,f5⟩:=hf it (by simp);exact wpAny_pyNext_range_end (I.ok.hd hc) st (by have:n<=i:=hg; omega) fun h' eb=>⟨rfl,I.turned (t':=s.toks) (fun b o hb e=>eb b o hb e) f0 f1 f3 f4 f5⟩
 self:=fun _ _ _ _ _ st h=>wpAny_pyIter_rangeiter st h
noncomputable def jM (i j:Int):Nat:=((j - i+1) / 2).toNat
theorem qg {i j:Int} (h:i<=j):GG i j 2=((jM i j:Nat):Int):=by
 unfold GG jM;rw [if_pos (by decide:(2:Int) > 0)]
 split<;>omega
theorem uW {i j:Int} (h0:0<=i) (h:i<=j) (hj:j<2 ^ 40):HF i j 2=true:=by
 unfold HF;rw [qg h];unfold jM;simp only [Builtin.Range.rangeFitsLong,Eu,HZ,decide_eq_true_eq,beq_iff_eq,if_pos (by decide:(2:Int) > 0)];omega
def AQ (ta:TA):TI:=fun σ H R=>ta σ H fun vs H1=>∃ i j:Int,vs=[.int i,.int j,.int 2]/\0<=i/\i<=j/\j<2 ^ 40/\R (It2 i (jM i j)) H1
section
variable {X:Cx} {tg:FE}
theorem uE {a b c:FE} {ta:TA} {p pos:HV} (hg:Gl X "range") (hm:X.mg "range"=none) (ha:PA X [a,b,c] ta) (hs:EV [a,b,c] X.env=(false,F3 a X.env)::EV [b,c] X.env:=by rfl)
  (hpl:(GW pos (EV [b,c] X.env)).any (·.1)=false:=by rfl):PI X tg (.Call (.Name "range" p) [a,b,c] [] pos) (AQ ta):=by
 intro pins s σ H R I h;refine Call_ (cX I hg hm MB (FD (thn (ha pos pins s σ H _ I h) fun us s1 ⟨vs,H1,I1,r1,q1⟩=>?_) hs hpl));obtain ⟨i,j,e,h0,h1,h2,q⟩:=q1;subst e
 cases r1 with
 | cons ra rr =>
  cases rr with
  | cons rb rr =>
   cases rr with
   | cons rc rr =>
    cases rr;obtain ⟨t,rfl⟩:=ra;obtain ⟨u,rfl⟩:=rb;obtain ⟨v,rfl⟩:=rc;refine call_range_3 (by decide) ?_ (.inl (LR (by omega)));refine wpAny_pyIter_range (Lq ..) (uW h0 h1 h2) ?_;have I2:Inv X pins σ H1 { s1 with heap:=s1.heap.push { cls:=.type "range",data:=.fields #[.int i t,.int j u,.int 2 v] },toks:=s1.toks }:=I1.kept fun b o e=>χ _ e;refine ⟨_,[(s1.heap.push { cls:=.type "range",data:=.fields #[.int i t,.int j u,.int 2 v] }).objs.size],_,_,H1,rfl,I2.kept (t':=s1.toks) fun b o e=>χ _ e,qo _ i (jM i j),?_,fun b hb=>?_,q⟩
    ·have e1:i+((0:Nat):Int)*2=i:=by simp
     have e2:((jM i j:Nat):Int) - ((0:Nat):Int)=GG i j 2:=by rw [qg h1]; simp
     show Lf _ _ (i+((0:Nat):Int)*2) (((jM i j:Nat):Int) - ((0:Nat):Int)) 2
     rw [e1,e2];exact D4 _ rfl
    ·have e:b=(s1.heap.push { cls:=.type "range",data:=.fields #[.int i t,.int j u,.int 2 v] }).objs.size:=by simpa using hb
     subst e;exact I2.fpOk (Av _) (I2.hok.fresh (Av _))
end
theorem Aj {ta:TA} {σ:St} {H:Hp} {R:It->Hp->Prop} (h:ta σ H fun vs H1=>∃ i j:Int,vs=[.int i,.int j,.int 2]/\0<=i/\i<=j/\j<2 ^ 40/\R (It2 i (jM i j)) H1):AQ ta σ H R:=h
theorem pE {lo:Int} {n:Nat} {g:TG} {tb:TS} {D:cO} {σ:St} {H:Hp} (Pv:Nat->St->Hp->Prop) (h0:Pv 0 σ H)
  (hs:∀ i σ H,i<n->Pv i σ H->g (.int (lo+i*2)) σ H fun σ2 H2=>tb { D with nx:=Pv (i+1),ct:=Pv (i+1),bk:=D.nx } σ2 H2) (hd:∀ σ H,Pv n σ H->D.nx σ H):tN (It2 lo n) g tb D σ H:=by
 refine ⟨fun i m σ H=>i<=n/\m=n - i/\Pv i σ H,⟨_,El _,rfl,h0⟩,fun i m σ H ⟨hi,hm,p⟩=>?_⟩;by_cases h:i<n
 ·refine .inr ⟨h,Pv (i+1),fun σ' H' p'=>⟨n - (i+1),by omega,by omega,rfl,p'⟩,fun x H' y=>?_⟩;obtain ⟨rfl,rfl⟩:=y;exact hs i σ _ h p
 ·have e:i=n:=by omega
  subst e;exact .inl ⟨Av _,hd σ H p⟩
theorem Dq (x y:Int):Ig (.tuple [.int x,.int y])=true:=by rfl
theorem DL (x y x' y':Int):Gv (.tuple [.int x,.int y]) (.tuple [.int x',.int y'])=decide ((x,y)=(x',y')):=by
 simp only [Gv,IC];by_cases h1:x=x'<;>by_cases h2:y=y'<;>simp [h1,h2]
theorem Dm {H:Hp} {a:Δ} {x y:Int} (h:H a=some (.tup [.int x,.int y])):Rep H (.tuple [.int x,.int y]) (.ref a):=by
 simp only [Rep,RepL];exact ⟨a,_,rfl,h,_,_,rfl,rfl,_,_,rfl,rfl,rfl⟩
theorem xV {H:Hp} {Q:VK} {a b:Δ} {x y x' y':Int} (ha:H a=some (.tup [.int x,.int y])) (hb:H b=some (.tup [.int x',.int y'])) (q:Q (.bl (!decide ((x,y)=(x',y')))) H):zJ true (.ref a) (.ref b) H Q :=
 ⟨_,_,Dm ha,Dm hb,Dq _ _,Dq _ _,by rw [if_pos rfl,DL]; exact q⟩
theorem xO {σ:St} {H:Hp} {Q:VK} (h:∀ p,H p=none->Q (.ref p) (upd H p (.dT []))):yL σ H Q:=h
theorem zV {td ty tv:TE} {D:cO} {σ:St} {H:Hp} (h:tv σ H fun v H1=>td σ H1 fun x H2=>ty σ H2 fun y H3=>∃ a H4,x=.ref a/\qw H3 a y v H4/\D.nx σ H4):A0 td ty tv D σ H:=h
theorem Cd {ty td:TE} {σ:St} {H:Hp} {Q:VK} (h:ty σ H fun y H1=>td σ H1 fun x H2=>∃ a o,x=.ref a/\fz H2 a y o/\Q (.bl o.isSome) H2):Dt ty td σ H Q:=h
theorem qQ {prog:D_} {w:Eh} {κ:Type} [DecidableEq κ] {kd:HeapKind prog w κ} {d:Δ} (hd:(d==Fe)=false) :
  MeetsIn prog w (Gw.«dict.__len__» ⟨[.ref d],[]⟩) (fun _ R s=>∃ xs,s.heap.DictOfH kd d xs/\R (.ok (.ret (.int (xs.length:Nat) s.toks))) { s with toks:=s.toks+1 }) :=
 .of_wp fun A R s ⟨xs,hm,h⟩=>by
  obtain ⟨o,es,ep,ho,_,hdat,he,_,_⟩:=hm
  (show EA _ _ (dictSize d >>= _) _ _ s; unfold dictSize; refine θ (θ (II ho hdat (A_ ?_))))
  (show EA _ _ (Builtin.Dict.pendingCount d >>= _) _ _ s; refine θ (wpAny_pendingCount_other hd (wpAny_ret_mkInt ?_)))
  rw [Kd,size_of_entries he];exact h
def C7:List V->Hp->VK->Prop:=fun xs H Q=>∃ p kvs,xs=[.ref p]/\H p=some (.dT kvs)/\Q (.int (kvs.length:Nat)) H
theorem iR {X:Cx}:bM X (.builtin "len") C7:=by
 intro pins s σ H xs us Q I r h;obtain ⟨p,kvs,rfl,e,q⟩:=h;obtain ⟨u,rfl,rx⟩:=jj r
 cases rx;obtain ⟨z,hd,xs,rel,dd⟩:=vN I.hok e;have hl:kvs.length=xs.length:=Paired.length rel;have hn:=j1;refine PyProof.Rows.call_len_slot (n:=(xs.length:Nat)) dd.typeIs F.slot_dict_len (fun Q' hq=>JD F.slot_dict_len dd.typeIs F.entry_dict_len (F.args_dict_len_1 _) (qQ hd) ⟨xs,dd,hq⟩) (by omega) (by omega) ?_;rw [<- hl];exact ⟨.int (kvs.length:Nat),H,I.tok _,⟨_,rfl⟩,q⟩
theorem wt:Jt (.type "list_reverseiterator") "__len__"=pure none:=by rw [Lk,J6]; kernel_rfl
theorem zj:Jt (.type "list_reverseiterator") "__length_hint__"=pure (some (.builtin "list_reverseiterator.__length_hint__")):=by rw [Lk,J6]; kernel_rfl
section
variable {prog:D_} {w:Eh} {A:Eg} {E:ς->Ω->Prop} {s:Ω} {R:Kq->Ω->Prop} {I:Δ} {fp wr:List Δ} {G:Array K7->Array K7->Prop} {n:Nat} {P:Nat->ς->Prop} {St:Nat->Ω->Prop}
theorem Bx (W:WalksS prog w A.in1 I fp wr G n P St) (hT:∀ i s,St i s->s.TypeIs (.ref I) "list_reverseiterator") (S:Δ) (res:ς) (c₀:Nat) (st0:St 0 s) (nS:S∉fp) (hI:I∈fp) (oS:s.heap.get? S=some { cls:=.type "list",data:=.seq #[] c₀ }) (hn:n<=D7)
  (k:∀ s' acc' c',Moved (S::wr) G s s'->s'.heap.get? S=some { cls:=.type "list",dict:=none,data:=.seq acc' c',slots:=#[] }->ItemsOf P acc' n->R (.ok (.ret res)) s') :
  EA (EH prog w) A.in1 (G5 (.ref S) (.ref I) res) (fun fin s'=>match fin with | .done f=>R (.ok f) s' | .again c'=>c'.quiet=true/\HA (EH prog w) A c' R s') (fun e s'=>R (.error e) s') s:=by
 have nSI:S≠I:=fun e=>nS (e ▸ hI)
 (unfold G5; refine θ (wpAny_typeOf (hT 0 _ st0) ?_))
 have b1:KU (.ref S) (.ref I)=false:=by simp [KU,nSI]
 have b2:(Gj "list_reverseiterator"==Gj "list")=false:=by decide
 have b3:(Gj "list_reverseiterator"==Gj "tuple")=false:=by decide
 (simp only [b1,b2,b3,Bool.or_false,FI,if_false]; refine θ (W.self 0 _ _ _ st0 (θ (FW ?_))))
 (unfold Builtin.List.listLengthHint; refine θ (Li (hT 0 _ st0) wt ?_); show EA _ A.in1 (specialOf (EB I) (Gf "__length_hint__") >>= _) _ _ _; refine θ (Li (hT 0 _ st0) zj ?_))
 generalize hid:("list_reverseiterator.__length_hint__":String)=id0
 (wp_delta; rw [show splitId id0=some ("list_reverseiterator","__length_hint__") from by subst hid; decide +kernel]; subst hid)
 (refine θ (LN (T:="list_reverseiterator") (b:=true) (hT 0 _ st0) (by rw [isSubtype_type]; kernel_rfl) ?_); refine A_ ?_; rw [if_neg (by decide)])
 exact A_ ⟨HN F.plain_extend_loop _,codeAny_extend_loopS W hn _ nS _ n 0 _ _ _ rfl (El _) st0 oS (ItemsOf.nil P) fun s' acc' c' hm hS' hacc=>k s' acc' c' hm hS' hacc⟩
theorem zk (W:WalksS prog w A.in1 I fp wr G n P St) (hT:∀ i s,St i s->s.TypeIs (.ref I) "list_reverseiterator") (S:Δ) (st0:St 0 s) (nS:S∉fp) (hI:I∈fp) (oS:s.heap.get? S=some { cls:=.type "list",data:=.seq #[] }) (hn:n<=D7)
  (k:∀ s' acc' c',Moved (S::wr) G s s'->s'.heap.get? S=some { cls:=.type "list",dict:=none,data:=.seq acc' c',slots:=#[] }->ItemsOf P acc' n->R (.ok (.ret .none)) s') :
  EA (EH prog w) A.in1 (Gw.«list.__init__» ⟨[.ref S,.ref I],[]⟩) (fun fin s'=>match fin with | .done f=>R (.ok f) s' | .again c'=>c'.quiet=true/\HA (EH prog w) A c' R s') (fun e s'=>R (.error e) s') s:=by
 (show EA _ A.in1 (do let old <- Ko (.ref S); Builtin.List.listUpdate (.ref S) (fun _=>#[]); letGo old.toList.reverse; G5 (.ref S) (.ref I) .none) _ _ s; refine θ ?_; unfold Ko; refine θ (JL oS rfl (A_ ?_)))
 (show EA _ A.in1 (updateSeq S (fun _=>#[]) >>= fun _=>letGo (#[]:Array ς).toList.reverse >>= fun _=>G5 (.ref S) (.ref I) .none) _ _ s; refine θ (Jx oS rfl ?_))
 have oS2:=GF (ES (fun _=>(#[]:Array ς))) oS rfl;have gw:∀ b o,b≠S->s.heap.get? b=some o->(s.heap.update S (ES (fun _=>(#[]:Array ς)))).get? b=some o:=fun b o hb e=>(EX _ _ (FH hb)).trans e;refine θ (Ij (Bx W hT S .none _ (W.frame 0 s _ s.toks st0 (Av _) fun b hb o e=>gw b o (fun h=>nS (h ▸ hb)) e) nS hI oS2 hn fun s' acc' c' hm hS' hacc=>?_));exact k s' acc' c' (Moved.trans W.gtrans ((Moved.refl W.grefl).then_heap (Av _) fun b o hb e=>gw b o (fun h=>hb (h ▸ Θ)) e) hm) hS' hacc
theorem mR {Q:ς->Ω->Prop} (W:WalksS prog w A.in1.in1 I fp wr G n P St) (hT:∀ i s,St i s->s.TypeIs (.ref I) "list_reverseiterator") (st0:St 0 s) (hfp:∀ b∈fp,b<s.heap.objs.size) (hI:I∈fp) (hn:n<=D7)
  (k:∀ s' acc' c',Moved (s.heap.objs.size::wr) G { s with heap:=s.heap.push { cls:=.type "list",data:=.seq #[] } } s'->s'.heap.get? s.heap.objs.size=some { cls:=.type "list",dict:=none,data:=.seq acc' c',slots:=#[] }->ItemsOf P acc' n->Q (.ref s.heap.objs.size) s') :
  EA (EH prog w) A (call (.type "list") [.ref I]) Q E s:=by
 have nS:s.heap.objs.size∉fp:=fun hm=>Fo _ (hfp _ hm);refine callType_codes (Q₁:=fun obj s₁=>obj=.ref s.heap.objs.size/\s₁={ s with heap:=s.heap.push { cls:=.type "list",data:=.seq #[] } }) F.called_list (F.typeCall_list_1 _) F.entry_list_init (code_list_new _ ⟨rfl,rfl⟩) fun obj s₁ h₁=>?_;obtain ⟨rfl,rfl⟩:=h₁;have oS:(s.heap.push { cls:=.type "list",data:=.seq #[] }).get? s.heap.objs.size=some { cls:=.type "list",data:=.seq #[] }:=D4 _ rfl;refine ⟨⟨_,oS,rfl⟩,F.args_list_init_2 _ _,zk W hT _ (W.frame 0 s _ s.toks st0 (Av _) fun b _ o e=>χ _ e) nS hI oS hn fun s' acc' c' hm hS' hacc=>⟨rfl,k s' acc' c' hm hS' hacc⟩⟩
end
def Bi (K:W.Frag) (te:TE):TE:=fun σ H Q=>te σ H fun x H1=>∃ p ys,x=.ref p/\SqL K H1 p ys/\∀ l,H1 l=none->Q (.ref l) (upd H1 l (.lst ys.reverse))
theorem uf {its:List ς} {acc:Array ς} (h:ItemsOf (fun i v=>its.toArray[its.toArray.size - 1 - i]?=some v) acc its.toArray.size):acc.toList=its.reverse:=by
 obtain ⟨h1,h2⟩:=h;apply GS;intro i;by_cases hi:i<its.length
 ·have hs:i<acc.size:=by rw [h1]; simpa using hi
  have:=h2 i acc[i] (by simp [hs])
  rw [List.getElem?_reverse hi,Ex,LL hs,<- this];simp
 ·rw [FJ (by rw [EC,h1]; simp; omega),FJ (by rw [MS]; omega)]
def C9 (K:W.Frag) (x:V) (H:Hp) (Q:VK):Prop:=∃ p ys,x=.ref p/\SqL K H p ys/\∀ l,H l=none->Q (.ref l) (upd H l (.lst ys.reverse))
theorem Ah {K:W.Frag} {te:TE} {σ:St} {H:Hp} {Q:VK} (h:te σ H fun x H1=>C9 K x H1 Q):Bi K te σ H Q:=h
theorem Ct {K:W.Frag} {a:Δ} {ys:List V} {H:Hp} {Q:VK} (e:H a=some (.lst ys)) (h:∀ l,H l=none->Q (.ref l) (upd H l (.lst ys.reverse))):C9 K (.ref a) H Q:=⟨a,ys,rfl,SqL.of e,h⟩
section
variable {X:Cx}
theorem _root_.L2.Vals.rev {xs:List V} {vs:List ς} (h:Vals xs vs):Vals xs.reverse vs.reverse:=by
 induction h with
 | nil=>exact .nil
 | cons a b ih=>rw [Hr,Hr]; exact ih.append (.cons a .nil)
theorem xj {tg l:FE} {tl:TE} (K:W.Frag) (h:X.K=K) (hl:PE X l tl):PI X tg l (vX K tl):=h ▸ bz hl
theorem zG {e:FE} {te:TE} {p p2 pos pos2:HV} (K:W.Frag) (hK:X.K=K) (hc:X.calm=true) (hg:Gl X "list") (hm:X.mg "list"=none) (hg2:Gl X "reversed") (hm2:X.mg "reversed"=none) (ha:PE X e te)
  (hs:EV [.Call (.Name "reversed" p2) [e] [] pos2] X.env=[(false,F3 (.Call (.Name "reversed" p2) [e] [] pos2) X.env)]:=by rfl) (hs2:EV [e] X.env=[(false,F3 e X.env)]:=by rfl) :
  PE X (.Call (.Name "list" p) [.Call (.Name "reversed" p2) [e] [] pos2] [] pos) (Bi K te):=by
 subst hK;intro pins s σ H Q I h;refine Fz (cX I hg hm (by rfl) ?_ (by decide) (by decide));refine FD ?_ hs (by rfl);rw [hs];refine Fj (Fz (cX I hg2 hm2 (by rfl) ?_ (by decide) (by decide)));refine FD ?_ hs2 (by rfl);rw [hs2];refine Fj (thn (ha pins s σ H _ I h) fun v s1 ⟨x,H1,I1,r1,a,ys,hx,hl,q1⟩=>GP ?_);subst hx
 cases r1;obtain ⟨its,r,pl,hz⟩:=I1.list hl;have hlen:=r.length;refine call_reversed_list pl.isList (GP ?_);have alt:a<s1.heap.objs.size:=by obtain ⟨o,ho,_⟩:=pl.isList; exact D0 ho
 have I2:Inv X pins σ H1 { s1 with heap:=s1.heap.push (revObj a ((its.toArray.size:Int) - 1)) }:=I1.kept (t':=s1.toks) fun b ob q=>χ _ q;have hne:a≠s1.heap.objs.size:=D5 alt;refine mR (Walks.listRev (A:=X.A.in1.in1) (I.ok.hd hc) s1.heap.objs.size a hne its.toArray).toS (fun i s' st=>st.2.1.typeIs) ?_ ?_ (by simp) (by simp only [D8]; omega) ?_
 ·refine ⟨El _,⟨_,D4 _ rfl,rfl,?_⟩,?_⟩
  ·simp [revObj]
  ·exact pl.isList.at fun o e=>χ _ e
 ·intro b hb
  show b<(s1.heap.push _).objs.size
  rw [Hv];rcases B_.mp hb with z | z
  ·rw [z]; exact Kr _
  ·rw [show b=a from by simpa using z]; exact Gx alt
 ·intro s' acc' c' hm' hS' hacc;have hi:=uf hacc;have e1:=hm'.gens;have e2:=hm'.drawn;have e3:=hm'.os;have kp:=hm'.heap;obtain ⟨h',g',d',t',o'⟩:=s';dsimp only at e1 e2 e3 kp hS' ⊢;subst e1 e2 e3;have es:(s1.heap.push (revObj a ((its.toArray.size:Int) - 1))).objs.size=s1.heap.objs.size+1:=Hv ..;rw [es] at hS' kp ⊢;have keep:∀ b u,s1.heap.get? b=some u->h'.get? b=some u:=fun b u e=>by
   have hb:=D0 e;refine kp b u (fun z=>?_) (χ _ (χ _ e));rcases B_.mp z with z | z
   ·rw [z] at hb; exact absurd hb (HS.mpr (Gg _))
   ·rw [show b=s1.heap.objs.size from by simpa using z] at hb; exact Fo _ hb
  refine ⟨.ref _,_,I1.laid (t':=t') (o:=.lst ys.reverse) keep (Gg _) ?_,rfl,q1 _ (I1.hok.fresh (Gg _))⟩;refine ⟨by rw [MS]; exact hz,its.reverse,c',r.rev,?_⟩;rw [<- hi];exact hS'
end
end L2
set_option maxHeartbeats 1000000
namespace NR
noncomputable def sm:Nat->(Nat->Int)->Int
 | 0,_=>0
 | n+1,f=>sm n f+f n
noncomputable def ib (p:Prop) [Decidable p]:Int:=if p then 1 else 0
section
variable {n:Nat} {e d:Int->Int} {X Y:Nat->Int}
noncomputable def s1 (X Y:Nat->Int) (i k:Nat):Int:=ib (Y (i+1)<Y (k+1)\/(Y (i+1)=Y (k+1)/\X (i+1)<X (k+1)))
noncomputable def s2 (X Y:Nat->Int) (i k:Nat):Int:=ib (Y i<Y k\/(Y i=Y k/\X (i+1)<X (k+1)))
def Up (d:Int->Int) (X:Nat->Int) (i:Nat):Prop:=d (X (i+1))=1
instance (d:Int->Int) (X:Nat->Int) (i:Nat):Decidable (Up d X i):=inferInstanceAs (Decidable (_=_))
end
end NR
namespace Ts
open PySem PyProof.Rows
noncomputable def mY:Bool->C0->Array C0->Nat->Nat->Nat->StateT E9 KH (Option Nat):=sortPriv% PySem.Builtin.gallop
noncomputable def pJ:Array C0->Array C0->StateT E9 KH (Array C0):=sortPriv% PySem.Builtin.mergeLo
noncomputable def pI:Array C0->Array C0->StateT E9 KH (Array C0):=sortPriv% PySem.Builtin.mergeHi
structure cP (lt:C0->C0->Bool):Prop where
 asym:∀ {x y},lt x y=true->lt y x=false
 tr:∀ {x y z},lt y x=false->lt z y=false->lt z x=false
def Le (lt:C0->C0->Bool) (x y:C0):Prop:=lt y x=false
theorem cP.le_refl {lt:C0->C0->Bool} (L:cP lt) (x:C0):Le lt x x:=by
 unfold Le
 cases h:lt x x with
 | false=>rfl
 | true=>rw [L.asym h] at h; cases h
theorem cP.of_lt {lt:C0->C0->Bool} (L:cP lt) {x y:C0} (h:lt x y=true):Le lt x y:=L.asym h
theorem cP.trans {lt:C0->C0->Bool} (L:cP lt) {x y z:C0} (h:Le lt x y) (h':Le lt y z):Le lt x z:=L.tr h h'
section
variable {M:Iq} {A:Eg} {E:ς->Ω->Prop} {s:Ω}
def gR (M:Iq) (A:Eg) (E:ς->Ω->Prop) (s:Ω) (κ:GL) (S:C0->Prop) (lt:C0->C0->Bool):Prop :=
 ∀ (x y:C0) (st:E9) (Q:Option Bool->E9->Prop),S x->S y->GA st=κ->Q (some (lt x y)) st->LM M A E s (lt' x y) Q st
theorem aX {arr:Array C0} {i:Nat} {x:C0} {Q:C0->E9->Prop} {st:E9} (h:arr[i]?=some x) (q:Q x st):LM M A E s (elem' arr i) Q st:=by
 rw [elem'_eq,h];exact D9 q
structure Cut (b:Nat->Bool) (n k:Nat):Prop where
 le:k<=n
 yes:∀ i,i<k->b i=true
 no:∀ i,k<=i->i<n->b i=false
theorem rY {κ:GL} {S:C0->Prop} {lt:C0->C0->Bool} (H:gR M A E s κ S lt) {left:Bool} {key:C0} {arr:Array C0} {b n hint:Nat} {Q:Option Nat->E9->Prop} {st:E9} {at_:Nat->C0}
    (hk:GA st=κ) (sk:S key) (ha:∀ i,i<n->arr[b+i]?=some (at_ i)/\S (at_ i)) (hh:hint<n)
    (anti:∀ i j,i<=j->j<n->(if left then lt (at_ j) key else !lt key (at_ j))=true->(if left then lt (at_ i) key else !lt key (at_ i))=true)
    (h:∀ k,Cut (fun i=>if left then lt (at_ i) key else !lt key (at_ i)) n k->Q (some k) st):LM M A E s (mY left key arr b n hint) Q st:=by
  unfold mY;have bey:∀ (i:Nat) (Q:Option Bool->E9->Prop),i<n->Q (some (if left then lt (at_ i) key else !lt key (at_ i))) st->LM M A E s (do
      let x <- elem' arr (b+i)
      if left then lt' x key else return (<- lt' key x).map (!·)) Q st:=by
    intro i Q hi q;refine D3 (aX (ha i hi).1 ?_)
    cases left with
    | true=>exact H _ _ _ _ (ha i hi).2 sk hk q
    | false=>exact D3 (H _ _ _ _ sk (ha i hi).2 hk (D9 q))
  generalize hB:(fun i=>if left then lt (at_ i) key else !lt key (at_ i))=B at h;have hB':∀ i,(if left then lt (at_ i) key else !lt key (at_ i))=B i:=fun i=>by rw [<- hB]
  simp only [hB'] at bey anti;refine D3 (bey hint _ hh ?_);dsimp only;by_cases hr:B hint=true
  · rw [if_pos hr]
    refine D3 (GV (FT (I:=fun x (c:Option (Option Nat)×Nat×Nat) st'=>st=st'/\c.1=none/\x+1<=c.2.2/\c.2.1<c.2.2/\c.2.1<n - hint/\B (hint+c.2.1)=true)
      (Q:=fun (c:Option (Option Nat)×Nat×Nat) st'=>st=st'/\c.1=none/\c.2.1<c.2.2/\c.2.1<n - hint/\B (hint+c.2.1)=true/\(c.2.2<n - hint->B (hint+c.2.2)=false)) ?step ?fin ⟨rfl,rfl,Av _,Nat.zero_lt_one,by show 0<n - hint; omega,hr⟩) ?post)
    case fin =>
      rintro ⟨c1,l,o⟩ st' ⟨rfl,e,h1,h2,h3,h4⟩;dsimp only at e h1 h2 h3 h4 ⊢;exact ⟨rfl,e,h2,h3,h4,fun z=>by omega⟩
    case step =>
      rintro x ⟨c1,l,o⟩ st' _ hx ⟨rfl,e,h1,h2,h3,h4⟩;dsimp only at e h1 h2 h3 h4 ⊢;by_cases ho:o>=n - hint
      · rw [if_pos ho]
        exact D9 ⟨rfl,rfl,h2,h3,h4,fun z=>by dsimp only at z; omega⟩
      · rw [if_neg ho]
        refine D3 (bey _ _ (by omega) ?_);dsimp only
        cases hb:B (hint+o) with
        | false=>exact D9 ⟨rfl,rfl,h2,h3,h4,fun _=>hb⟩
        | true=>exact D9 ⟨rfl,rfl,by show x+1+1<=2*o+1; omega,by show o<2*o+1; omega,by show o<n - hint; omega,hb⟩
    case post =>
      rintro ⟨c1,l,o⟩ st' ⟨rfl,e,h2,h3,h4,h5⟩;dsimp only at e h2 h3 h4 h5 ⊢;subst e;dsimp only;refine D3 (GV (FT (I:=fun x (c:Option (Option Nat)×Nat×Nat) st'=>st=st'/\c.1=none/\c.2.1<=c.2.2/\c.2.2<=n/\c.2.2 - c.2.1+x<=n/\(∀ i,i<c.2.1->B i=true)/\(∀ i,c.2.2<=i->i<n->B i=false))
        (Q:=fun (c:Option (Option Nat)×Nat×Nat) st'=>st=st'/\c.1=none/\c.2.1=c.2.2/\c.2.2<=n/\(∀ i,i<c.2.1->B i=true)/\(∀ i,c.2.2<=i->i<n->B i=false)) ?step ?fin ?init) ?post)
      case init =>
        refine ⟨rfl,rfl,by dsimp only; omega,by dsimp only; omega,by dsimp only; omega,fun i hi=>?_,fun i hi hn=>?_⟩
        · dsimp only at hi
          exact anti i (hint+l) (by omega) (by omega) h4
        · dsimp only at hi
          have h6:=h5 (by omega)
          cases hb:B i with
          | false=>rfl
          | true=>rw [anti (hint+o) i (by omega) hn hb] at h6; cases h6
      case fin =>
        rintro ⟨c1,lo,hi⟩ st' ⟨rfl,e,h1,h2,h3,h4,h5⟩;dsimp only at e h1 h2 h3 h4 h5 ⊢;exact ⟨rfl,e,by omega,h2,h4,h5⟩
      case step =>
        rintro x ⟨c1,lo,hi⟩ st' _ hx ⟨rfl,e,h1,h2,h3,h4,h5⟩;dsimp only at e h1 h2 h3 h4 h5 ⊢;by_cases hd:lo>=hi
        · rw [if_pos hd]
          exact D9 ⟨rfl,rfl,by show lo=hi; omega,h2,h4,h5⟩
        · rw [if_neg hd]
          refine D3 (bey _ _ (by omega) ?_);dsimp only
          cases hb:B (lo+(hi - lo) / 2) with
          | true =>
            refine D9 ⟨rfl,rfl,by show lo+(hi - lo) / 2+1<=hi; omega,h2,by show hi - (lo+(hi - lo) / 2+1)+(x+1)<=n; omega,fun i hi'=>?_,h5⟩;dsimp only at hi';exact anti i _ (by omega) (by omega) hb
          | false =>
            refine D9 ⟨rfl,rfl,by show lo<=lo+(hi - lo) / 2; omega,by show lo+(hi - lo) / 2<=n; omega,by show lo+(hi - lo) / 2 - lo+(x+1)<=n; omega,h4,fun i hi' hn=>?_⟩;dsimp only at hi'
            cases hb2:B i with
            | false=>rfl
            | true=>rw [anti _ i (by omega) hn hb2] at hb; cases hb
      case post =>
        rintro ⟨c1,lo,hi⟩ st' ⟨rfl,e,h1,h2,h4,h5⟩;dsimp only at e h1 h2 h4 h5 ⊢;subst e h1;exact D9 (h _ ⟨h2,h4,h5⟩)
  · rw [if_neg hr]
    have hr':B hint=false:=by simpa using hr
    refine D3 (GV (FT (I:=fun x (c:Option (Option Nat)×Nat×Nat) st'=>st=st'/\c.1=none/\x+1<=c.2.2/\c.2.1<c.2.2/\c.2.1<=hint/\B (hint - c.2.1)=false)
      (Q:=fun (c:Option (Option Nat)×Nat×Nat) st'=>st=st'/\c.1=none/\c.2.1<c.2.2/\c.2.1<=hint/\B (hint - c.2.1)=false/\(c.2.2<=hint->B (hint - c.2.2)=true)) ?step ?fin ⟨rfl,rfl,Av _,Nat.zero_lt_one,by show 0<=hint; omega,hr'⟩) ?post)
    case fin =>
      rintro ⟨c1,l,o⟩ st' ⟨rfl,e,h1,h2,h3,h4⟩;dsimp only at e h1 h2 h3 h4 ⊢;exact ⟨rfl,e,h2,h3,h4,fun z=>by omega⟩
    case step =>
      rintro x ⟨c1,l,o⟩ st' _ hx ⟨rfl,e,h1,h2,h3,h4⟩;dsimp only at e h1 h2 h3 h4 ⊢;by_cases ho:o>=hint+1
      · rw [if_pos ho]
        exact D9 ⟨rfl,rfl,h2,h3,h4,fun z=>by dsimp only at z; omega⟩
      · rw [if_neg ho]
        refine D3 (bey _ _ (by omega) ?_);dsimp only
        cases hb:B (hint - o) with
        | true=>exact D9 ⟨rfl,rfl,h2,h3,h4,fun _=>hb⟩
        | false=>exact D9 ⟨rfl,rfl,by show x+1+1<=2*o+1; omega,by show o<2*o+1; omega,by show o<=hint; omega,hb⟩
    case post =>
      rintro ⟨c1,l,o⟩ st' ⟨rfl,e,h2,h3,h4,h5⟩;dsimp only at e h2 h3 h4 h5 ⊢;subst e;dsimp only;refine D3 (GV (FT (I:=fun x (c:Option (Option Nat)×Nat×Nat) st'=>st=st'/\c.1=none/\c.2.1<=c.2.2/\c.2.2<=n/\c.2.2 - c.2.1+x<=n/\(∀ i,i<c.2.1->B i=true)/\(∀ i,c.2.2<=i->i<n->B i=false))
        (Q:=fun (c:Option (Option Nat)×Nat×Nat) st'=>st=st'/\c.1=none/\c.2.1=c.2.2/\c.2.2<=n/\(∀ i,i<c.2.1->B i=true)/\(∀ i,c.2.2<=i->i<n->B i=false)) ?step ?fin ?init) ?post)
      case init =>
        refine ⟨rfl,rfl,by dsimp only; omega,by dsimp only; omega,by dsimp only; omega,fun i hi=>?_,fun i hi hn=>?_⟩
        · dsimp only at hi
          have h6:=h5 (by omega);exact anti i (hint - o) (by omega) (by omega) h6
        · dsimp only at hi
          cases hb:B i with
          | false=>rfl
          | true=>rw [anti (hint - l) i (by omega) hn hb] at h4; cases h4
      case fin =>
        rintro ⟨c1,lo,hi⟩ st' ⟨rfl,e,h1,h2,h3,h4,h5⟩;dsimp only at e h1 h2 h3 h4 h5 ⊢;exact ⟨rfl,e,by omega,h2,h4,h5⟩
      case step =>
        rintro x ⟨c1,lo,hi⟩ st' _ hx ⟨rfl,e,h1,h2,h3,h4,h5⟩;dsimp only at e h1 h2 h3 h4 h5 ⊢;by_cases hd:lo>=hi
        · rw [if_pos hd]
          exact D9 ⟨rfl,rfl,by show lo=hi; omega,h2,h4,h5⟩
        · rw [if_neg hd]
          refine D3 (bey _ _ (by omega) ?_);dsimp only
          cases hb:B (lo+(hi - lo) / 2) with
          | true =>
            refine D9 ⟨rfl,rfl,by show lo+(hi - lo) / 2+1<=hi; omega,h2,by show hi - (lo+(hi - lo) / 2+1)+(x+1)<=n; omega,fun i hi'=>?_,h5⟩;dsimp only at hi';exact anti i _ (by omega) (by omega) hb
          | false =>
            refine D9 ⟨rfl,rfl,by show lo<=lo+(hi - lo) / 2; omega,by show lo+(hi - lo) / 2<=n; omega,by show lo+(hi - lo) / 2 - lo+(x+1)<=n; omega,h4,fun i hi' hn=>?_⟩;dsimp only at hi'
            cases hb2:B i with
            | false=>rfl
            | true=>rw [anti _ i (by omega) hn hb2] at hb; cases hb
      case post =>
        rintro ⟨c1,lo,hi⟩ st' ⟨rfl,e,h1,h2,h4,h5⟩;dsimp only at e h1 h2 h4 h5 ⊢;subst e h1;exact D9 (h _ ⟨h2,h4,h5⟩)
end
end Ts
namespace Ts
open PySem PyProof.Rows
section
variable {M:Iq} {A:Eg} {E:ς->Ω->Prop} {s:Ω}
theorem gp {κ:GL} {S:C0->Prop} {lt:C0->C0->Bool} (L:cP lt) (H:gR M A E s κ S lt) {left:Bool} {key:C0} {arr:Array C0} {b n hint:Nat} {Q:Option Nat->E9->Prop} {st:E9}
  (hk:GA st=κ) (sk:S key) (hn:b+n<=arr.size) (hS:∀ x∈(arr.toList.drop b).take n,S x) (hs:((arr.toList.drop b).take n).Pairwise (Le lt)) (hh:hint<n)
  (h:∀ k,k<=n->(∀ x∈(arr.toList.drop b).take k,Le lt x key)->(∀ x∈((arr.toList.drop b).take n).drop k,Le lt key x)->Q (some k) st):LM M A E s (mY left key arr b n hint) Q st:=by
 have hlen:((arr.toList.drop b).take n).length=n:=by rw [FP,GH,EC]; omega
 have hat:∀ i,i<n->arr[b+i]?=((arr.toList.drop b).take n)[i]?:=by
  intro i hi;rw [GI hi,Iu,Ex]
 generalize hX:(arr.toList.drop b).take n=X at hS hs hlen hat h;have hat':∀ i (hi:i<n),X[i]?=some (X[i]?.getD key):=fun i hi=>by rw [ξ (by omega)]; rfl
 have mono:∀ i j,i<=j->j<n->Le lt (X[i]?.getD key) (X[j]?.getD key):=by
  intro i j hij hj;rcases Nat.lt_or_eq_of_le hij with hlt | rfl
  ·have:=(JA.mp hs) i j (by omega) (by omega) hlt
   rw [ξ (by omega),ξ (by omega)];exact this
  ·exact L.le_refl _
 refine rY H (at_:=fun i=>X[i]?.getD key) hk sk (fun i hi=>⟨by rw [hat i hi]; exact hat' i hi,hS _ (EW (hat' i hi))⟩) hh ?_ ?_
 ·intro i j hij hj
  cases left with
  | true =>
   show lt _ key=true->lt _ key=true
   intro z
   cases hb:lt (X[i]?.getD key) key with
   | true=>rfl
   | false =>
    have:lt (X[j]?.getD key) key=false:=L.trans hb (mono i j hij hj)
    rw [this] at z; cases z
  | false =>
   show (!lt key _)=true->(!lt key _)=true
   intro z;have z:lt key (X[j]?.getD key)=false:=by simpa using z
   have:lt key (X[i]?.getD key)=false:=L.trans (mono i j hij hj) z
   rw [this]; rfl
 ·intro k c;refine h k c.le (fun x hx=>?_) (fun x hx=>?_)
  ·obtain ⟨i,hi⟩:=Ep.mp hx
   have hik:i<k:=by
    have:=(Aw.mp hi).1
    rw [FP] at this; omega
   have e:X[i]?=some x:=by rw [<- hX,GI (by have:=c.le; omega),<- hi,GI hik]
   have:=c.yes i hik
   cases left with
   | true =>
    have this:lt (X[i]?.getD key) key=true:=this;rw [e] at this;exact L.asym this
   | false =>
    have this:(!lt key (X[i]?.getD key))=true:=this;rw [e] at this
    show lt key x=false
    simpa using this
  ·obtain ⟨i,hi⟩:=Ep.mp hx;rw [Iu] at hi;have hin:k+i<n:=by rw [<- hlen]; exact (Aw.mp hi).1
   have:=c.no (k+i) (by omega) hin
   cases left with
   | true =>
    have this:lt (X[k+i]?.getD key) key=false:=this;rw [hi] at this;exact this
   | false =>
    have this:(!lt key (X[k+i]?.getD key))=false:=this;rw [hi] at this;exact L.asym (by simpa using this)
end
structure Mg (lt:C0->C0->Bool) (a b out:List C0) (ia ib:Nat):Prop where
 perm:(out++(a.drop ia++b.drop ib)).Perm (a++b)
 srt:out.Pairwise (Le lt)
 le_:∀ x∈out,∀ y∈a.drop ia++b.drop ib,Le lt x y
def Res (lt:C0->C0->Bool) (a b r:List C0):Prop:=r.Perm (a++b)/\r.Pairwise (Le lt)
theorem Mg.a {lt:C0->C0->Bool} {a b out:List C0} {ia ib:Nat} (m:Mg lt a b out ia ib) (hA:a.Pairwise (Le lt)) (k:Nat) (h:∀ x∈(a.drop ia).take k,∀ y∈b.drop ib,Le lt x y) :
  Mg lt a b (out++(a.drop ia).take k) (ia+k) ib:=by
 have e:a.drop ia=(a.drop ia).take k++a.drop (ia+k):=by rw [<- Gn,Fq]
 have hA':=EZ (Fv ia a) hA;rw [e,EK] at hA';refine ⟨?_,?_,?_⟩
 ·have:=m.perm
  rw [e] at this;rw [EF];rw [EF] at this;exact this
 ·rw [EK];refine ⟨m.srt,hA'.1,fun x hx y hy=>m.le_ x hx y (Ea _ (Fg hy))⟩
 ·intro x hx y hy;rcases EE.mp hx with hx | hx
  ·refine m.le_ x hx y ?_;rcases EE.mp hy with hy | hy
   ·exact Ea _ (by rw [e]; exact D6 _ hy)
   ·exact D6 _ hy
  ·rcases EE.mp hy with hy | hy
   ·exact hA'.2.2 x hx y hy
   ·exact h x hx y hy
theorem Mg.b {lt:C0->C0->Bool} {a b out:List C0} {ia ib:Nat} (m:Mg lt a b out ia ib) (hB:b.Pairwise (Le lt)) (k:Nat) (h:∀ x∈(b.drop ib).take k,∀ y∈a.drop ia,Le lt x y) :
  Mg lt a b (out++(b.drop ib).take k) ia (ib+k):=by
 have e:b.drop ib=(b.drop ib).take k++b.drop (ib+k):=by rw [<- Gn,Fq]
 have hB':=EZ (Fv ib b) hB;rw [e,EK] at hB';refine ⟨?_,?_,?_⟩
 ·have:=m.perm
  refine KL ?_ this;rw [EF];refine G8 _ ?_;refine (List.perm_append_comm_assoc _ _ _).trans ?_;rw [<- e]
 ·rw [EK];refine ⟨m.srt,hB'.1,fun x hx y hy=>m.le_ x hx y (D6 _ (Fg hy))⟩
 ·intro x hx y hy;rcases EE.mp hx with hx | hx
  ·refine m.le_ x hx y ?_;rcases EE.mp hy with hy | hy
   ·exact Ea _ hy
   ·exact D6 _ (by rw [e]; exact D6 _ hy)
  ·rcases EE.mp hy with hy | hy
   ·exact h x hx y hy
   ·exact hB'.2.2 x hx y hy
theorem Mg.endB {lt:C0->C0->Bool} {a b out:List C0} {ia ib:Nat} (m:Mg lt a b out ia ib) (hA:a.Pairwise (Le lt)) (h:b.length<=ib):Res lt a b (out++a.drop ia++b.drop ib):=by
 have p:=m.perm;have q:=m.le_;rw [HD h,E2] at p q;rw [HD h,E2];exact ⟨p,EK.mpr ⟨m.srt,EZ (Fv _ _) hA,q⟩⟩
theorem Mg.endA {lt:C0->C0->Bool} {a b out:List C0} {ia ib:Nat} (m:Mg lt a b out ia ib) (hB:b.Pairwise (Le lt)) (h:a.length<=ia):Res lt a b (out++a.drop ia++b.drop ib):=by
 have p:=m.perm;have q:=m.le_;rw [HD h,IZ] at p q;rw [HD h,E2];exact ⟨p,EK.mpr ⟨m.srt,EZ (Fv _ _) hB,q⟩⟩
theorem Mg.last {lt:C0->C0->Bool} {a b out:List C0} {ia ib:Nat} (m:Mg lt a b out ia ib) (hA:a.Pairwise (Le lt)) (hB:b.Pairwise (Le lt)) (h:∀ y∈b.drop ib,∀ x∈a.drop ia,Le lt y x):Res lt a b (out++b.drop ib++a.drop ia):=by
 refine ⟨?_,?_⟩
 ·rw [EF];exact (G8 _ Jd).trans m.perm
 ·rw [EF,EK,EK];refine ⟨m.srt,⟨EZ (Fv _ _) hB,EZ (Fv _ _) hA,h⟩,fun x hx y hy=>m.le_ x hx y ?_⟩;rcases EE.mp hy with hy | hy
  ·exact D6 _ hy
  ·exact Ea _ hy
structure Sim (st st':E9):Prop where
 kind:GA st'=GA st
 arr:EI st'=EI st
 pend:EY st'=EY st
 failed:GK st'=GK st
theorem Sim.refl (st:E9):Sim st st:=⟨rfl,rfl,rfl,rfl⟩
theorem Sim.trans {a b c:E9} (x:Sim a b) (y:Sim b c):Sim a c:=⟨y.kind.trans x.kind,y.arr.trans x.arr,y.pend.trans x.pend,y.failed.trans x.failed⟩
theorem f7 {l:List C0} {i:Nat} (h:i<l.length):(l.drop i).take 1=[l[i]]:=by
 rw [GC h,GZ,Gm]
theorem eX (a:Array C0) (i k:Nat) (h:i+k<=a.size):(a.extract i (i+k)).toList=(a.toList.drop i).take k:=by
 rw [IS,HW]
 congr 1
 omega
theorem bJ (a:Array C0) (i:Nat):(a.extract i a.size).toList=a.toList.drop i:=by
 rw [IS,HW,EN];rw [GH,EC]; omega
end Ts
namespace Ts
open PySem PyProof.Rows
theorem h9 {lt:C0->C0->Bool} (L:cP lt) {l:List C0} (hl:l.Pairwise (Le lt)) {i:Nat} (h:i<l.length) {x:C0} (hx:Le lt x l[i]):∀ y∈l.drop i,Le lt x y:=by
 intro y hy;have h2:=EZ (Fv i l) hl;rw [GC h] at h2 hy;rcases B_.mp hy with rfl | hy
 ·exact hx
 ·exact L.trans hx ((E6.mp h2).1 y hy)
theorem Mg.pushA {lt:C0->C0->Bool} (L:cP lt) {a b out:List C0} {ia ib:Nat} (m:Mg lt a b out ia ib) (hA:a.Pairwise (Le lt)) (h:ia<a.length) (hle:∀ y∈b.drop ib,Le lt a[ia] y):Mg lt a b (out++[a[ia]]) (ia+1) ib:=by
 have:=m.a hA 1 (by
  intro x hx y hy;rw [f7 h] at hx;rw [Ax.mp hx];exact hle y hy)
 rw [f7 h] at this;exact this
theorem Mg.pushB {lt:C0->C0->Bool} (L:cP lt) {a b out:List C0} {ia ib:Nat} (m:Mg lt a b out ia ib) (hB:b.Pairwise (Le lt)) (h:ib<b.length) (hle:∀ y∈a.drop ia,Le lt b[ib] y):Mg lt a b (out++[b[ib]]) ia (ib+1):=by
 have:=m.b hB 1 (by
  intro x hx y hy;rw [f7 h] at hx;rw [Ax.mp hx];exact hle y hy)
 rw [f7 h] at this;exact this
noncomputable abbrev CS1:=Option (Array C0)×Array C0×Nat×Nat×Nat
noncomputable abbrev CS2:=Option (Array C0)×Array C0×Nat×Nat×Nat×Nat
noncomputable abbrev CS3:=Option (Array C0)×Array C0×Nat×Nat×Nat×Nat×Nat
section
variable {M:Iq} {A:Eg} {E:ς->Ω->Prop} {s:Ω}
theorem vh {α β γ δ ε:Type} {P:α×β×γ×δ×ε->Prop} (h:∀ a b c d e,P (a,b,c,d,e)):∀ x,P x:=fun x=>h x.1 x.2.1 x.2.2.1 x.2.2.2.1 x.2.2.2.2
theorem vi {α β γ δ ε ζ:Type} {P:α×β×γ×δ×ε×ζ->Prop} (h:∀ a b c d e f,P (a,b,c,d,e,f)):∀ x,P x:=fun x=>h x.1 x.2.1 x.2.2.1 x.2.2.2.1 x.2.2.2.2.1 x.2.2.2.2.2
theorem vj {α β γ δ ε ζ η:Type} {P:α×β×γ×δ×ε×ζ×η->Prop} (h:∀ a b c d e f g,P (a,b,c,d,e,f,g)):∀ x,P x:=fun x=>h x.1 x.2.1 x.2.2.1 x.2.2.2.1 x.2.2.2.2.1 x.2.2.2.2.2.1 x.2.2.2.2.2.2
theorem a8 {α:Type} {c:Prop} [Decidable c] {t e:StateT E9 KH α} {Q:α->E9->Prop} {st:E9} (h1:c->LM M A E s t Q st) (h2:¬ c->LM M A E s e Q st):LM M A E s (if c then t else e) Q st:=by
 split
 ·exact h1 ‹_›
 ·exact h2 ‹_›
theorem gr {α:Type} {c:Prop} [Decidable c] {t e:StateT E9 KH α} {Q:α->E9->Prop} {st:E9} (h:c) (k:LM M A E s t Q st):LM M A E s (if c then t else e) Q st:=a8 (fun _=>k) fun n=>absurd h n
theorem eF {α:Type} {c:Prop} [Decidable c] {t e:StateT E9 KH α} {Q:α->E9->Prop} {st:E9} (h:¬ c) (k:LM M A E s e Q st):LM M A E s (if c then t else e) Q st:=a8 (fun n=>absurd n h) fun _=>k
theorem i5 {α:Type} {c J:Prop} [Decidable c] {t e:StateT E9 KH α} {Q:α->E9->Prop} {st:E9} (h1:c->J->LM M A E s t Q st) (h2:¬ c->J->LM M A E s e Q st) (j:J):LM M A E s (if c then t else e) Q st:=a8 (fun c=>h1 c j) fun c=>h2 c j
theorem qv {κ:GL} {S:C0->Prop} {lt:C0->C0->Bool} (L:cP lt) (H:gR M A E s κ S lt) {a b:Array C0} {Q:Array C0->E9->Prop} {st:E9} (hk:GA st=κ)
  (hA:a.toList.Pairwise (Le lt)) (hB:b.toList.Pairwise (Le lt)) (sA:∀ x∈a.toList,S x) (sB:∀ x∈b.toList,S x) (na:0<a.size) (nb:0<b.size)
  (h0:∀ x∈a.toList,Le lt b[0] x) (hl:∀ y∈b.toList,∀ x∈a.toList.drop (a.size - 1),Le lt y x)
  (h:∀ r st',Sim st st'->Res lt a.toList b.toList r.toList->Q r st'):LM M A E s (pJ a b) Q st:=by
 have lA:a.toList.length=a.size:=EC;have lB:b.toList.length=b.size:=EC;have atA:∀ i (hi:i<a.size),a[i]?=some a[i]:=fun i hi=>getElem?_pos a i hi;have atB:∀ i (hi:i<b.size),b[i]?=some b[i]:=fun i hi=>getElem?_pos b i hi;have memA:∀ i (hi:i<a.size),S a[i]:=fun i hi=>sA _ (Gy hi);have memB:∀ i (hi:i<b.size),S b[i]:=fun i hi=>sB _ (Gy hi)
 have m0:Mg lt a.toList b.toList [b[0]] 0 1:=by
  have:=Mg.pushB L (lt:=lt) (a:=a.toList) (b:=b.toList) (out:=[]) (ia:=0) (ib:=0) ⟨List.Perm.refl _,GD,fun x hx=>nomatch hx⟩ hB (by omega) (fun y hy=>h0 y hy)
  exact this
 have last:∀ {out:List C0} {ia ib:Nat},Mg lt a.toList b.toList out ia ib->ia+1=a.size->Res lt a.toList b.toList (out++b.toList.drop ib++a.toList.drop ia):=by
  intro out ia ib m e;refine m.last hA hB fun y hy x hx=>hl y (F4 hy) x ?_;rw [<- e,Nat.add_sub_cancel]; exact hx
 unfold pJ;refine D3 (Jg (GO ⟨rfl,?_⟩));dsimp only;refine D3 (aX (atB 0 nb) ?_);refine a8 (fun c1=>?_) (fun c1=>?_)
 ·refine D9 (h _ _ (Sim.refl _) ?_);rw [DY,DY,bJ,bJ];exact m0.endB hA (by have:=beq_iff_eq.mp c1; omega)
 have c1:1≠b.size:=fun e=>c1 (beq_iff_eq.mpr e);refine a8 (fun c2=>?_) (fun c2=>?_)
 ·refine D9 (h _ _ (Sim.refl _) ?_);rw [DY,DY,bJ,bJ];exact last m0 (beq_iff_eq.mp c2)
 have c2:0+1≠a.size:=fun e=>c2 (beq_iff_eq.mpr e);refine D3 (IG ?_);refine D3 (GV (FT
  (I:=fun X (c:CS1) st'=>Sim st st'/\c.1=none/\Mg lt a.toList b.toList c.2.1.toList c.2.2.1 c.2.2.2.1/\c.2.2.1+1<a.size/\c.2.2.2.1<b.size/\X+1<=c.2.2.1+c.2.2.2.1)
  (Q:=fun (c:CS1) st'=>Sim st st'/\∃ r,c.1=some r/\Res lt a.toList b.toList r.toList) ?step ?fin ⟨Sim.refl _,rfl,m0,by show 0+1<a.size; omega,by show 1<b.size; omega,Av _⟩) ?post)
 case post =>
  refine vh fun c out ia ib g=>?_;rintro st' ⟨sm,r,e,hr⟩;dsimp only at e ⊢;subst e;exact D9 (h r _ sm hr)
 case fin =>
  refine vh fun c out ia ib g=>?_;intro st' hh;have sm:=hh.1;have e:=hh.2.1;have m:=hh.2.2.1;have h1:=hh.2.2.2.1;have h2:=hh.2.2.2.2.1;have h3:=hh.2.2.2.2.2;clear hh;dsimp only at h1 h2 h3;exfalso
  omega
 case step =>
  intro X;refine vh fun c out ia ib g=>?_;intro st1 _ hX hh;have sm:=hh.1;have e:=hh.2.1;have m:=hh.2.2.1;have h1:=hh.2.2.2.1;have h2:=hh.2.2.2.2.1;have h3:=hh.2.2.2.2.2;clear hh;dsimp only at e m h1 h2 h3 ⊢
  -- one at a time
  refine D3 (GV (FT
   (I:=fun x (c:CS2) st'=>Sim st st'/\c.1=none/\Mg lt a.toList b.toList c.2.1.toList c.2.2.1 c.2.2.2.1/\c.2.2.1+1<a.size/\c.2.2.2.1<b.size/\ia+ib+x<=c.2.2.1+c.2.2.2.1)
   (Q:=fun (c:CS2) st'=>Sim st st'/\((∃ r,c.1=some r/\Res lt a.toList b.toList r.toList)\/(c.1=none/\Mg lt a.toList b.toList c.2.1.toList c.2.2.1 c.2.2.2.1/\c.2.2.1+1<a.size/\c.2.2.2.1<b.size/\ia+ib+1<=c.2.2.1+c.2.2.2.1))) ?step ?fin ⟨sm,rfl,m,h1,h2,Av _⟩) ?post)
  case fin =>
   refine vi fun c out ia' ib' ac bc=>?_;intro st' hh;have sm:=hh.1;have e:=hh.2.1;have m:=hh.2.2.1;have k1:=hh.2.2.2.1;have k2:=hh.2.2.2.2.1;have k3:=hh.2.2.2.2.2;clear hh;dsimp only at e m k1 k2 k3 ⊢;exact ⟨sm,.inr ⟨e,m,k1,k2,by omega⟩⟩
  case step =>
   clear m h1 h2 sm;intro x;refine vi fun c out ia' ib' ac bc=>?_;intro st2 _ hx hh;have sm:=hh.1;have e:=hh.2.1;have m:=hh.2.2.1;have k1:=hh.2.2.2.1;have k2:=hh.2.2.2.2.1;have k3:=hh.2.2.2.2.2;clear hh;dsimp only at e m k1 k2 k3 ⊢;refine D3 (aX (atB ib' k2) ?_);refine D3 (aX (atA ia' (by omega)) ?_);refine D3 (H _ _ _ _ (memB _ k2) (memA _ (by omega)) (sm.kind.trans hk) ?_);dsimp only
   cases hb:lt b[ib'] a[ia'] with
   | true =>
    rw [if_pos rfl];refine D3 (aX (atB ib' k2) ?_)
    have m2:Mg lt a.toList b.toList (out.push b[ib']).toList ia' (ib'+1):=by
     rw [F9];exact m.pushB L hB (by omega) (h9 L hA (by omega) (L.of_lt hb))
    refine a8 (fun d1=>?_) (fun d1=>?_)
    ·refine D9 ⟨sm,.inl ⟨_,rfl,?_⟩⟩;rw [DY,DY,bJ,bJ];exact m2.endB hA (by have:=beq_iff_eq.mp d1; omega)
    ·have d1:ib'+1≠b.size:=fun e=>d1 (beq_iff_eq.mpr e);refine a8 (fun _=>?_) (fun _=>?_)
     ·exact D9 ⟨sm,.inr ⟨rfl,m2,k1,by show ib'+1<b.size; omega,by show ia+ib+1<=ia'+(ib'+1); omega⟩⟩
     ·exact D9 ⟨sm,rfl,m2,k1,by show ib'+1<b.size; omega,by show ia+ib+(x+1)<=ia'+(ib'+1); omega⟩
   | false =>
    rw [if_neg (by simp)];refine D3 (aX (atA ia' (by omega)) ?_)
    have m2:Mg lt a.toList b.toList (out.push a[ia']).toList (ia'+1) ib':=by
     rw [F9];exact m.pushA L hA (by omega) (h9 L hB (by omega) hb)
    refine a8 (fun d1=>?_) (fun d1=>?_)
    ·refine D9 ⟨sm,.inl ⟨_,rfl,?_⟩⟩;rw [DY,DY,bJ,bJ];exact last m2 (beq_iff_eq.mp d1)
    ·have d1:ia'+1+1≠a.size:=fun e=>d1 (beq_iff_eq.mpr e);refine a8 (fun _=>?_) (fun _=>?_)
     ·exact D9 ⟨sm,.inr ⟨rfl,m2,by show ia'+1+1<a.size; omega,k2,by show ia+ib+1<=ia'+1+ib'; omega⟩⟩
     ·exact D9 ⟨sm,rfl,m2,by show ia'+1+1<a.size; omega,k2,by show ia+ib+(x+1)<=ia'+1+ib'; omega⟩
  case post =>
   clear m h1 h2 sm;refine vi fun c out ia' ib' ac bc=>?_;rintro st2 ⟨sm,⟨r,e,hr⟩ | hh⟩
   ·dsimp only at e ⊢;subst e;exact D9 ⟨sm,r,rfl,hr⟩
   ·have e:=hh.1;have m:=hh.2.1;have k1:=hh.2.2.1;have k2:=hh.2.2.2.1;have k3:=hh.2.2.2.2;clear hh;dsimp only at e m k1 k2 k3 ⊢;subst e;refine D3 (Jg (GO ⟨rfl,?_⟩));refine D3 (GV (FT
     (I:=fun x (c:CS3) st'=>Sim st st'/\c.1=none/\Mg lt a.toList b.toList c.2.1.toList c.2.2.1 c.2.2.2.1/\c.2.2.1+1<a.size/\c.2.2.2.1<b.size/\ia'+ib'<=c.2.2.1+c.2.2.2.1)
     (Q:=fun (c:CS3) st'=>Sim st st'/\((∃ r,c.1=some r/\Res lt a.toList b.toList r.toList)\/(c.1=none/\Mg lt a.toList b.toList c.2.1.toList c.2.2.1 c.2.2.2.1/\c.2.2.1+1<a.size/\c.2.2.2.1<b.size/\ia'+ib'<=c.2.2.1+c.2.2.2.1))) ?step ?fin ⟨sm,rfl,m,k1,k2,Av _⟩) ?post)
    case fin =>
     refine vj fun c out ja jb g' ac bc=>?_;intro st' hh;have sm:=hh.1;have e:=hh.2.1;have m:=hh.2.2.1;have k1:=hh.2.2.2.1;have k2:=hh.2.2.2.2.1;have k3:=hh.2.2.2.2.2;clear hh;exact ⟨sm,.inr ⟨e,m,k1,k2,k3⟩⟩
    case post =>
     clear m k1 k2 sm;refine vj fun c out ja jb g' ac bc=>?_;rintro st3 ⟨sm,⟨r,e,hr⟩ | hh⟩
     ·dsimp only at e ⊢;subst e;exact D9 ⟨sm,r,rfl,hr⟩
     ·have e:=hh.1;have m:=hh.2.1;have k1:=hh.2.2.1;have k2:=hh.2.2.2.1;have k4:=hh.2.2.2.2;clear hh;dsimp only at e m k1 k2 k4 ⊢;subst e;refine D3 (Ge ?_);exact D9 ⟨sm.trans ⟨rfl,rfl,rfl,rfl⟩,rfl,m,k1,k2,by show X+1+1<=ja+jb; omega⟩
    case step =>
     clear m k1 k2 sm;intro x;refine vj fun c out ja jb g' ac bc=>?_;intro st3 _ hx hh;have sm:=hh.1;have e:=hh.2.1;have m:=hh.2.2.1;have k1:=hh.2.2.2.1;have k2:=hh.2.2.2.2.1;have k4:=hh.2.2.2.2.2;clear hh;dsimp only at e m k1 k2 k4 ⊢;apply i5
     ·intro gg j;generalize g' - 1=gn
      revert gn
      exact j
     ·intro gg j;exact j g'
     intro gn;refine D3 (Ge ?_);refine D3 (aX (atB jb k2) ?_);refine D3 (gp (b:=ja) (n:=a.size - ja) L H (sm.kind.trans hk) (memB jb k2) (by omega) (fun x hx=>sA x (F4 (Fg hx))) (EZ ((FG _ _).trans (Fv _ _)) hA) (by omega) ?_);intro k kn hle hge;rw [EN (by rw [GH]; omega),Gn] at hge;dsimp only;apply i5
     ·intro kp
      have m2:Mg lt a.toList b.toList (out++a.extract ja (ja+k)).toList (ja+k) jb:=by
       rw [DY,eX _ _ _ (by omega)];exact m.a hA k (fun x hx=>h9 L hB (by omega) (hle x hx))
      by_cases d1:(ja+k+1==a.size)=true
      ·intro j;clear j;refine gr d1 (D9 ⟨sm.trans ⟨rfl,rfl,rfl,rfl⟩,.inl ⟨_,rfl,?_⟩⟩);rw [DY,DY,bJ,bJ];exact last m2 (beq_iff_eq.mp d1)
      by_cases d2:(ja+k==a.size)=true
      ·intro j;clear j;refine eF d1 (gr d2 (D9 ⟨sm.trans ⟨rfl,rfl,rfl,rfl⟩,.inl ⟨_,rfl,?_⟩⟩));rw [DY,DY,bJ,bJ];exact m2.endA hB (by have:=beq_iff_eq.mp d2; omega)
      have d3:ja+k+1≠a.size:=fun e=>d1 (beq_iff_eq.mpr e);have d4:ja+k≠a.size:=fun e=>d2 (beq_iff_eq.mpr e);have kk:ja+k+1<a.size/\ia'+ib'<=ja+k+jb:=⟨by omega,by omega⟩
      generalize out++a.extract ja (ja+k)=out2 at m2 ⊢;have hg2:=hge;generalize ja+k=ia2 at m2 hg2 kk d1 d2 ⊢;intro j;refine eF d1 (eF d2 ?_);generalize k=u1
      revert u1
      clear d1 d2 d3 d4
      revert hg2
      revert kk
      revert m2
      revert ia2
      revert out2
      exact j
     ·intro kp;have k0:k=0:=by omega
      subst k0;have hge:∀ x∈a.toList.drop ja,Le lt b[jb] x:=hge;intro j;exact j out ja m ⟨k1,k4⟩ hge _
     intro out2 ia2 m2 kk hge u1;clear m hle kn k1 k4;have k1:=kk.1;have k4:=kk.2;refine D3 (aX (atB jb k2) ?_)
     have m3:Mg lt a.toList b.toList (out2.push b[jb]).toList ia2 (jb+1):=by
      rw [F9];exact m2.pushB L hB (by omega) hge
     refine a8 (fun d1=>?_) (fun d1=>?_)
     ·refine D9 ⟨sm.trans ⟨rfl,rfl,rfl,rfl⟩,.inl ⟨_,rfl,?_⟩⟩;rw [DY,DY,bJ,bJ];exact m3.endB hA (by have:=beq_iff_eq.mp d1; omega)
     have d1:jb+1≠b.size:=fun e=>d1 (beq_iff_eq.mpr e);refine D3 (aX (atA ia2 (by omega)) ?_);refine D3 (gp (b:=jb+1) (n:=b.size - (jb+1)) L H (sm.kind.trans hk) (memA ia2 (by omega)) (by omega) (fun x hx=>sB x (F4 (Fg hx))) (EZ ((FG _ _).trans (Fv _ _)) hB) (by omega) ?_);intro k' kn hle hge';rw [EN (by rw [GH]; omega),Gn] at hge';dsimp only;apply i5
     ·intro kp
      have m4:Mg lt a.toList b.toList (out2.push b[jb]++b.extract (jb+1) (jb+1+k')).toList ia2 (jb+1+k'):=by
       rw [DY,eX _ _ _ (by omega)];exact m3.b hB k' (fun x hx=>h9 L hA (by omega) (hle x hx))
      by_cases d3:(jb+1+k'==b.size)=true
      ·intro j;clear j;refine gr d3 (D9 ⟨sm.trans ⟨rfl,rfl,rfl,rfl⟩,.inl ⟨_,rfl,?_⟩⟩);rw [DY,DY,bJ,bJ];exact m4.endB hA (by have:=beq_iff_eq.mp d3; omega)
      have d4:jb+1+k'≠b.size:=fun e=>d3 (beq_iff_eq.mpr e);have kk:jb+1+k'<b.size/\ia'+ib'<=ia2+1+(jb+1+k'):=⟨by omega,by omega⟩
      generalize out2.push (b[jb]'k2)++b.extract (jb+1) (jb+1+k')=out3 at m4 ⊢;have hg2:=hge';generalize jb+1+k'=jb2 at m4 hg2 kk d3 ⊢;intro j;refine eF d3 ?_;clear d3 d4;generalize k'=u2
      revert u2
      revert hg2
      revert kk
      revert m4
      revert jb2
      revert out3
      exact j
     ·intro kp;have k0:k'=0:=by omega
      subst k0;have kk:jb+1<b.size/\ia'+ib'<=ia2+1+(jb+1):=⟨by omega,by omega⟩
      intro j;exact j _ _ m3 kk hge' _
     intro out3 jb2 m4 kz hge' u2;refine D3 (aX (atA ia2 (by omega)) ?_)
     have m6:Mg lt a.toList b.toList (out3.push a[ia2]).toList (ia2+1) jb2:=by
      rw [F9];exact m4.pushA L hA (by omega) hge'
     refine a8 (fun d4=>?_) (fun d4=>?_)
     ·refine D9 ⟨sm.trans ⟨rfl,rfl,rfl,rfl⟩,.inl ⟨_,rfl,?_⟩⟩;rw [DY,DY,bJ,bJ];exact last m6 (beq_iff_eq.mp d4)
     have d4:ia2+1+1≠a.size:=fun e=>d4 (beq_iff_eq.mpr e);have kz:ia2+1+1<a.size/\jb2<b.size/\ia'+ib'<=ia2+1+jb2:=⟨by omega,kz.1,kz.2⟩
     refine a8 (fun _=>?_) (fun _=>?_)
     ·exact D9 ⟨sm.trans ⟨rfl,rfl,rfl,rfl⟩,.inr ⟨rfl,m6,kz⟩⟩
     ·exact D9 ⟨sm.trans ⟨rfl,rfl,rfl,rfl⟩,rfl,m6,kz⟩
end
end Ts
namespace Ts
open PySem PyProof.Rows
structure Mh (lt:C0->C0->Bool) (a b out:List C0) (na nb:Nat):Prop where
 perm:(a.take na++b.take nb++out.reverse).Perm (a++b)
 srt:out.reverse.Pairwise (Le lt)
 le_:∀ x∈out,∀ y∈a.take na++b.take nb,Le lt y x
theorem fq (l:List C0) {i n:Nat} (h:i<=n):l.take n=l.take i++(l.take n).drop i:=by
 have:=Fq i (l.take n)
 rw [List.take_take,Jc h] at this;exact this.symm
theorem Mh.a {lt:C0->C0->Bool} {a b out:List C0} {na nb:Nat} (m:Mh lt a b out na nb) (hA:a.Pairwise (Le lt)) (i:Nat) (hi:i<=na) (h:∀ x∈(a.take na).drop i,∀ y∈b.take nb,Le lt y x) :
  Mh lt a b (out++((a.take na).drop i).reverse) i nb:=by
 have e:=fq a hi;have hA':=EZ (FG na a) hA;rw [e,EK] at hA';refine ⟨?_,?_,?_⟩
 ·refine KL ?_ m.perm;rw [Ih,IU,<- EF];refine G3 _ ?_
  conv=>rhs; rw [e]
  rw [EF,EF];exact G8 _ Jd
 ·rw [Ih,IU,EK];exact ⟨hA'.2.1,m.srt,fun x hx y hy=>m.le_ y (Gh.mp hy) x (Ea _ (F4 hx))⟩
 ·intro x hx y hy;rcases EE.mp hx with hx | hx
  ·refine m.le_ x hx y ?_;rcases EE.mp hy with hy | hy
   ·exact Ea _ (by rw [e]; exact Ea _ hy)
   ·exact D6 _ hy
  ·have hx:=Gh.mp hx;rcases EE.mp hy with hy | hy
   ·exact hA'.2.2 y hy x hx
   ·exact h x hx y hy
theorem Mh.b {lt:C0->C0->Bool} {a b out:List C0} {na nb:Nat} (m:Mh lt a b out na nb) (hB:b.Pairwise (Le lt)) (i:Nat) (hi:i<=nb) (h:∀ x∈(b.take nb).drop i,∀ y∈a.take na,Le lt y x) :
  Mh lt a b (out++((b.take nb).drop i).reverse) na i:=by
 have e:=fq b hi;have hB':=EZ (FG nb b) hB;rw [e,EK] at hB';refine ⟨?_,?_,?_⟩
 ·refine KL ?_ m.perm;rw [Ih,IU,<- EF];refine G3 _ ?_
  conv=>rhs; rw [e]
  rw [EF]
 ·rw [Ih,IU,EK];exact ⟨hB'.2.1,m.srt,fun x hx y hy=>m.le_ y (Gh.mp hy) x (D6 _ (F4 hx))⟩
 ·intro x hx y hy;rcases EE.mp hx with hx | hx
  ·refine m.le_ x hx y ?_;rcases EE.mp hy with hy | hy
   ·exact Ea _ hy
   ·exact D6 _ (by rw [e]; exact Ea _ hy)
  ·have hx:=Gh.mp hx;rcases EE.mp hy with hy | hy
   ·exact h x hx y hy
   ·exact hB'.2.2 y hy x hx
theorem Mh.endA {lt:C0->C0->Bool} {a b out:List C0} {na nb:Nat} (m:Mh lt a b out na nb) (hB:b.Pairwise (Le lt)) (h:na=0):Res lt a b (a.take na++b.take nb++out.reverse):=by
 subst h;refine ⟨m.perm,?_⟩;rw [Gm,IZ,EK];exact ⟨EZ (FG _ _) hB,m.srt,fun x hx y hy=>m.le_ y (Gh.mp hy) x (D6 _ hx)⟩
theorem Mh.endB {lt:C0->C0->Bool} {a b out:List C0} {na nb:Nat} (m:Mh lt a b out na nb) (hA:a.Pairwise (Le lt)) (h:nb=0):Res lt a b (a.take na++b.take nb++out.reverse):=by
 subst h;refine ⟨m.perm,?_⟩;rw [Gm,E2,EK];exact ⟨EZ (FG _ _) hA,m.srt,fun x hx y hy=>m.le_ y (Gh.mp hy) x (Ea _ hx)⟩
theorem Mh.first {lt:C0->C0->Bool} {a b out:List C0} {na nb:Nat} (m:Mh lt a b out na nb) (hA:a.Pairwise (Le lt)) (hB:b.Pairwise (Le lt)) (h:∀ y∈b.take nb,∀ x∈a.take na,Le lt y x):Res lt a b (b.take nb++a.take na++out.reverse):=by
 refine ⟨(G3 _ Jd).trans m.perm,?_⟩;rw [EK,EK];refine ⟨⟨EZ (FG _ _) hB,EZ (FG _ _) hA,h⟩,m.srt,fun x hx y hy=>m.le_ y (Gh.mp hy) x ?_⟩;rcases EE.mp hx with hx | hx
 ·exact D6 _ hx
 ·exact Ea _ hx
theorem gk {l:List C0} {i:Nat} (h:i<l.length):(l.take (i+1)).drop i=[l[i]]:=by
 rw [Iv,show i+1 - i=1 by omega,f7 h]
theorem ip {lt:C0->C0->Bool} (L:cP lt) {l:List C0} (hl:l.Pairwise (Le lt)) {i:Nat} (h:i<l.length) {x:C0} (hx:Le lt l[i] x):∀ y∈l.take (i+1),Le lt y x:=by
 intro y hy;rw [fq l (Gg i),gk h] at hy;rcases EE.mp hy with hy | hy
 ·have h2:=EZ (FG (i+1) l) hl;rw [fq l (Gg i),gk h,EK] at h2;exact L.trans (h2.2.2 y hy _ (Ax.mpr rfl)) hx
 ·rw [Ax.mp hy]; exact hx
theorem Mh.pushA {lt:C0->C0->Bool} (L:cP lt) {a b out:List C0} {na nb:Nat} (m:Mh lt a b out (na+1) nb) (hA:a.Pairwise (Le lt)) (h:na<a.length) (hle:∀ y∈b.take nb,Le lt y a[na]):Mh lt a b (out++[a[na]]) na nb:=by
 have:=m.a hA na (Gg _) (by
  intro x hx y hy;rw [gk h] at hx;rw [Ax.mp hx];exact hle y hy)
 rw [gk h] at this;exact this
theorem Mh.pushB {lt:C0->C0->Bool} (L:cP lt) {a b out:List C0} {na nb:Nat} (m:Mh lt a b out na (nb+1)) (hB:b.Pairwise (Le lt)) (h:nb<b.length) (hle:∀ y∈a.take na,Le lt y b[nb]):Mh lt a b (out++[b[nb]]) na nb:=by
 have:=m.b hB nb (Gg _) (by
  intro x hx y hy;rw [gk h] at hx;rw [Ax.mp hx];exact hle y hy)
 rw [gk h] at this;exact this
theorem bp (a:Array C0) (n:Nat):(a.extract 0 n).toList=a.toList.take n:=by
 rw [IS,HW,Jr]; rfl
theorem sH (a:Array C0) (i n:Nat):(a.extract i n).reverse.toList=((a.toList.take n).drop i).reverse:=by
 rw [Ff,IS,HW,Iv]
noncomputable abbrev CH1:=Option (Array C0)×Nat×Nat×Array C0×Nat
noncomputable abbrev CH2:=Option (Array C0)×Nat×Nat×Array C0×Nat×Nat
noncomputable abbrev CH3:=Option (Array C0)×Nat×Nat×Array C0×Nat×Nat×Nat
section
variable {M:Iq} {A:Eg} {E:ς->Ω->Prop} {s:Ω}
theorem qu {κ:GL} {S:C0->Prop} {lt:C0->C0->Bool} (L:cP lt) (H:gR M A E s κ S lt) {a b:Array C0} {Q:Array C0->E9->Prop} {st:E9} (hk:GA st=κ)
  (hA:a.toList.Pairwise (Le lt)) (hB:b.toList.Pairwise (Le lt)) (sA:∀ x∈a.toList,S x) (sB:∀ x∈b.toList,S x) (na0:0<a.size) (nb0:0<b.size)
  (h0:∀ x∈a.toList,Le lt b[0] x) (hl:∀ y∈b.toList,∀ x∈a.toList.drop (a.size - 1),Le lt y x)
  (h:∀ r st',Sim st st'->Res lt a.toList b.toList r.toList->Q r st'):LM M A E s (pI a b) Q st:=by
 have lA:a.toList.length=a.size:=EC;have lB:b.toList.length=b.size:=EC;have atA:∀ i (hi:i<a.size),a[i]?=some a[i]:=fun i hi=>getElem?_pos a i hi;have atB:∀ i (hi:i<b.size),b[i]?=some b[i]:=fun i hi=>getElem?_pos b i hi;have memA:∀ i (hi:i<a.size),S a[i]:=fun i hi=>sA _ (Gy hi);have memB:∀ i (hi:i<b.size),S b[i]:=fun i hi=>sB _ (Gy hi)
 have m0:Mh lt a.toList b.toList [a[a.size - 1]] (a.size - 1) b.size:=by
  have e1:a.size - 1+1=a.size:=by omega
  have:=Mh.pushA L (lt:=lt) (a:=a.toList) (b:=b.toList) (out:=[]) (na:=a.size - 1) (nb:=b.size) (by
   rw [e1];refine ⟨?_,GD,fun x hx=>nomatch hx⟩;rw [EN (by omega),EN (by omega),List.reverse_nil,E2]) hA (by omega) (by
   intro y hy;refine hl y (Fg hy) _ ?_;rw [GC (by omega)];exact Θ)
  exact this
 have first:∀ {out:List C0} {na nb:Nat},Mh lt a.toList b.toList out na nb->nb=1->Res lt a.toList b.toList (b.toList.take nb++a.toList.take na++out.reverse):=by
  intro out na nb m e;refine m.first hA hB fun y hy x hx=>?_;subst e;rw [show b.toList.take 1=[b[0]] by have:=f7 (l:=b.toList) (i:=0) (by omega); exact this] at hy;rw [Ax.mp hy];exact h0 x (Fg hx)
 unfold pI;refine D3 (Jg (GO ⟨rfl,?_⟩));dsimp only;refine D3 (aX (atA (a.size - 1) (by omega)) ?_);refine a8 (fun c1=>?_) (fun c1=>?_)
 ·refine D9 (h _ _ (Sim.refl _) ?_);rw [DY,DY,bp,bp,Ff];exact m0.endA hB (beq_iff_eq.mp c1)
 have c1:a.size - 1≠0:=fun e=>c1 (beq_iff_eq.mpr e);refine a8 (fun c2=>?_) (fun c2=>?_)
 ·refine D9 (h _ _ (Sim.refl _) ?_);rw [DY,DY,bp,bp,Ff];exact first m0 (beq_iff_eq.mp c2)
 have c2:b.size≠1:=fun e=>c2 (beq_iff_eq.mpr e);refine D3 (IG ?_);refine D3 (GV (FT
  (I:=fun X (c:CH1) st'=>Sim st st'/\c.1=none/\Mh lt a.toList b.toList c.2.2.2.1.toList c.2.1 c.2.2.1/\0<c.2.1/\c.2.1<=a.size/\1<c.2.2.1/\c.2.2.1<=b.size/\X+1+c.2.1+c.2.2.1<=a.size+b.size)
  (Q:=fun (c:CH1) st'=>Sim st st'/\∃ r,c.1=some r/\Res lt a.toList b.toList r.toList) ?step ?fin ⟨Sim.refl _,rfl,m0,by show 0<a.size - 1; omega,by show a.size - 1<=a.size; omega,by show 1<b.size; omega,Av _,by show 0+1+(a.size - 1)+b.size<=a.size+b.size; omega⟩) ?post)
 case post =>
  refine vh fun c na nb out g=>?_;rintro st' ⟨sm,r,e,hr⟩;dsimp only at e ⊢;subst e;exact D9 (h r _ sm hr)
 case fin =>
  refine vh fun c na nb out g=>?_;intro st' hh;have sm:=hh.1;have e:=hh.2.1;have m:=hh.2.2.1;have h1:=hh.2.2.2.1;have h2:=hh.2.2.2.2.1;have h3:=hh.2.2.2.2.2.1;have h4:=hh.2.2.2.2.2.2.1;have h5:=hh.2.2.2.2.2.2.2;clear hh;dsimp only at h1 h2 h3 h4 h5;exfalso
  omega
 case step =>
  intro X;refine vh fun c na nb out g=>?_;intro st1 _ hX hh;have sm:=hh.1;have e:=hh.2.1;have m:=hh.2.2.1;have h1:=hh.2.2.2.1;have h2:=hh.2.2.2.2.1;have h3:=hh.2.2.2.2.2.1;have h4:=hh.2.2.2.2.2.2.1;have h5:=hh.2.2.2.2.2.2.2;clear hh;dsimp only at e m h1 h2 h3 h4 h5 ⊢;refine D3 (GV (FT
   (I:=fun x (c:CH2) st'=>Sim st st'/\c.1=none/\Mh lt a.toList b.toList c.2.2.2.1.toList c.2.1 c.2.2.1/\0<c.2.1/\c.2.1<=a.size/\1<c.2.2.1/\c.2.2.1<=b.size/\x+c.2.1+c.2.2.1<=na+nb)
   (Q:=fun (c:CH2) st'=>Sim st st'/\((∃ r,c.1=some r/\Res lt a.toList b.toList r.toList)\/(c.1=none/\Mh lt a.toList b.toList c.2.2.2.1.toList c.2.1 c.2.2.1/\0<c.2.1/\c.2.1<=a.size/\1<c.2.2.1/\c.2.2.1<=b.size/\1+c.2.1+c.2.2.1<=na+nb))) ?step ?fin ⟨sm,rfl,m,h1,h2,h3,h4,by show 0+na+nb<=na+nb; omega⟩) ?post)
  case fin =>
   refine vi fun c na' nb' out ac bc=>?_;intro st' hh;have sm:=hh.1;have e:=hh.2.1;have m:=hh.2.2.1;have k1:=hh.2.2.2.1;have k2:=hh.2.2.2.2.1;have k3:=hh.2.2.2.2.2.1;have k4:=hh.2.2.2.2.2.2.1;have k5:=hh.2.2.2.2.2.2.2;clear hh;dsimp only at e m k1 k2 k3 k4 k5 ⊢;exact ⟨sm,.inr ⟨e,m,k1,k2,k3,k4,by omega⟩⟩
  case step =>
   clear m h1 h2 h3 h4 sm;intro x;refine vi fun c na' nb' out ac bc=>?_;intro st2 _ hx hh;have sm:=hh.1;have e:=hh.2.1;have m:=hh.2.2.1;have k1:=hh.2.2.2.1;have k2:=hh.2.2.2.2.1;have k3:=hh.2.2.2.2.2.1;have k4:=hh.2.2.2.2.2.2.1;have k5:=hh.2.2.2.2.2.2.2;clear hh;dsimp only at e m k1 k2 k3 k4 k5 ⊢;generalize epa:na' - 1=pa;obtain rfl:na'=pa+1:=by omega
   clear epa;generalize epb:nb' - 1=pb;obtain rfl:nb'=pb+1:=by omega
   clear epb;refine D3 (aX (atB pb (by omega)) ?_);refine D3 (aX (atA pa (by omega)) ?_);refine D3 (H _ _ _ _ (memB _ (by omega)) (memA _ (by omega)) (sm.kind.trans hk) ?_);dsimp only
   cases hb:lt b[pb] a[pa] with
   | true =>
    rw [if_pos rfl];refine D3 (aX (atA pa (by omega)) ?_)
    have m2:Mh lt a.toList b.toList (out.push a[pa]).toList pa (pb+1):=by
     rw [F9];exact m.pushA L hA (by omega) (ip L hB (by omega) (L.of_lt hb))
    refine a8 (fun d1=>?_) (fun d1=>?_)
    ·refine D9 ⟨sm,.inl ⟨_,rfl,?_⟩⟩;rw [DY,DY,bp,bp,Ff];exact m2.endA hB (beq_iff_eq.mp d1)
    ·have d1:pa≠0:=fun e=>d1 (beq_iff_eq.mpr e);refine a8 (fun _=>?_) (fun _=>?_)
     ·exact D9 ⟨sm,.inr ⟨rfl,m2,by show 0<pa; omega,by show pa<=a.size; omega,k3,k4,by show 1+pa+(pb+1)<=na+nb; omega⟩⟩
     ·exact D9 ⟨sm,rfl,m2,by show 0<pa; omega,by show pa<=a.size; omega,k3,k4,by show x+1+pa+(pb+1)<=na+nb; omega⟩
   | false =>
    rw [if_neg (by simp)];refine D3 (aX (atB pb (by omega)) ?_)
    have m2:Mh lt a.toList b.toList (out.push b[pb]).toList (pa+1) pb:=by
     rw [F9];exact m.pushB L hB (by omega) (ip L hA (by omega) hb)
    refine a8 (fun d1=>?_) (fun d1=>?_)
    ·refine D9 ⟨sm,.inl ⟨_,rfl,?_⟩⟩;rw [DY,DY,bp,bp,Ff];exact first m2 (beq_iff_eq.mp d1)
    ·have d1:pb≠1:=fun e=>d1 (beq_iff_eq.mpr e);refine a8 (fun _=>?_) (fun _=>?_)
     ·exact D9 ⟨sm,.inr ⟨rfl,m2,k1,k2,by show 1<pb; omega,by show pb<=b.size; omega,by show 1+(pa+1)+pb<=na+nb; omega⟩⟩
     ·exact D9 ⟨sm,rfl,m2,k1,k2,by show 1<pb; omega,by show pb<=b.size; omega,by show x+1+(pa+1)+pb<=na+nb; omega⟩
  case post =>
   clear m h1 h2 h3 h4 sm;refine vi fun c na' nb' out ac bc=>?_;rintro st2 ⟨sm,⟨r,e,hr⟩ | hh⟩
   ·dsimp only at e ⊢;subst e;exact D9 ⟨sm,r,rfl,hr⟩
   ·have e:=hh.1;have m:=hh.2.1;have k1:=hh.2.2.1;have k2:=hh.2.2.2.1;have k3:=hh.2.2.2.2.1;have k4:=hh.2.2.2.2.2.1;have k5:=hh.2.2.2.2.2.2;clear hh;dsimp only at e m k1 k2 k3 k4 k5 ⊢;subst e;refine D3 (Jg (GO ⟨rfl,?_⟩));refine D3 (GV (FT
     (I:=fun x (c:CH3) st'=>Sim st st'/\c.1=none/\Mh lt a.toList b.toList c.2.2.2.1.toList c.2.1 c.2.2.1/\0<c.2.1/\c.2.1<=a.size/\1<c.2.2.1/\c.2.2.1<=b.size/\c.2.1+c.2.2.1<=na'+nb')
     (Q:=fun (c:CH3) st'=>Sim st st'/\((∃ r,c.1=some r/\Res lt a.toList b.toList r.toList)\/(c.1=none/\Mh lt a.toList b.toList c.2.2.2.1.toList c.2.1 c.2.2.1/\0<c.2.1/\c.2.1<=a.size/\1<c.2.2.1/\c.2.2.1<=b.size/\c.2.1+c.2.2.1<=na'+nb'))) ?step ?fin ⟨sm,rfl,m,k1,k2,k3,k4,Av _⟩) ?post)
    case fin =>
     refine vj fun c ja jb out g' ac bc=>?_;intro st' hh;have sm:=hh.1;have e:=hh.2.1;have m:=hh.2.2.1;have k:=hh.2.2.2;clear hh;exact ⟨sm,.inr ⟨e,m,k⟩⟩
    case post =>
     clear m k1 k2 k3 k4 sm;refine vj fun c ja jb out g' ac bc=>?_;rintro st3 ⟨sm,⟨r,e,hr⟩ | hh⟩
     ·dsimp only at e ⊢;subst e;exact D9 ⟨sm,r,rfl,hr⟩
     ·have e:=hh.1;have m:=hh.2.1;have k1:=hh.2.2.1;have k2:=hh.2.2.2.1;have k3:=hh.2.2.2.2.1;have k4:=hh.2.2.2.2.2.1;have k6:=hh.2.2.2.2.2.2;clear hh;dsimp only at e m k1 k2 k3 k4 k6 ⊢;subst e;refine D3 (Ge ?_);exact D9 ⟨sm.trans ⟨rfl,rfl,rfl,rfl⟩,rfl,m,k1,k2,k3,k4,by show X+1+1+ja+jb<=a.size+b.size; omega⟩
    case step =>
     clear m k1 k2 k3 k4 sm;intro x;refine vj fun c ja jb out g' ac bc=>?_;intro st3 _ hx hh;have sm:=hh.1;have e:=hh.2.1;have m:=hh.2.2.1;have k1:=hh.2.2.2.1;have k2:=hh.2.2.2.2.1;have k3:=hh.2.2.2.2.2.1;have k4:=hh.2.2.2.2.2.2.1;have k6:=hh.2.2.2.2.2.2.2;clear hh;dsimp only at e m k1 k2 k3 k4 k6 ⊢;generalize epb:jb - 1=pb;obtain rfl:jb=pb+1:=by omega
     clear epb;apply i5
     ·intro gg j;generalize g' - 1=gn
      revert gn
      exact j
     ·intro gg j;exact j g'
     intro gn;refine D3 (Ge ?_);refine D3 (aX (atB pb (by omega)) ?_);refine D3 (gp (b:=0) (n:=ja) L H (sm.kind.trans hk) (memB pb (by omega)) (by omega) (fun x hx=>sA x (F4 (Fg hx))) (EZ ((FG _ _).trans (Fv _ _)) hA) (by omega) ?_);intro i kn hle hge;rw [Jr] at hle hge;dsimp only;apply i5
     ·intro kp
      have m2:Mh lt a.toList b.toList (out++(a.extract i ja).reverse).toList i (pb+1):=by
       rw [DY,sH];exact m.a hA i kn (fun x hx=>ip L hB (by omega) (hge x hx))
      by_cases d1:(i==0)=true
      ·intro j;clear j;refine gr d1 ?_;refine D9 ⟨sm.trans ⟨rfl,rfl,rfl,rfl⟩,.inl ⟨_,rfl,?_⟩⟩;rw [DY,DY,bp,bp,Ff];exact m2.endA hB (beq_iff_eq.mp d1)
      have d2:i≠0:=fun e=>d1 (beq_iff_eq.mpr e);have kk:0<i/\i<=a.size/\i+(pb+1)<=na'+nb':=⟨by omega,by omega,by omega⟩
      intro j;refine eF d1 ?_;generalize out++(a.extract i ja).reverse=out2 at m2 ⊢;generalize ja - i=u1
      revert u1
      revert kk
      revert m2
      revert out2
      exact j
     ·intro kp;have k0:i=ja:=by omega
      subst k0;intro j;exact j out m ⟨k1,k2,k6⟩ _
     intro out2 m2 kk u1;clear m hge kn k6;obtain ⟨k1,k2,k6⟩:=kk;generalize epa:i - 1=pa;obtain rfl:i=pa+1:=by omega
     clear epa;refine D3 (aX (atB pb (by omega)) ?_)
     have m3:Mh lt a.toList b.toList (out2.push b[pb]).toList (pa+1) pb:=by
      rw [F9];exact m2.pushB L hB (by omega) hle
     refine a8 (fun d1=>?_) (fun d1=>?_)
     ·refine D9 ⟨sm.trans ⟨rfl,rfl,rfl,rfl⟩,.inl ⟨_,rfl,?_⟩⟩;rw [DY,DY,bp,bp,Ff];exact first m3 (beq_iff_eq.mp d1)
     have d1:pb≠1:=fun e=>d1 (beq_iff_eq.mpr e);refine D3 (aX (atA pa (by omega)) ?_);refine D3 (gp (b:=0) (n:=pb) L H (sm.kind.trans hk) (memA pa (by omega)) (by omega) (fun x hx=>sB x (F4 (Fg hx))) (EZ ((FG _ _).trans (Fv _ _)) hB) (by omega) ?_);intro i' kn' hle' hge';rw [Jr] at hle' hge';dsimp only;apply i5
     ·intro kp'
      have m4:Mh lt a.toList b.toList (out2.push b[pb]++(b.extract i' pb).reverse).toList (pa+1) i':=by
       rw [DY,sH];exact m3.b hB i' kn' (fun x hx=>ip L hA (by omega) (hge' x hx))
      by_cases d3:(i'==1)=true
      ·intro j;clear j;refine gr d3 ?_;refine D9 ⟨sm.trans ⟨rfl,rfl,rfl,rfl⟩,.inl ⟨_,rfl,?_⟩⟩;rw [DY,DY,bp,bp,Ff];exact first m4 (beq_iff_eq.mp d3)
      by_cases d5:(i'==0)=true
      ·intro j;clear j;refine eF d3 (gr d5 ?_);refine D9 ⟨sm.trans ⟨rfl,rfl,rfl,rfl⟩,.inl ⟨_,rfl,?_⟩⟩;rw [DY,DY,bp,bp,Ff];exact m4.endB hA (beq_iff_eq.mp d5)
      have d6:i'≠1:=fun e=>d3 (beq_iff_eq.mpr e);have d7:i'≠0:=fun e=>d5 (beq_iff_eq.mpr e);have kk:1<i':=by omega
      have hpb:pb<b.size:=by omega
      generalize out2.push (b[pb]'hpb)++(b.extract i' pb).reverse=out3 at m4 ⊢;generalize pb - i'=u2;intro j;refine eF d3 (eF d5 ?_)
      revert u2
      revert kk
      revert m4
      revert out3
      exact j
     ·intro kp';have k0':i'=pb:=by omega
      subst k0';have kk:1<i':=by omega
      intro j;exact j _ m3 kk _
     intro out3 m4 kk u2;refine D3 (aX (atA pa (by omega)) ?_)
     have m6:Mh lt a.toList b.toList (out3.push a[pa]).toList pa i':=by
      rw [F9];exact m4.pushA L hA (by omega) hle'
     refine a8 (fun d4=>?_) (fun d4=>?_)
     ·refine D9 ⟨sm.trans ⟨rfl,rfl,rfl,rfl⟩,.inl ⟨_,rfl,?_⟩⟩;rw [DY,DY,bp,bp,Ff];exact m6.endA hB (beq_iff_eq.mp d4)
     have d4:pa≠0:=fun e=>d4 (beq_iff_eq.mpr e);have kz:0<pa/\pa<=a.size/\1<i'/\i'<=b.size/\pa+i'<=na'+nb':=⟨by omega,by omega,kk,by omega,by omega⟩
     refine a8 (fun _=>?_) (fun _=>?_)
     ·exact D9 ⟨sm.trans ⟨rfl,rfl,rfl,rfl⟩,.inr ⟨rfl,m6,kz⟩⟩
     ·exact D9 ⟨sm.trans ⟨rfl,rfl,rfl,rfl⟩,rfl,m6,kz⟩
end
end Ts
namespace Ts
open PySem PyProof.Rows
noncomputable def seg (xs:Array C0) (i n:Nat):List Keyed:=(xs.toList.drop i).take n
theorem eE {xs:Array C0} {i n:Nat} (h:i+n<=xs.size):(seg xs i n).length=n:=by
 unfold seg;rw [FP,GH,EC]; omega
theorem jC {xs:Array C0} {i n k:Nat} (h:k<=n):seg xs i n=seg xs i k++seg xs (i+k) (n - k):=by
 unfold seg;have:=Fq k ((xs.toList.drop i).take n)
 rw [List.take_take,Jc h,Iv,Gn] at this;exact this.symm
theorem yF (xs:Array C0) (i n:Nat):xs.toList=xs.toList.take i++seg xs i n++xs.toList.drop (i+n):=by
 unfold seg;have h1:=Fq i xs.toList;have h2:=Fq n (xs.toList.drop i);rw [Gn] at h2;rw [EF,h2,h1]
theorem laid (sa:Nat):∀ (m:List C0) (n:Nat) (xs:Array C0),sa+n+m.length<=xs.size ->
  ((m.zipIdx n).foldl (fun a (q:C0×Nat)=>a.setIfInBounds (sa+q.2) q.1) xs).toList=xs.toList.take (sa+n)++m++xs.toList.drop (sa+n+m.length)
 | [],n,xs,_=>by
  rw [List.zipIdx_nil,List.foldl_nil,E2,List.length_nil,Kd,Fq]
 | x::m,n,xs,h=>by
  rw [C_] at h;rw [List.zipIdx_cons,List.foldl_cons,laid sa m (n+1) _ (by rw [Array.size_setIfInBounds]; omega)];rw [LA];have hl:sa+n<xs.toList.length:=by rw [EC]; omega
  have e1:(xs.toList.set (sa+n) x).take (sa+(n+1))=xs.toList.take (sa+n)++[x]:=by
   rw [<- Nat.add_assoc,List.take_succ,List.take_set_of_le (Av _),Ht hl]; rfl
  have e2:(xs.toList.set (sa+n) x).drop (sa+(n+1)+m.length)=xs.toList.drop (sa+n+(m.length+1)):=by
   rw [List.drop_set_of_lt (by omega)]
   congr 1
   omega
  rw [e1,e2,EF,EF,EF]; rfl
section
variable {M:Iq} {A:Eg} {E:ς->Ω->Prop} {s:Ω}
theorem AG {σ:Type} {x st:σ} {Q:PUnit->σ->Prop} (h:Q ⟨⟩ x):LM M A E s (set x:StateT σ KH PUnit) Q st:=by
 unfold LM; rw [StateT.run_set]; exact A_ ⟨rfl,h⟩
def Chg (xs ys:Array C0) (i n:Nat) (m:List C0):Prop:=m.Perm (seg xs i n)/\ys.toList=xs.toList.take i++m++xs.toList.drop (i+n)
theorem qt {κ:GL} {S:C0->Prop} {lt:C0->C0->Bool} (L:cP lt) (H:gR M A E s κ S lt) {i sa na w1 nb w2:Nat} {Q:Bool->E9->Prop} {st:E9} (hk:GA st=κ) (hf:GK st=none)
    (h1:(EY st)[i]?=some (sa,na,w1)) (h2:(EY st)[i+1]?=some (sa+na,nb,w2)) (na0:0<na) (nb0:0<nb) (hz:sa+na+nb<=(EI st).size)
    (hA:(seg (EI st) sa na).Pairwise (Le lt)) (hB:(seg (EI st) (sa+na) nb).Pairwise (Le lt)) (hS:∀ x∈(EI st).toList,S x)
    (h:∀ st' m,GA st'=κ->GK st'=none->EY st'=((EY st).setIfInBounds i (sa,na+nb,w1)).eraseIdxIfInBounds (i+1)->Chg (EI st) (EI st') sa (na+nb) m->m.Pairwise (Le lt)->Q true st') :
    LM M A E s (mergeAt' i) Q st:=by
  cases st
  rename_i kd xs pd g f;dsimp only [EI,GA,EY,GK] at hk hf h1 h2 hz hA hB hS h;subst hk hf;have memS:∀ i (hi:i<xs.size),S xs[i]:=fun i hi=>hS _ (Gy hi);have at_:∀ i (hi:i<xs.size),xs[i]?=some xs[i]:=fun i hi=>getElem?_pos xs i hi;have segS:∀ i n,∀ x∈seg xs i n,S x:=fun i n x hx=>hS x (F4 (Fg hx))
  have stay:∀ st',GA st'=kd->GK st'=none->EY st'=(pd.setIfInBounds i (sa,na+nb,w1)).eraseIdxIfInBounds (i+1)->EI st'=xs->(seg xs sa na++seg xs (sa+na) nb).Pairwise (Le lt)->Q true st':=by
    intro st' e1 e2 e3 e4 hs;have e5:=jC (xs:=xs) (i:=sa) (n:=na+nb) (k:=na) (by omega);rw [Lu] at e5;refine h st' _ e1 e2 e3 ⟨MM e5.symm,?_⟩ hs
    show (EI st').toList=_
    rw [e4,<- e5];exact yF xs sa (na+nb)
  have hb0:∀ {x:C0},Le lt x xs[sa+na]->∀ y∈seg xs (sa+na) nb,Le lt x y:=by
    intro x hx y hy;have hlen:=eE (xs:=xs) (i:=sa+na) (n:=nb) (by omega)
    have e:(seg xs (sa+na) nb)[0]=xs[sa+na]:=by
      unfold seg;rw [KQ,KR];rfl
    exact h9 L hB (i:=0) (by omega) (by rw [e]; exact hx) y hy
  unfold mergeAt';refine D3 (IG ?_);dsimp only;rw [h1,h2];refine D3 (AG ?_);refine D3 (aX (at_ (sa+na) (by omega)) ?_);refine D3 (gp (b:=sa) (n:=na) L H rfl (memS _ (by omega)) (by omega) (segS sa na) hA na0 ?_);intro k kn hle hge;dsimp only;have hlenA:=eE (xs:=xs) (i:=sa) (n:=na) (by omega);have eA:=jC (xs:=xs) (i:=sa) (n:=na) (k:=k) kn;have hA2:=hA;rw [eA,EK] at hA2
  have hge:∀ x∈seg xs (sa+k) (na - k),Le lt xs[sa+na] x:=by
    have:((xs.toList.drop sa).take na).drop k=seg xs (sa+k) (na - k):=by
      unfold seg; rw [Iv,Gn]
    rw [this] at hge;exact hge
  have hle:∀ x∈seg xs sa k,Le lt x xs[sa+na]:=hle;by_cases c1:(na - k==0)=true
  · rw [if_pos c1]
    have c1:=beq_iff_eq.mp c1;have:k=na:=by omega
    subst this;refine D9 (stay _ rfl rfl rfl rfl ?_);rw [EK];exact ⟨hA,hB,fun x hx=>hb0 (hle x hx)⟩
  rw [if_neg c1];have c1:na - k≠0:=fun e=>c1 (beq_iff_eq.mpr e);have el:sa+k+(na - k) - 1=sa+na - 1:=by omega
  rw [el];refine D3 (aX (at_ (sa+na - 1) (by omega)) ?_);refine D3 (gp (b:=sa+na) (n:=nb) L H rfl (memS _ (by omega)) (by omega) (segS (sa+na) nb) hB (by omega) ?_);intro k' kn' hle' hge';dsimp only
  have hge':∀ x∈seg xs (sa+na+k') (nb - k'),Le lt xs[sa+na - 1] x:=by
    have:((xs.toList.drop (sa+na)).take nb).drop k'=seg xs (sa+na+k') (nb - k'):=by
      unfold seg; rw [Iv,Gn]
    rw [this] at hge';exact hge'
  have hle':∀ x∈seg xs (sa+na) k',Le lt x xs[sa+na - 1]:=hle'
  have lastA:∀ {y:C0},Le lt xs[sa+na - 1] y->∀ x∈seg xs sa na,Le lt x y:=by
    intro y hy x hx
    have e:(seg xs sa na)[na - 1]=xs[sa+na - 1]:=by
      unfold seg;rw [KQ,KR,MG]
      congr 1
      omega
    have:=ip L hA (i:=na - 1) (by omega) (by rw [e]; exact hy) x
    rw [show na - 1+1=na by omega,EN (by omega)] at this;exact this hx
  by_cases c2:(k'==0)=true
  · rw [if_pos c2]
    have c2:=beq_iff_eq.mp c2;subst c2;refine D9 (stay _ rfl rfl rfl rfl ?_);rw [EK];exact ⟨hA,hB,fun x hx y hy=>lastA (hge' y hy) x hx⟩
  rw [if_neg c2];have c2:k'≠0:=fun e=>c2 (beq_iff_eq.mpr e);have eB:=jC (xs:=xs) (i:=sa+na) (n:=nb) (k:=k') kn';have hB2:=hB;rw [eB,EK] at hB2
  have exx:(xs.extract (sa+k) (sa+na)).toList=seg xs (sa+k) (na - k):=by
    have:=eX xs (sa+k) (na - k) (by omega)
    rw [show sa+k+(na - k)=sa+na by omega] at this;exact this
  have exy:(xs.extract (sa+na) (sa+na+k')).toList=seg xs (sa+na) k':=eX xs (sa+na) k' (by omega);have sx:(xs.extract (sa+k) (sa+na)).size=na - k:=by rw [MV]; omega
  have sy:(xs.extract (sa+na) (sa+na+k')).size=k':=by rw [MV]; omega
  have fin:∀ (r:Array C0) (st':E9),Sim (Kv kd xs ((pd.setIfInBounds i (sa,na+nb,w1)).eraseIdxIfInBounds (i+1)) g none) st'->Res lt (seg xs (sa+k) (na - k)) (seg xs (sa+na) k') r.toList ->
      Q true (setArr st' (Mm (fun a (x:C0×Nat)=>a.setIfInBounds (sa+k+x.2) x.1) (EI st') r.toList.zipIdx)):=by
    intro r st' sm hr;have lr:r.toList.length=na - k+k':=by rw [hr.1.length_eq,DZ,eE (by omega),eE (by omega)]
    refine h _ (seg xs sa k++r.toList++seg xs (sa+na+k') (nb - k')) sm.kind sm.failed sm.pend ⟨?_,?_⟩ ?_
    · have e5:=jC (xs:=xs) (i:=sa) (n:=na+nb) (k:=na) (by omega)
      rw [Lu,eA,eB] at e5;rw [e5,EF,EF];refine G8 _ ?_;rw [<- EF];exact G3 _ hr.1
    · show (Mm _ (EI st') _).toList=_
      rw [sm.arr]
      show (Mm _ xs _).toList=_
      have:=laid (sa+k) r.toList 0 xs (by omega)
      rw [Kd,lr] at this;refine this.trans ?_;have e1:xs.toList.take (sa+k)=xs.toList.take sa++seg xs sa k:=by unfold seg; rw [List.take_add]
      have e2:xs.toList.drop (sa+k+(na - k+k'))=seg xs (sa+na+k') (nb - k')++xs.toList.drop (sa+(na+nb)):=by
        unfold seg;have:=Fq (nb - k') (xs.toList.drop (sa+na+k'))
        rw [Gn] at this;rw [show sa+k+(na - k+k')=sa+na+k' by omega,show sa+(na+nb)=sa+na+k'+(nb - k') by omega];exact this.symm
      rw [e1,e2];simp only [EF]
    · rw [EF,EK,EK]
      have mem:∀ y∈r.toList,y∈seg xs (sa+k) (na - k)\/y∈seg xs (sa+na) k':=fun y hy=>EE.mp (hr.1.mem_iff.mp hy);refine ⟨hA2.1,⟨hr.2,hB2.2.1,fun x hx y hy=>?_⟩,fun x hx y hy=>?_⟩
      · rcases mem x hx with hx | hx
        · exact lastA (hge' y hy) x (by rw [eA]; exact D6 _ hx)
        · exact hB2.2.2 x hx y hy
      · rcases EE.mp hy with hy | hy
        · rcases mem y hy with hy | hy
          · exact hA2.2.2 x hx y hy
          · exact hb0 (hle x hx) y (by rw [eB]; exact Ea _ hy)
        · exact hb0 (hle x hx) y (by rw [eB]; exact D6 _ hy)
  have e0:∀ (h0:0<(xs.extract (sa+na) (sa+na+k')).size),(xs.extract (sa+na) (sa+na+k'))[0]=xs[sa+na]:=fun h0=>by
    rw [Array.getElem_extract]; rfl
  have eL:∀ y∈seg xs (sa+na) k',∀ x∈(seg xs (sa+k) (na - k)).drop (na - k - 1),Le lt y x:=by
    intro y hy x hx
    have e:(seg xs (sa+k) (na - k)).drop (na - k - 1)=[xs[sa+na - 1]]:=by
      have hl:=eE (xs:=xs) (i:=sa+k) (n:=na - k) (by omega);rw [GC (by omega),HD (by omega)]
      congr 1
      unfold seg;rw [KQ,KR,MG]
      congr 1
      omega
    rw [e] at hx;rw [Ax.mp hx];exact hle' y hy
  by_cases c3:na - k<=k'
  · rw [if_pos c3]
    refine D3 (qv L H rfl (by rw [exx]; exact hA2.2.1) (by rw [exy]; exact hB2.1) (by rw [exx]; exact segS _ _) (by rw [exy]; exact segS _ _) (by rw [sx]; omega) (by rw [sy]; omega) (by rw [exx,e0]; exact hge) (by rw [exx,exy,sx]; exact eL) fun r st' sm hr=>?_);rw [exx,exy] at hr;refine D3 (Ge ?_);refine D3 (IG ?_);have:=fin r st' sm hr
    refine D9 ?_;have ef:GK st'=none:=sm.failed
    show Q (Option.isNone (GK st')) _
    rw [ef];exact this
  · rw [if_neg c3]
    refine D3 (qu L H rfl (by rw [exx]; exact hA2.2.1) (by rw [exy]; exact hB2.1) (by rw [exx]; exact segS _ _) (by rw [exy]; exact segS _ _) (by rw [sx]; omega) (by rw [sy]; omega) (by rw [exx,e0]; exact hge) (by rw [exx,exy,sx]; exact eL) fun r st' sm hr=>?_);rw [exx,exy] at hr;refine D3 (Ge ?_);refine D3 (IG ?_);have:=fin r st' sm hr
    refine D9 ?_;have ef:GK st'=none:=sm.failed
    show Q (Option.isNone (GK st')) _
    rw [ef];exact this
end
end Ts
namespace Ts
open PySem PyProof.Rows
noncomputable def at' (xs:Array C0) (i:Nat):Keyed:=(xs[i]?).getD (.none,.none)
theorem fD {xs ys:Array C0} {i j:Nat} (h:xs[i]?=ys[j]?):at' xs i=at' ys j:=by unfold at'; rw [h]
theorem mM {xs:Array C0} {i:Nat} (h:i<xs.size):xs[i]?=some (at' xs i):=by unfold at'; rw [getElem?_pos xs i h]; rfl
def Up (lt:C0->C0->Bool) (xs:Array C0) (lo n:Nat):Prop:=∀ p q,p<=q->q<n->Le lt (at' xs (lo+p)) (at' xs (lo+q))
def iN (lt:C0->C0->Bool) (xs:Array C0) (lo n:Nat):Prop:=∀ p q,p<=q->q<n->Le lt (at' xs (lo+q)) (at' xs (lo+p))
structure gW (xs ys:Array C0) (lo:Nat):Prop where
 perm:ys.Perm xs
 low:∀ j,j<lo->ys[j]?=xs[j]?
theorem gW.refl (xs:Array C0) (lo:Nat):gW xs xs lo:=⟨KC _,fun _ _=>rfl⟩
theorem gW.trans {xs ys zs:Array C0} {lo:Nat} (h:gW xs ys lo) (h':gW ys zs lo):gW xs zs lo:=⟨h'.perm.trans h.perm,fun j hj=>(h'.low j hj).trans (h.low j hj)⟩
theorem gW.size {xs ys:Array C0} {lo:Nat} (h:gW xs ys lo):ys.size=xs.size:=h.perm.size_eq
theorem gW.mem {xs ys:Array C0} {lo:Nat} {S:C0->Prop} (h:gW xs ys lo) (hS:∀ x∈xs.toList,S x):∀ x∈ys.toList,S x:=fun x hx=>hS x ((FZ.mp h.perm).mem_iff.mp hx)
theorem d8 {xs:Array C0} {lo i j:Nat} (hi:lo<=i) (hj:j<=xs.size):gW xs (Iw xs i j ((j - i) / 2)) lo:=by
 refine ⟨mirror_perm _ _ _ _,fun k hk=>?_⟩;rw [getElem?_mirror_all hj,if_neg (by omega)]
theorem cW {xs:Array C0} {i j:Nat} (hj:j<=xs.size) (k:Nat):at' (Iw xs i j ((j - i) / 2)) k=if i<=k/\k<j then at' xs (i+j - 1 - k) else at' xs k:=by
 have:=getElem?_mirror_all (i:=i) hj k
 by_cases h:i<=k/\k<j
 ·rw [if_pos h] at this ⊢; exact fD this
 ·rw [if_neg h] at this ⊢; exact fD this
theorem lL {xs:Array C0} {src d:Nat} (hs:src<xs.size) (hd:d<=src) (k:Nat):at' (bubble xs src d) k=if k=src - d then at' xs src else if src - d<k/\k<=src then at' xs (k - 1) else at' xs k:=by
 have:=getElem?_bubble hs d hd k
 by_cases h:k=src - d
 ·rw [if_pos h] at this ⊢; exact fD this
 ·rw [if_neg h] at this ⊢;by_cases h2:src - d<k/\k<=src
  ·rw [if_pos h2] at this ⊢; exact fD this
  ·rw [if_neg h2] at this ⊢; exact fD this
section
variable {M:Iq} {A:Eg} {E:ς->Ω->Prop} {s:Ω}
theorem gq {κ:GL} {S:C0->Prop} {lt:C0->C0->Bool} (H:gR M A E s κ S lt) {i j:Nat} {Q:Option Bool->E9->Prop} {st:E9} (hk:GA st=κ) (hS:∀ x∈(EI st).toList,S x) (hi:i<(EI st).size) (hj:j<(EI st).size)
  (h:Q (some (lt (at' (EI st) i) (at' (EI st) j))) st):LM M A E s (ltAt' i j) Q st:=by
 rw [ltAt'_eq];refine D3 (IG ?_);refine D3 (aX (mM hi) ?_);refine D3 (aX (mM hj) ?_);have m:∀ {i},i<(EI st).size->S (at' (EI st) i):=fun {i} hi=>hS _ (by rw [<- Array.mem_def]; exact Array.mem_of_getElem? (mM hi));exact H _ _ _ _ (m hi) (m hj) hk h
theorem jG {i j:Nat} {Q:Unit->E9->Prop} {st:E9} (h:Q () (setArr st (Iw (EI st) i j ((j - i) / 2)))):LM M A E s (JZ i j) Q st:=by
 rw [reverseSlice'_eq]; exact Ge h
theorem AF {i j:Nat} {Q:Unit->E9->Prop} {st:E9} (h:Q () (setArr st (bubble (EI st) i (i - j)))):LM M A E s (moveDown' i j) Q st:=by
 rw [moveDown'_eq]; exact Ge h
structure Re (st st':E9) (lo:Nat):Prop where
 kind:GA st'=GA st
 failed:GK st'=GK st
 pend:EY st'=EY st
 keep:gW (EI st) (EI st') lo
theorem Re.refl (st:E9) (lo:Nat):Re st st lo:=⟨rfl,rfl,rfl,gW.refl _ _⟩
theorem Re.set {st st':E9} {lo:Nat} (h:Re st st' lo) {ys:Array C0} (k:gW (EI st') ys lo):Re st (setArr st' ys) lo:=⟨h.kind,h.failed,h.pend,h.keep.trans k⟩
theorem rX {κ:GL} {S:C0->Prop} {lt:C0->C0->Bool} (L:cP lt) (H:gR M A E s κ S lt) {lo n ok:Nat} {Q:Bool->E9->Prop} {st:E9} (hk:GA st=κ) (hS:∀ x∈(EI st).toList,S x) (hn:lo+n<=(EI st).size) (hok:ok<=n) (hu:Up lt (EI st) lo ok)
  (h:∀ st',Re st st' lo->Up lt (EI st') lo n->Q true st'):LM M A E s (binarySort' lo n ok) Q st:=by
 unfold binarySort';refine D3 (GV (FT (I:=fun k (c:Option Bool×Unit) st'=>c.1=none/\Re st st' lo/\Up lt (EI st') lo (min k n)) (Q:=fun (c:Option Bool×Unit) st'=>c.1=none/\Re st st' lo/\Up lt (EI st') lo n) ?step ?fin ?init) ?post)
 case init =>
  refine ⟨rfl,Re.refl _ _,fun p q hpq hq=>?_⟩;by_cases h0:q<ok
  ·exact hu p q hpq h0
  ·have e1:q=0:=by omega
   have e2:p=0:=by omega
   subst e1 e2;exact L.le_refl _
 case fin =>
  rintro ⟨c,u⟩ st' ⟨e,r,hu'⟩;refine ⟨e,r,?_⟩;rw [show min (max (max ok 1) n) n=n by omega] at hu';exact hu'
 case post =>
  rintro ⟨c,u⟩ st' ⟨e,r,hu'⟩;dsimp only at e ⊢;subst e;exact D9 (h st' r hu')
 case step =>
  rintro k ⟨c,u⟩ st1 hk1 hkn ⟨e,r,hu1⟩;dsimp only at e hu1 ⊢;rw [show min k n=k by omega] at hu1;have sz:=r.keep.size;refine D3 (GV (FT (I:=fun x (c:Option Bool×Nat×Nat) st'=>c.1=none/\st1=st'/\c.2.1<=c.2.2/\c.2.2<=k/\c.2.2 - c.2.1+x<=k/\(∀ p,p<c.2.1->Le lt (at' (EI st1) (lo+p)) (at' (EI st1) (lo+k)))/\(∀ p,c.2.2<=p->p<k->Le lt (at' (EI st1) (lo+k)) (at' (EI st1) (lo+p))))
   (Q:=fun (c:Option Bool×Nat×Nat) st'=>c.1=none/\st1=st'/\c.2.1=c.2.2/\c.2.2<=k/\(∀ p,p<c.2.1->Le lt (at' (EI st1) (lo+p)) (at' (EI st1) (lo+k)))/\(∀ p,c.2.2<=p->p<k->Le lt (at' (EI st1) (lo+k)) (at' (EI st1) (lo+p)))) ?step ?fin ?init) ?post)
  case init=>exact ⟨rfl,rfl,El _,Av _,by show k - 0+0<=k; omega,fun p hp=>absurd hp (by show ¬ p<0; omega),fun p hp hpk=>absurd hp (by show ¬ k<=p; omega)⟩
  case fin =>
   rintro ⟨c,l,r'⟩ st' ⟨e,e2,h1,h2,h3,h4,h5⟩;dsimp only at e h1 h2 h3 h4 h5 ⊢;exact ⟨e,e2,by omega,h2,h4,h5⟩
  case step =>
   rintro x ⟨c,l,r'⟩ st' _ hx ⟨e,rfl,h1,h2,h3,h4,h5⟩;dsimp only at e h1 h2 h3 h4 h5 ⊢;by_cases hd:l>=r'
   ·rw [if_pos hd];exact D9 ⟨rfl,rfl,by show l=r'; omega,h2,h4,h5⟩
   ·rw [if_neg hd];refine D3 (gq H (r.kind.trans hk) (r.keep.mem hS) (by omega) (by omega) ?_);dsimp only
    cases hb:lt (at' (EI st1) (lo+k)) (at' (EI st1) (lo+(l+r') / 2)) with
    | true =>
     rw [if_pos rfl];refine D9 ⟨rfl,rfl,by show l<=(l+r') / 2; omega,by show (l+r') / 2<=k; omega,by show (l+r') / 2 - l+(x+1)<=k; omega,h4,fun p hp hpk=>?_⟩;exact L.trans (L.of_lt hb) (hu1 _ _ hp hpk)
    | false =>
     rw [if_neg (by simp)];refine D9 ⟨rfl,rfl,by show (l+r') / 2+1<=r'; omega,h2,by show r' - ((l+r') / 2+1)+(x+1)<=k; omega,fun p hp=>?_,h5⟩;have hp:p<(l+r') / 2+1:=hp;exact L.trans (hu1 p ((l+r') / 2) (by omega) (by omega)) hb
  case post =>
   rintro ⟨c,l,r'⟩ st' ⟨e,rfl,h1,h2,h4,h5⟩;dsimp only at e h1 h2 h4 h5 ⊢;subst e h1;dsimp only;refine D3 (AF ?_);have hd:lo+k - (lo+l)=k - l:=by omega
   refine D9 ⟨rfl,r.set ⟨bubble_perm _ _ _,fun j hj=>?_⟩,fun p q hpq hq=>?_⟩
   ·rw [getElem?_bubble (by omega) _ (by omega),if_neg (by omega),if_neg (by omega)]
   ·have hq:q<k+1:=by omega
    show Le lt (at' (bubble _ _ _) _) (at' (bubble _ _ _) _)
    rw [lL (by omega) (by omega),lL (by omega) (by omega)];by_cases p1:p<l
    ·rw [if_neg (by omega),if_neg (by omega)];by_cases q1:q<l
     ·rw [if_neg (by omega),if_neg (by omega)];exact hu1 p q hpq (by omega)
     ·by_cases q2:q=l
      ·rw [if_pos (by omega)];exact h4 p p1
      ·rw [if_neg (by omega),if_pos (by omega),show lo+q - 1=lo+(q - 1) by omega];exact hu1 p (q - 1) (by omega) (by omega)
    ·by_cases p2:p=l
     ·rw [if_pos (by omega)];by_cases q2:q=l
      ·rw [if_pos (by omega)]; exact L.le_refl _
      ·rw [if_neg (by omega),if_pos (by omega),show lo+q - 1=lo+(q - 1) by omega];exact h5 (q - 1) (by omega) (by omega)
     ·rw [if_neg (by omega),if_pos (by omega),if_neg (by omega),if_pos (by omega),show lo+q - 1=lo+(q - 1) by omega,show lo+p - 1=lo+(p - 1) by omega];exact hu1 (p - 1) (q - 1) (by omega) (by omega)
end
end Ts
namespace Ts
open PySem PyProof.Rows
theorem Up.one {lt:C0->C0->Bool} (L:cP lt) (xs:Array C0) (lo:Nat):Up lt xs lo 1:=fun p q hpq hq=>by
 have e1:q=0:=by omega
 have e2:p=0:=by omega
 subst e1 e2;exact L.le_refl _
theorem Up.succ {lt:C0->C0->Bool} (L:cP lt) {xs:Array C0} {lo n:Nat} (h:Up lt xs lo (n+1)) (hb:Le lt (at' xs (lo+n)) (at' xs (lo+(n+1)))):Up lt xs lo (n+1+1):=fun p q hpq hq=>by
 by_cases hq1:q<n+1
 ·exact h p q hpq hq1
 ·have e:q=n+1:=by omega
  subst e;by_cases hp:p=n+1
  ·subst hp; exact L.le_refl _
  ·exact L.trans (h p n (by omega) (by omega)) hb
theorem iN.succ {lt:C0->C0->Bool} (L:cP lt) {xs:Array C0} {lo n:Nat} (h:iN lt xs lo (n+1)) (hb:Le lt (at' xs (lo+(n+1))) (at' xs (lo+n))):iN lt xs lo (n+1+1):=fun p q hpq hq=>by
 by_cases hq1:q<n+1
 ·exact h p q hpq hq1
 ·have e:q=n+1:=by omega
  subst e;by_cases hp:p=n+1
  ·subst hp; exact L.le_refl _
  ·exact L.trans hb (h p n (by omega) (by omega))
def oA (lt:C0->C0->Bool) (xs:Array C0) (lo n e:Nat):Prop:=∀ p q,n<=p+(e+1)->n<=q+(e+1)->p<n->q<n->Le lt (at' xs (lo+p)) (at' xs (lo+q))
theorem jc {lt:C0->C0->Bool} (L:cP lt) {xs:Array C0} {lo n e:Nat} (hn:lo+n<=xs.size) (he:e+1<=n) (hd:iN lt xs lo n) (ha:oA lt xs lo n e) :
  iN lt (Iw xs (lo+n - (e+1)) (lo+n) ((lo+n - (lo+n - (e+1))) / 2)) lo n/\oA lt (Iw xs (lo+n - (e+1)) (lo+n) ((lo+n - (lo+n - (e+1))) / 2)) lo n e /\
  ∀ k,lo+n<=k->at' (Iw xs (lo+n - (e+1)) (lo+n) ((lo+n - (lo+n - (e+1))) / 2)) k=at' xs k:=by
 have A:∀ p,p<n->at' (Iw xs (lo+n - (e+1)) (lo+n) ((lo+n - (lo+n - (e+1))) / 2)) (lo+p)=if n<=p+(e+1) then at' xs (lo+(n+n - (e+1) - 1 - p)) else at' xs (lo+p):=by
  intro p hp;rw [cW (by omega)];by_cases c:n<=p+(e+1)
  ·rw [if_pos (by omega),if_pos c]; congr 1; omega
  ·rw [if_neg (by omega),if_neg c]
 refine ⟨fun p q hpq hq=>?_,fun p q h1 h2 h3 h4=>?_,fun k hk=>?_⟩
 ·rw [A p (by omega),A q (by omega)];by_cases c:n<=p+(e+1)
  ·rw [if_pos c,if_pos (by omega)];exact ha _ _ (by omega) (by omega) (by omega) (by omega)
  ·rw [if_neg c];by_cases c2:n<=q+(e+1)
   ·rw [if_pos c2];exact hd p _ (by omega) (by omega)
   ·rw [if_neg c2];exact hd p q hpq hq
 ·rw [A p h3,A q h4,if_pos h1,if_pos h2];exact ha _ _ (by omega) (by omega) (by omega) (by omega)
 ·rw [cW (by omega),if_neg (by omega)]
section
variable {M:Iq} {A:Eg} {E:ς->Ω->Prop} {s:Ω}
theorem vq {κ:GL} {S:C0->Prop} {lt:C0->C0->Bool} (L:cP lt) (H:gR M A E s κ S lt) {lo nrem:Nat} {Q:Option Nat->E9->Prop} {st:E9} (hk:GA st=κ) (hS:∀ x∈(EI st).toList,S x) (hn:lo+nrem<=(EI st).size) (h1:1<=nrem)
    (h:∀ m st',1<=m->m<=nrem->Re st st' lo->Up lt (EI st') lo m->Q (some m) st'):LM M A E s (countRun' lo nrem) Q st:=by
  unfold countRun';refine D3 (GV (FT (I:=fun x (c:Option (Option Nat)×Nat) st'=>c.1=none/\st=st'/\c.2=x/\Up lt (EI st) lo x/\1<=x)
    (Q:=fun (c:Option (Option Nat)×Nat) st'=>c.1=none/\st=st'/\1<=c.2/\c.2<=nrem/\Up lt (EI st) lo c.2/\(c.2<nrem->lt (at' (EI st) (lo+c.2)) (at' (EI st) (lo+(c.2 - 1)))=true)) ?step ?fin ⟨rfl,rfl,rfl,Up.one L _ _,Av _⟩) ?post)
  case fin =>
    rintro ⟨c,n⟩ st' ⟨e,rfl,e2,hu,hx⟩;dsimp only at e e2 ⊢;rw [show max 1 nrem=nrem by omega] at e2 hu;subst e2;exact ⟨e,rfl,h1,Av _,hu,fun z=>absurd z (Fo _)⟩
  case step =>
    rintro x ⟨c,n⟩ st' hx1 hx ⟨e,rfl,e2,hu,_⟩;dsimp only at e e2 ⊢;subst e2;refine D3 (gq H hk hS (by omega) (by omega) ?_);dsimp only
    cases hb:lt (at' (EI st) (lo+n)) (at' (EI st) (lo+n - 1)) with
    | true=>exact D9 ⟨rfl,rfl,hx1,by show n<=nrem; omega,hu,fun _=>by show lt _ (at' _ (lo+(n - 1)))=true; rw [show lo+(n - 1)=lo+n - 1 by omega]; exact hb⟩
    | false =>
      rw [if_neg (by simp)];obtain ⟨m,rfl⟩:∃ m,n=m+1:=⟨n - 1,by omega⟩
      exact D9 ⟨rfl,rfl,rfl,hu.succ L hb,by omega⟩
  case post =>
    rintro ⟨c,n⟩ st' ⟨e,rfl,n1,n2,hu,hlt⟩;dsimp only at e n1 n2 hu hlt ⊢;subst e;dsimp only;by_cases c1:(n==nrem)=true
    · rw [if_pos c1]
      exact D9 (h n st n1 n2 (Re.refl _ _) hu)
    rw [if_neg c1];have c1:n≠nrem:=fun e=>c1 (beq_iff_eq.mpr e);have hlt:=hlt (by omega)
    -- what comes behind the first two parts
    have desc:∀ st1,Re st st1 lo->iN lt (EI st1) lo (n+1)->LM M A E s (do
        let mut cc:=n+1
        let mut dd:=0
        for _ in [cc:nrem] do
          let some uu <- ltAt' (lo+cc) (lo+cc - 1) | return none
          if uu then
            if dd > 0 then JZ (lo+cc - (dd+1)) (lo+cc)
            dd:=0
          else
            let some vv <- ltAt' (lo+cc - 1) (lo+cc) | return none
            if vv then break
            dd:=dd+1
          cc:=cc+1
        if dd > 0 then JZ (lo+cc - (dd+1)) (lo+cc)
        JZ lo (lo+cc)
        for _ in [cc:nrem] do
          let some uu <- ltAt' (lo+cc) (lo+cc - 1) | return none
          if uu then break
          cc:=cc+1
        return some cc) Q st1:=by
      intro st1 r1 hd1;refine D3 (GV (FT (I:=fun x (c:Option (Option Nat)×Nat×Nat) st'=>c.1=none/\Re st st' lo/\c.2.1=x/\n+1<=x/\x<=nrem/\c.2.2+1<=x/\iN lt (EI st') lo x/\oA lt (EI st') lo x c.2.2)
        (Q:=fun (c:Option (Option Nat)×Nat×Nat) st'=>c.1=none/\Re st st' lo/\n+1<=c.2.1/\c.2.1<=nrem/\c.2.2+1<=c.2.1/\iN lt (EI st') lo c.2.1/\oA lt (EI st') lo c.2.1 c.2.2) ?step ?fin ⟨rfl,r1,rfl,Av _,by omega,by show 0+1<=n+1; omega,hd1,?init⟩) ?post)
      case init =>
        intro p q hp hq hp2 hq2;have hp:n+1<=p+(0+1):=hp;have hq:n+1<=q+(0+1):=hq;have:p=q:=by omega
        subst this; exact L.le_refl _
      case fin =>
        rintro ⟨c,m,e⟩ st' ⟨e1,r,e2,x1,x2,x3,x4,x5⟩;dsimp only at e1 e2 x3 x5 ⊢;rw [show max (n+1) nrem=nrem by omega] at e2 x1 x2 x3 x4 x5;subst e2;exact ⟨e1,r,x1,Av _,x3,x4,x5⟩
      case step =>
        rintro x ⟨c,m,e⟩ st' hx1 hx2 ⟨e1,r,e2,x1,x2,x3,x4,x5⟩;dsimp only at e1 e2 x3 x5 ⊢;subst e2;have sz:=r.keep.size;obtain ⟨m',rfl⟩:∃ m',m=m'+1:=⟨m - 1,by omega⟩
        refine D3 (gq H (r.kind.trans hk) (r.keep.mem hS) (by omega) (by omega) ?_);dsimp only;rw [show lo+(m'+1) - 1=lo+m' by omega]
        cases hb:lt (at' (EI st') (lo+(m'+1))) (at' (EI st') (lo+m')) with
        | true =>
          rw [if_pos rfl]
          have one:∀ xs:Array C0,oA lt xs lo (m'+1+1) 0:=by
            intro xs p q hp hq hp2 hq2;have:p=q:=by omega
            subst this; exact L.le_refl _
          by_cases c2:e > 0
          · rw [if_pos c2]
            refine D3 (jG ?_);obtain ⟨g1,g2,g3⟩:=jc L (xs:=EI st') (lo:=lo) (n:=m'+1) (e:=e) (by omega) x3 x4 x5;refine D9 ⟨rfl,r.set (d8 (by omega) (by omega)),rfl,by omega,by omega,by show 0+1<=m'+1+1; omega,iN.succ L g1 ?_,one _⟩;rw [g3 _ (by omega)];have:at' (Iw (EI st') (lo+(m'+1) - (e+1)) (lo+(m'+1)) ((lo+(m'+1) - (lo+(m'+1) - (e+1))) / 2)) (lo+m')=at' (EI st') (lo+(m'+1 - (e+1))):=by
              rw [cW (by omega),if_pos (by omega)]; congr 1; omega
            rw [this];exact L.trans (L.of_lt hb) (x5 m' (m'+1 - (e+1)) (by omega) (by omega) (by omega) (by omega))
          · rw [if_neg c2]
            exact D9 ⟨rfl,r,rfl,by omega,by omega,by show 0+1<=m'+1+1; omega,iN.succ L x4 (L.of_lt hb),one _⟩
        | false =>
          rw [if_neg (by simp)];refine D3 (gq H (r.kind.trans hk) (r.keep.mem hS) (by omega) (by omega) ?_);dsimp only
          cases hb2:lt (at' (EI st') (lo+m')) (at' (EI st') (lo+(m'+1))) with
          | true=>exact D9 ⟨rfl,r,x1,x2,x3,x4,x5⟩
          | false =>
            rw [if_neg (by simp)];refine D9 ⟨rfl,r,rfl,by omega,by omega,by show e+1+1<=m'+1+1; omega,iN.succ L x4 hb2,?_⟩;intro p q hp hq hp2 hq2;have hp:m'+1+1<=p+(e+1+1):=hp;have hq:m'+1+1<=q+(e+1+1):=hq;by_cases p1:p=m'+1
            · subst p1
              by_cases q1:q=m'+1
              · subst q1; exact L.le_refl _
              · exact L.trans hb2 (x5 m' q (by omega) (by omega) (by omega) (by omega))
            · by_cases q1:q=m'+1
              · subst q1
                exact L.trans (x5 p m' (by omega) (by omega) (by omega) (by omega)) hb
              · exact x5 p q (by omega) (by omega) (by omega) (by omega)
      case post =>
        rintro ⟨c,m,e⟩ st2 ⟨e1,r,x1,x2,x3,x4,x5⟩;dsimp only at e1 x1 x2 x3 x4 x5 ⊢;subst e1;dsimp only;have last:∀ st3,Re st st3 lo->iN lt (EI st3) lo m->LM M A E s (do
            JZ lo (lo+m)
            let mut cc:=m
            for _ in [cc:nrem] do
              let some uu <- ltAt' (lo+cc) (lo+cc - 1) | return none
              if uu then break
              cc:=cc+1
            return some cc) Q st3:=by
          intro st3 r3 hd3;have sz:=r3.keep.size;refine D3 (jG ?_);have r4:=r3.set (d8 (xs:=EI st3) (lo:=lo) (i:=lo) (j:=lo+m) (Av _) (by omega))
          have u4:Up lt (Iw (EI st3) lo (lo+m) ((lo+m - lo) / 2)) lo m:=by
            intro p q hpq hq;rw [cW (by omega),cW (by omega),if_pos (by omega),if_pos (by omega),show lo+(lo+m) - 1 - (lo+p)=lo+(m - 1 - p) by omega,show lo+(lo+m) - 1 - (lo+q)=lo+(m - 1 - q) by omega];exact hd3 _ _ (by omega) (by omega)
          generalize hst4:setArr st3 (Iw (EI st3) lo (lo+m) ((lo+m - lo) / 2))=st4 at r4;have u4:Up lt (EI st4) lo m:=by rw [<- hst4]; exact u4
          have sz4:=r4.keep.size;refine D3 (GV (FT (I:=fun x (c:Option (Option Nat)×Nat) st'=>c.1=none/\st4=st'/\c.2=x/\Up lt (EI st4) lo x/\m<=x)
            (Q:=fun (c:Option (Option Nat)×Nat) st'=>c.1=none/\st4=st'/\1<=c.2/\c.2<=nrem/\Up lt (EI st4) lo c.2) ?step ?fin ⟨rfl,rfl,rfl,u4,Av _⟩) ?post)
          case fin =>
            rintro ⟨c,y⟩ st' ⟨e,rfl,e2,hu,hx⟩;dsimp only at e e2 ⊢;rw [show max m nrem=nrem by omega] at e2 hu;subst e2;exact ⟨e,rfl,h1,Av _,hu⟩
          case step =>
            rintro x ⟨c,y⟩ st' hx1 hx ⟨e,rfl,e2,hu,_⟩;dsimp only at e e2 ⊢;subst e2;refine D3 (gq H (r4.kind.trans hk) (r4.keep.mem hS) (by omega) (by omega) ?_);dsimp only
            cases hb:lt (at' (EI st4) (lo+y)) (at' (EI st4) (lo+y - 1)) with
            | true=>exact D9 ⟨rfl,rfl,by show 1<=y; omega,by show y<=nrem; omega,hu⟩
            | false =>
              rw [if_neg (by simp)];obtain ⟨y',rfl⟩:∃ m,y=m+1:=⟨y - 1,by omega⟩
              exact D9 ⟨rfl,rfl,rfl,hu.succ L hb,by omega⟩
          case post =>
            rintro ⟨c,y⟩ st' ⟨e,rfl,y1,y2,hu⟩;dsimp only at e y1 y2 hu ⊢;subst e;exact D9 (h y st4 y1 y2 r4 hu)
        have sz:=r.keep.size;by_cases c2:e > 0
        · rw [if_pos c2]
          refine D3 (jG ?_);obtain ⟨g1,g2,g3⟩:=jc L (xs:=EI st2) (lo:=lo) (n:=m) (e:=e) (by omega) x3 x4 x5;exact last _ (r.set (d8 (by omega) (by omega))) g1
        · rw [if_neg c2]
          exact last _ r x4
    by_cases c2:n > 1
    · rw [if_pos c2]
      refine D3 (gq H hk hS (by omega) (by omega) ?_);dsimp only
      cases hb:lt (at' (EI st) lo) (at' (EI st) (lo+n - 1)) with
      | true =>
        rw [if_pos rfl];exact D9 (h n st n1 n2 (Re.refl _ _) hu)
      | false =>
        rw [if_neg (by simp)];refine D3 (jG ?_);refine D3 (Jg (GO ⟨rfl,?_⟩))
        have all:∀ p q,p<n->q<n->Le lt (at' (EI st) (lo+p)) (at' (EI st) (lo+q)):=by
          intro p q hp hq;have hb':Le lt (at' (EI st) (lo+(n - 1))) (at' (EI st) (lo+0)):=by rw [show lo+(n - 1)=lo+n - 1 by omega]; exact hb
          exact L.trans (L.trans (hu p (n - 1) (by omega) (by omega)) hb') (hu 0 q (by omega) hq)
        refine desc _ ((Re.refl st lo).set (d8 (Av _) (by omega))) ?_
        have A:∀ p,p<n->at' (Iw (EI st) lo (lo+n) ((lo+n - lo) / 2)) (lo+p)=at' (EI st) (lo+(n - 1 - p)):=by
          intro p hp;rw [cW (by omega),if_pos (by omega)]; congr 1; omega
        have An:at' (Iw (EI st) lo (lo+n) ((lo+n - lo) / 2)) (lo+n)=at' (EI st) (lo+n):=by
          rw [cW (by omega),if_neg (by omega)]
        intro p q hpq hq
        show Le lt (at' (Iw _ _ _ _) _) (at' (Iw _ _ _ _) _)
        by_cases q1:q=n
        · subst q1
          by_cases p1:p=q
          · subst p1; exact L.le_refl _
          · rw [An,A p (by omega)]
            exact L.trans (L.of_lt hlt) (all _ _ (by omega) (by omega))
        · rw [A p (by omega),A q (by omega)]
          exact all _ _ (by omega) (by omega)
    · rw [if_neg c2]
      refine D3 (Jg (GO ⟨rfl,?_⟩));refine desc _ (Re.refl st lo) ?_;have e1:n=1:=by omega
      subst e1;refine iN.succ L (fun p q hpq hq=>?_) (L.of_lt hlt);have e1:q=0:=by omega
      have e2:p=0:=by omega
      subst e1 e2;exact L.le_refl _
end
end Ts
namespace Ts
open PySem PyProof.Rows
theorem jD {xs:Array C0} {s n j:Nat}:(seg xs s n)[j]?=if j<n then xs[s+j]? else none:=by
 unfold seg;by_cases h:j<n
 ·rw [if_pos h,GI h,Iu,Ex]
 ·rw [if_neg h,List.getElem?_take_eq_none (by omega)]
theorem rD {xs ys:Array C0} {s n:Nat} (h:∀ j,s<=j->j<s+n->ys[j]?=xs[j]?):seg ys s n=seg xs s n:=by
 refine GS fun j=>?_;rw [jD,jD];by_cases c:j<n
 ·rw [if_pos c,if_pos c,h _ (by omega) (by omega)]
 ·rw [if_neg c,if_neg c]
theorem Up.seg {lt:C0->C0->Bool} {xs:Array C0} {lo n:Nat} (h:Up lt xs lo n) (hn:lo+n<=xs.size):(seg xs lo n).Pairwise (Le lt):=by
 rw [JA];intro i j hi hj hij;have hl:=eE hn
 have e:∀ i (hi:i<(Ts.seg xs lo n).length),(Ts.seg xs lo n)[i]=at' xs (lo+i):=by
  intro i hi;have h1:(Ts.seg xs lo n)[i]?=some (Ts.seg xs lo n)[i]:=ξ hi;rw [jD,if_pos (by omega),mM (by omega)] at h1;exact (E4 h1).symm
 rw [e i hi,e j hj];exact h i j (by omega) (by omega)
def cm (lt:C0->C0->Bool) (xs:Array C0):Nat->List (Nat×Nat)->Nat->Prop
 | i,[],hi=>i=hi
 | i,(s,n)::ps,hi=>s=i/\1<=n/\(seg xs s n).Pairwise (Le lt)/\cm lt xs (i+n) ps hi
noncomputable def kys (p:Array (Nat×Nat×Nat)):List (Nat×Nat):=p.toList.map fun q=>(q.1,q.2.1)
theorem cm.app {lt:C0->C0->Bool} {xs:Array C0}:∀ {l1 l2:List (Nat×Nat)} {i hi:Nat},cm lt xs i (l1++l2) hi↔∃ m,cm lt xs i l1 m/\cm lt xs m l2 hi
 | [],l2,i,hi=>⟨fun h=>⟨i,rfl,h⟩,fun ⟨m,e,h⟩=>by cases e; exact h⟩
 | (s,n)::l1,l2,i,hi=>by
  constructor
  ·rintro ⟨h1,h2,h3,h4⟩;obtain ⟨m,h5,h6⟩:=cm.app.mp h4;exact ⟨m,⟨h1,h2,h3,h5⟩,h6⟩
  ·rintro ⟨m,⟨h1,h2,h3,h5⟩,h6⟩;exact ⟨h1,h2,h3,cm.app.mpr ⟨m,h5,h6⟩⟩
theorem cm.le {lt:C0->C0->Bool} {xs:Array C0}:∀ {l:List (Nat×Nat)} {i hi:Nat},cm lt xs i l hi->i+l.length<=hi
 | [],i,hi,h=>H_ h
 | (s,n)::l,i,hi,⟨h1,h2,h3,h4⟩=>by
  have:=cm.le h4
  rw [C_]; omega
theorem cm.congr {lt:C0->C0->Bool} {xs ys:Array C0}:∀ {l:List (Nat×Nat)} {i hi:Nat},cm lt xs i l hi->(∀ j,i<=j->j<hi->ys[j]?=xs[j]?)->cm lt ys i l hi
 | [],i,hi,h,_=>h
 | (s,n)::l,i,hi,⟨h1,h2,h3,h4⟩,h=>by
  have:=cm.le h4
  refine ⟨h1,h2,?_,cm.congr h4 fun j hj=>h j (by omega)⟩;rw [rD fun j h5 h6=>h j (by omega) (by omega)];exact h3
theorem Chg.get {xs ys:Array C0} {i n:Nat} {m:List C0} (h:Chg xs ys i n m) (hn:i+n<=xs.size) (j:Nat):ys[j]?=if j<i then xs[j]? else if j<i+n then m[j - i]? else xs[j]?:=by
 have hl:m.length=n:=by rw [h.1.length_eq,eE hn]
 rw [<- Ex,h.2,EF,ML,FP,EC,Jc (by omega)];by_cases c:j<i
 ·rw [if_pos c,if_pos c,GI c,Ex]
 ·rw [if_neg c,if_neg c,ML,hl];by_cases c2:j<i+n
  ·rw [if_pos (by omega),if_pos c2]
  ·rw [if_neg (by omega),if_neg c2,Iu,Ex]
   congr 1; omega
theorem Chg.seg {xs ys:Array C0} {i n:Nat} {m:List C0} (h:Chg xs ys i n m) (hn:i+n<=xs.size):Ts.seg ys i n=m:=by
 have hl:m.length=n:=by rw [h.1.length_eq,eE hn]
 refine GS fun j=>?_;rw [jD,h.get hn];by_cases c:j<n
 ·rw [if_pos c,if_neg (by omega),if_pos (by omega),show i+j - i=j by omega]
 ·rw [if_neg c,FJ (by omega)]
theorem Chg.perm {xs ys:Array C0} {i n:Nat} {m:List C0} (h:Chg xs ys i n m):ys.Perm xs:=by
 rw [FZ,h.2]
 conv=>rhs; rw [yF xs i n]
 exact G3 _ (G8 _ h.1)
theorem cm.merge {lt:C0->C0->Bool} {xs ys:Array C0} {l1 l2:List (Nat×Nat)} {sa na sb nb hi:Nat} {m:List C0} (h:cm lt xs 0 (l1++(sa,na)::(sb,nb)::l2) hi) (hz:hi<=xs.size) (c:Chg xs ys sa (na+nb) m) (hm:m.Pairwise (Le lt)):cm lt ys 0 (l1++(sa,na+nb)::l2) hi:=by
 obtain ⟨k,h1,h2,h3,h4,h5,h6,h7,h8⟩:=cm.app.mp h;subst h2 h5;have e1:=cm.le h1;have e2:=cm.le h8;refine cm.app.mpr ⟨sa,cm.congr h1 fun j _ hj=>?_,rfl,by omega,?_,?_⟩
 ·rw [c.get (by omega),if_pos hj]
 ·rw [c.seg (by omega)]; exact hm
 ·rw [<- Nat.add_assoc];refine cm.congr h8 fun j hj _=>?_;rw [c.get (by omega),if_neg (by omega),if_neg (by omega)]
theorem wb {l:List (Nat×Nat×Nat)} {i:Nat} {x y:Nat×Nat×Nat} (h1:l[i]?=some x) (h2:l[i+1]?=some y):l=l.take i++x::y::l.drop (i+2)/\(l.take i).length=i:=by
 have hi:=(Aw.mp h1).1;have hi2:=(Aw.mp h2).1;refine ⟨?_,by rw [FP]; omega⟩;have e1:=(Aw.mp h1).2;have e2:=(Aw.mp h2).2
 conv=>lhs; rw [<- Fq i l,GC hi,GC hi2,e1,e2]
theorem BC {c:Prop} [Decidable c] {n:Nat} (h:¬ n<=1):(if c then n - 2 - 1 else n - 2)+1<n:=by split<;>omega
section
variable {M:Iq} {A:Eg} {E:ς->Ω->Prop} {s:Ω}
structure Inv (κ:GL) (lt:C0->C0->Bool) (a0:Array C0) (st:E9) (lo:Nat):Prop where
 kind:GA st=κ
 failed:GK st=none
 perm:(EI st).Perm a0
 runs:cm lt (EI st) 0 (kys (EY st)) lo
theorem Inv.mem {κ:GL} {lt:C0->C0->Bool} {a0:Array C0} {st:E9} {lo:Nat} {S:C0->Prop} (h:Inv κ lt a0 st lo) (hS:∀ x∈a0.toList,S x):∀ x∈(EI st).toList,S x:=fun x hx=>hS x ((FZ.mp h.perm).mem_iff.mp hx)
theorem gQ {κ:GL} {S:C0->Prop} {lt:C0->C0->Bool} (L:cP lt) (H:gR M A E s κ S lt) {a0:Array C0} {i lo:Nat} {Q:Bool->E9->Prop} {st:E9} (I:Inv κ lt a0 st lo) (hS:∀ x∈a0.toList,S x) (hz:lo<=a0.size) (hi:i+1<(EY st).size)
  (h:∀ st',Inv κ lt a0 st' lo->(EY st').size+1=(EY st).size->(∀ j,lo<=j->(EI st')[j]?=(EI st)[j]?)->Q true st'):LM M A E s (mergeAt' i) Q st:=by
 have sz:=I.perm.size_eq;obtain ⟨⟨sa,na,w1⟩,h1⟩:∃ x,(EY st)[i]?=some x:=⟨_,getElem?_pos _ i (by omega)⟩
 obtain ⟨⟨sb,nb,w2⟩,h2⟩:∃ x,(EY st)[i+1]?=some x:=⟨_,getElem?_pos _ (i+1) hi⟩
 have g1:(EY st).toList[i]?=some (sa,na,w1):=by rw [Ex]; exact h1
 have g2:(EY st).toList[i+1]?=some (sb,nb,w2):=by rw [Ex]; exact h2
 obtain ⟨e,le⟩:=wb g1 g2;have r:=I.runs;unfold kys at r;rw [e,Ef,EL,EL] at r;obtain ⟨k,r1,r2,r3,r4,r5,r6,r7,r8⟩:=cm.app.mp r;dsimp only at r2 r3 r4 r5 r6 r7 r8;subst r2 r5;have l1:=cm.le r1;have l8:=cm.le r8;refine qt L H I.kind I.failed h1 h2 r3 r6 (by omega) r4 r7 (I.mem hS) fun st' m e1 e2 e3 c hm=>?_
 have eP:(EY st').toList=(EY st).toList.take i++(sa,na+nb,w1)::(EY st).toList.drop (i+2):=by
  rw [e3,Array.toList_eraseIdxIfInBounds,LA]
  conv=>lhs; rw [e]
  rw [List.set_append_right _ _ (by omega),le,Ka,List.set_cons_zero,List.eraseIdx_append_of_length_le (by omega),le,show i+1 - i=1 by omega];rfl
 refine h st' ⟨e1,e2,c.perm.trans I.perm,?_⟩ ?_ fun j hj=>?_
 ·unfold kys;rw [eP,Ef,EL];exact cm.merge r (by omega) c hm
 ·rw [<- EC,eP,<- EC (xs:=EY st)]
  conv=>rhs; rw [e]
  simp only [DZ,C_];omega
 ·rw [c.get (by omega),if_neg (by omega),if_neg (by omega)]
theorem Inv.push {κ:GL} {lt:C0->C0->Bool} {a0:Array C0} {st:E9} {lo n:Nat} (I:Inv κ lt a0 st lo) (hs:(seg (EI st) lo n).Pairwise (Le lt)) (hn:1<=n):Inv κ lt a0 (setPending st ((EY st).push (lo,n,0))) (lo+n):=by
 refine ⟨I.kind,I.failed,I.perm,?_⟩
 show cm lt (EI st) 0 (kys ((EY st).push (lo,n,0))) (lo+n)
 unfold kys;rw [F9,Ef];exact cm.app.mpr ⟨lo,I.runs,rfl,hn,hs,rfl⟩
theorem qP {p:Array (Nat×Nat×Nat)} {k w:Nat}:kys (p.modify k fun x=>(x.1,x.2.1,w))=kys p:=by
 unfold kys;refine GS fun j=>?_;rw [EU,EU,Ex,Ex,Array.getElem?_modify];by_cases c:k=j
 ·rw [if_pos c]
  cases p[j]?<;>rfl
 ·rw [if_neg c]
theorem Inv.modif {κ:GL} {lt:C0->C0->Bool} {a0:Array C0} {st:E9} {lo k w:Nat} (I:Inv κ lt a0 st lo):Inv κ lt a0 (setPending st ((EY st).modify k fun x=>(x.1,x.2.1,w))) lo:=by
 refine ⟨I.kind,I.failed,I.perm,?_⟩
 show cm lt (EI st) 0 (kys ((EY st).modify k fun x=>(x.1,x.2.1,w))) lo
 rw [qP];exact I.runs
theorem kU {κ:GL} {S:C0->Prop} {lt:C0->C0->Bool} (L:cP lt) (H:gR M A E s κ S lt) {Q:Unit->E9->Prop} {st:E9} (hk:GA st=κ) (hf:GK st=none) (hp:EY st=#[]) (hS:∀ x∈(EI st).toList,S x)
  (h:∀ st',(EI st').Perm (EI st)->GK st'=none->(EI st').toList.Pairwise (Le lt)->Q () st'):LM M A E s sortRuns' Q st:=by
 have I0:Inv κ lt (EI st) st 0:=⟨hk,hf,KC _,by rw [hp]; rfl⟩
 generalize ha:EI st=a0 at hS h I0;unfold sortRuns';refine D3 (IG ?_);have ez:(EI st).size=a0.size:=by rw [ha]
 dsimp only;refine D3 (GV (FT (I:=fun x (c:Option Unit×Nat) st'=>c.1=none/\Inv κ lt a0 st' c.2/\x<=c.2/\c.2<=a0.size) (Q:=fun (c:Option Unit×Nat) st'=>c.1=none/\Inv κ lt a0 st' a0.size) ?step ?fin ⟨rfl,I0,Av _,El _⟩) ?post)
 case fin =>
  rintro ⟨c,lo⟩ st' ⟨e,I,h1,h2⟩;have h1:max 0 (EI st).size<=lo:=h1;have h2:lo<=a0.size:=h2;have e2:lo=a0.size:=by omega
  subst e2;exact ⟨e,I⟩
 case step =>
  rintro x ⟨c,lo⟩ st1 _ hx ⟨e,I,h1,h2⟩;dsimp only at e I h1 h2 ⊢;generalize hN:(EI st).size=N at hx ez ⊢;have sz:=I.perm.size_eq;refine a8 (fun hd=>?_) (fun hd=>?_)
  ·have e2:lo=a0.size:=by omega
   subst e2;exact D9 ⟨rfl,I⟩
  ·refine D3 (vq L H I.kind (I.mem hS) (by omega) (by omega) fun m st2 m1 m2 r2 u2=>?_);dsimp only;refine a8 (fun hm=>?_) (fun hm=>?_)
   ·have sz2:=r2.keep.size;refine D3 (Jg (GO ⟨rfl,?_⟩));refine D3 (rX L H (r2.kind.trans I.kind) (r2.keep.mem (I.mem hS)) (by omega) (by omega) u2 fun st3 r3' u3=>?_);rw [if_neg (by simp)];have r3:Re st1 st3 lo:=⟨r3'.kind.trans r2.kind,r3'.failed.trans r2.failed,r3'.pend.trans r2.pend,r2.keep.trans r3'.keep⟩
    have sz3:=r3.keep.size;have sg:=u3.seg (by omega);have I3:Inv κ lt a0 st3 lo:=⟨r3.kind.trans I.kind,r3.failed.trans I.failed,r3.keep.perm.trans I.perm,by rw [r3.pend]; exact cm.congr I.runs fun j _ hj=>r3.keep.low j hj⟩
    refine D3 (IG ?_)
    cases hb:(EY st3).back? with
    | none =>
     dsimp only;refine D3 (Ge ?_);exact D9 ⟨rfl,I3.push sg (by omega),by dsimp only; omega,by dsimp only; omega⟩
    | some t =>
     obtain ⟨s1,n1,w1⟩:=t;dsimp only;refine D3 (GV (FT (I:=fun x (c:Option Unit×Unit) st'=>c.1=none/\Inv κ lt a0 st' lo/\∀ j,lo<=j->(EI st')[j]?=(EI st3)[j]?) (Q:=fun (c:Option Unit×Unit) st'=>c.1=none/\Inv κ lt a0 st' lo/\∀ j,lo<=j->(EI st')[j]?=(EI st3)[j]?) ?_ (fun _ _ z=>z) ⟨rfl,I3,fun _ _=>rfl⟩) ?_)
     ·rintro y ⟨c,u⟩ st4 _ _ ⟨e,I4,k4⟩;refine D3 (IG ?_);by_cases hz:(EY st4).size > 1
      ·rw [if_pos hz];obtain ⟨⟨q1,q2,q3⟩,hq⟩:∃ q,(EY st4)[(EY st4).size - 2]?=some q:=⟨_,getElem?_pos _ _ (by omega)⟩
       rw [hq];dsimp only;refine a8 (fun _=>?_) (fun _=>?_)
       ·exact D9 ⟨rfl,I4,k4⟩
       ·refine D3 (gQ L H I4 hS (by omega) (by show (EY st4).size - 2+1<(EY st4).size; omega) fun st5 I5 _ k5=>?_);rw [if_neg (by simp)];exact D9 ⟨rfl,I5,fun j hj=>(k5 j hj).trans (k4 j hj)⟩
      ·rw [if_neg hz];exact D9 ⟨rfl,I4,k4⟩
     ·rintro ⟨c,u⟩ st4 ⟨e,I4,k4⟩;dsimp only at e ⊢;subst e;dsimp only;refine D3 (Ge ?_);refine D3 (Ge ?_);have sg4:=sg;rw [<- rD (ys:=EI st4) fun j hj _=>k4 j hj] at sg4;exact D9 ⟨rfl,I4.modif.push sg4 (by omega),by dsimp only; omega,by dsimp only; omega⟩
   ·have r3:=r2;have u3:=u2;have sz3:=r3.keep.size;have sg:=u3.seg (by omega);generalize st2=st3 at r3 u3 sz3 sg ⊢;have I3:Inv κ lt a0 st3 lo:=⟨r3.kind.trans I.kind,r3.failed.trans I.failed,r3.keep.perm.trans I.perm,by rw [r3.pend]; exact cm.congr I.runs fun j _ hj=>r3.keep.low j hj⟩
    refine D3 (IG ?_)
    cases hb:(EY st3).back? with
    | none =>
     dsimp only;refine D3 (Ge ?_);exact D9 ⟨rfl,I3.push sg (by omega),by dsimp only; omega,by dsimp only; omega⟩
    | some t =>
     obtain ⟨s1,n1,w1⟩:=t;dsimp only;refine D3 (GV (FT (I:=fun x (c:Option Unit×Unit) st'=>c.1=none/\Inv κ lt a0 st' lo/\∀ j,lo<=j->(EI st')[j]?=(EI st3)[j]?) (Q:=fun (c:Option Unit×Unit) st'=>c.1=none/\Inv κ lt a0 st' lo/\∀ j,lo<=j->(EI st')[j]?=(EI st3)[j]?) ?_ (fun _ _ z=>z) ⟨rfl,I3,fun _ _=>rfl⟩) ?_)
     ·rintro y ⟨c,u⟩ st4 _ _ ⟨e,I4,k4⟩;refine D3 (IG ?_);by_cases hz:(EY st4).size > 1
      ·rw [if_pos hz];obtain ⟨⟨q1,q2,q3⟩,hq⟩:∃ q,(EY st4)[(EY st4).size - 2]?=some q:=⟨_,getElem?_pos _ _ (by omega)⟩
       rw [hq];dsimp only;refine a8 (fun _=>?_) (fun _=>?_)
       ·exact D9 ⟨rfl,I4,k4⟩
       ·refine D3 (gQ L H I4 hS (by omega) (by show (EY st4).size - 2+1<(EY st4).size; omega) fun st5 I5 _ k5=>?_);rw [if_neg (by simp)];exact D9 ⟨rfl,I5,fun j hj=>(k5 j hj).trans (k4 j hj)⟩
      ·rw [if_neg hz];exact D9 ⟨rfl,I4,k4⟩
     ·rintro ⟨c,u⟩ st4 ⟨e,I4,k4⟩;dsimp only at e ⊢;subst e;dsimp only;refine D3 (Ge ?_);refine D3 (Ge ?_);have sg4:=sg;rw [<- rD (ys:=EI st4) fun j hj _=>k4 j hj] at sg4;exact D9 ⟨rfl,I4.modif.push sg4 (by omega),by dsimp only; omega,by dsimp only; omega⟩
 case post =>
  rintro ⟨c,lo⟩ st1 ⟨e,I⟩;dsimp only at e ⊢;subst e;dsimp only;have sz:=I.perm.size_eq
  have n0:(EY st1).size<=a0.size:=by
   have:=cm.le I.runs
   unfold kys at this;rw [Ξ,EC] at this;omega
  refine D3 (GV (FT (I:=fun x (c:Option Unit×Unit) st'=>c.1=none/\Inv κ lt a0 st' a0.size/\((EY st').size+x<=a0.size\/(EY st').size<=1)) (Q:=fun (c:Option Unit×Unit) st'=>c.1=none/\Inv κ lt a0 st' a0.size/\(EY st').size<=1) ?step ?fin ⟨rfl,I,.inl n0⟩) ?post)
  case fin =>
   rintro ⟨c,u⟩ st' ⟨e,I,h1⟩;refine ⟨e,I,?_⟩;have h1:(EY st').size+max 0 (EI st).size<=a0.size\/(EY st').size<=1:=h1;omega
  case step =>
   rintro x ⟨c,u⟩ st2 _ hx ⟨e,I,h1⟩;dsimp only at e h1 ⊢;refine D3 (IG ?_);refine a8 (fun hd=>?_) (fun hd=>?_)
   ·exact D9 ⟨rfl,I,hd⟩
   ·refine D3 (gQ L H I hS (Av _) ?_ fun st3 I3 h3 _=>?_)
    ·have hd:¬ (EY st2).size<=1:=hd;exact BC hd
    ·rw [if_neg (by simp)];refine D9 ⟨rfl,I3,?_⟩
     show (EY st3).size+(x+1)<=a0.size\/(EY st3).size<=1
     have hd:¬ (EY st2).size<=1:=hd;omega
  case post =>
   rintro ⟨c,u⟩ st2 ⟨e,I,h1⟩;dsimp only at e h1 ⊢;subst e;have r:=I.runs;have szz:=I.perm.size_eq;refine D9 (h st2 I.perm I.failed ?_)
   match hq:kys (EY st2),r with
   | [],r =>
    have r:0=a0.size:=r;have:(EI st2).toList=[]:=Fi (by rw [EC]; omega)
    rw [this];exact GD
   | [(s1,n1)],⟨r1,r2,r3,r4⟩ =>
    have r4:0+n1=a0.size:=r4;subst r1;have:seg (EI st2) 0 n1=(EI st2).toList:=by
     unfold seg;rw [Jr,EN (by rw [EC]; omega)]
    rw [this] at r3;exact r3
   | x::y::l,r =>
    have:(kys (EY st2)).length=(EY st2).size:=by unfold kys; rw [Ξ,EC]
    rw [hq,C_,C_] at this;omega
end
end Ts
namespace Ts
open PySem PyProof.Rows PySem.W
section
variable {prog:D_} {w:Eh} {A:Eg} {E:ς->Ω->Prop} {s:Ω}
def oE (prog:D_) (w:Eh) (s:Ω) (a:Δ) (ks:List ς) (κ:GL) (S:C0->Prop) (lt:C0->C0->Bool):Prop :=
 ∀ (A:Eg) (E:ς->Ω->Prop) (h:E5),(∀ b o,b≠a->s.heap.get? b=some o->h.get? b=some o) ->
  (2<=ks.length->∀ Q,Q κ { s with heap:=h }->EA (EH prog w) A (keyKind' ks.toArray) Q E { s with heap:=h })/\gR (EH prog w) A E { s with heap:=h } κ S lt
theorem qj {κ:GL} {S:C0->Prop} {lt:C0->C0->Bool} (L:cP lt) {a:Δ} {vs:List ς} {n:Nat} {P:Fin->Ω->Prop} (ho:s.heap.get? a=some (Eb "list" vs.toArray n)) (hz:vs.length<=D7)
  (hs:oE prog w s a vs κ S lt) (hS:∀ x∈(IK vs).toList,S x)
  (h:∀ out:Array C0,out.Perm (IK vs)->out.toList.Pairwise (Le lt)->P (.done (.ret .none)) { s with heap:=JM s.heap a vs (out.map (·.2)) }) :
  EA (EH prog w) A (Gw.«list.sort» ⟨[.ref a],[]⟩) P E s:=by
 rw [list_sort_plain];have ha:a<s.heap.objs.size:=D0 ho;have hsz:vs.toArray.size=vs.length:=by simp
 refine θ (Ju ho rfl ?_);refine θ (GQ ho rfl ?_ (by omega) (El _));obtain ⟨e1,ho1⟩:∃ e1,(s.heap.update a (ES fun _=>#[])).get? a=some (Eb "list" #[] e1):=⟨_,F5 ho (fun _=>#[])⟩
 refine θ (Il ho1 rfl ?_);refine θ (L6 ?_ (by first | exact hz | (simp; exact hz)));refine θ (Hj ?_);refine FW ?_
 show EA (EH prog w) A _ P E { s with heap:=((s.heap.update a (ES fun _=>#[])).push (Eb "tuple" vs.toArray 0)).push (Eb "list" #[] 0) }
 generalize hH6:((s.heap.update a (ES fun _=>#[])).push (Eb "tuple" vs.toArray 0)).push (Eb "list" #[] 0)=h6
 have ho6:h6.get? a=some (Eb "list" #[] e1):=by
  rw [<- hH6,JF _ _ _ (by rw [Hz,Gi]; exact D5 (Gx ha)),JF _ _ _ (by rw [Gi]; exact D5 ha)];exact ho1
 have keep:∀ b o,b≠a->s.heap.get? b=some o->h6.get? b=some o:=fun b o hb q=>by
  rw [<- hH6];exact χ _ (χ _ ((EX _ _ (FH hb)).trans q))
 have fin:∀ out:Array C0,out.Perm (IK vs)->out.toList.Pairwise (Le lt)->P (.done (.ret .none)) { s with heap:=h6.update a (ES fun _=>out.map (·.2)) }:=by
  intro out hp hs;rw [<- hH6];exact h out hp hs
 dsimp only;obtain ⟨hk,hasks⟩:=hs A E h6 keep;by_cases h2:vs.toArray.size<2
 ·rw [if_pos h2,if_pos h2];refine θ (A_ ?_);rw [Kf];refine θ (A_ ?_);dsimp only;refine θ (Il ho6 rfl ?_);refine θ (GQ ho6 rfl ?_ (by simp) (by rw [Jj]; show (IK vs).size<=_; rw [pairsOf_size,JV]; omega));simp only [bne_self_eq_false,FI,if_false];refine A_ (fin (vs.toArray.zip vs.toArray) (KC _) ?_)
  show (IK vs).toList.Pairwise _
  rw [IJ]
  match vs,hsz,h2 with
  | [], _, _ => exact GD
  | [v], _, _ => exact JP _ _
  | v₁ :: v₂ :: gw, e, h2 => simp at h2; omega
 ·rw [if_neg h2,if_neg h2];refine θ (hk (by omega) _ ?_);refine θ (E8 (kU (E:=E) (s:={ s with heap:=h6 }) (A:=A) L hasks (st:=Kv κ (vs.toArray.zip vs.toArray) #[] 7 none)
   (Q:=fun _ st'=>(EI st').Perm (IK vs)/\GK st'=none/\(EI st').toList.Pairwise (Le lt)) rfl rfl rfl hS fun st' a1 a2 a3=>⟨a1,a2,a3⟩) ?_ fun _ _ e=>e)
  rintro ⟨⟨⟩,st'⟩ s' ⟨rfl,hp,hf,hs⟩;dsimp only;refine θ (Il ho6 rfl ?_);refine θ (GQ ho6 rfl ?_ (by simp) (by refine Ew (H_ ((Jj ..).trans (hp.size_eq.trans (pairsOf_size _)))) ?_; omega));rw [hf];simp only [bne_self_eq_false,FI,if_false];exact A_ (fin _ hp hs)
theorem kO {κ:GL} {S:C0->Prop} {lt:C0->C0->Bool} (L:cP lt) {l:Δ} {vs:List ς} {Q:ς->Ω->Prop} (hl:s.heap.IsList l vs.toArray) (hz:vs.length<=D7)
  (hs:∀ h,(∀ b o,s.heap.get? b=some o->h.get? b=some o)->oE prog w { s with heap:=h } (s.heap.objs.size+1) vs κ S lt) (hS:∀ x∈(IK vs).toList,S x)
  (h:∀ out:Array C0,out.Perm (IK vs)->out.toList.Pairwise (Le lt)->Q (.ref (s.heap.objs.size+1)) { s with heap:=LO s.heap vs (out.map (·.2)) }) :
  EA (EH prog w) A (call (.builtin "sorted") [.ref l]) Q E s:=by
 refine LK LZ K1 K4 (args_sorted1 _) ?_;unfold Gw.«sorted»;refine θ (m:=L_ "sorted" 1 1 _) (A_ ?_);refine θ (collect_list hl ?_ hz);refine θ (Hj ?_ hz)
 have hsz:((s.heap.push (Eb "list" #[] 0)).update s.heap.objs.size (ES (·++vs.toArray))).objs.size=s.heap.objs.size+1:=by
  rw [Gi,Hz]
 have hoL:(((s.heap.push (Eb "list" #[] 0)).update s.heap.objs.size (ES (·++vs.toArray))).push (Eb "list" vs.toArray 0)).get? (s.heap.objs.size+1)=some (Eb "list" vs.toArray 0):=by
  rw [<- hsz]; exact D4 _ rfl
 have keep:∀ b o,s.heap.get? b=some o->(((s.heap.push (Eb "list" #[] 0)).update s.heap.objs.size (ES (·++vs.toArray))).push (Eb "list" vs.toArray 0)).get? b=some o:=fun b o q=>by
  have hlt:b<s.heap.objs.size:=D0 q;rw [JF _ _ _ (by rw [hsz]; exact D5 (Gx hlt)),Gb _ _ _ _ (D5 hlt),JF _ _ _ (D5 hlt)];exact q
 show EA _ _ _ _ _ { s with heap:=((s.heap.push (Eb "list" #[] 0)).update s.heap.objs.size (ES (·++vs.toArray))).push (Eb "list" vs.toArray 0) }
 rw [hsz];refine θ (FW (HY KD ⟨_,hoL,rfl⟩ J0 (qj L hoL hz (hs _ keep) hS fun out a1 a2=>⟨_,rfl,?_⟩) (args_list_sort _)));exact A_ ⟨_,rfl,h out a1 a2⟩
end
noncomputable def plt (p q:Int×Int):Bool:=decide (p.1<q.1)||(decide (p.1=q.1)&&decide (p.2<q.2))
def ple (p q:Int×Int):Prop:=p.1<q.1\/(p.1=q.1/\p.2<=q.2)
theorem dO {p q:Int×Int}:plt p q=false↔ple q p:=by
 unfold plt ple;rw [Bool.or_eq_false_iff,Jf,decide_eq_false_iff_not,decide_eq_false_iff_not,decide_eq_false_iff_not];omega
theorem mw {p q:Int×Int}:plt p q=true↔p.1<q.1\/(p.1=q.1/\p.2<q.2):=by
 unfold plt;rw [HZ,Eu,decide_eq_true_eq,decide_eq_true_eq,decide_eq_true_eq]
theorem j0 (g:ς->Int×Int):cP fun x y=>plt (g x.1) (g y.1):=by
 constructor
 ·intro x y h;have h:=mw.mp h;refine dO.mpr ?_;unfold ple;omega
 ·intro x y z h1 h2;have h1:=dO.mp h1;have h2:=dO.mp h2;refine dO.mpr ?_;unfold ple at h1 h2 ⊢;omega
section
variable {prog:D_} {w:Eh} {s:Ω}
theorem jm {M:Iq} {A:Eg} {E:ς->Ω->Prop} {s:Ω} {κ:GL} {S:C0->Prop} {lt:C0->C0->Bool} (h:∀ x y,S x->S y->∀ (Q':Bool->Ω->Prop) (E':ς->Ω->Prop),Q' (lt x y) s->EA M A (keyLt' κ x.1 y.1) Q' E' s):gR M A E s κ S lt:=by
 intro x y st Q hx hy hk q;rw [lt'_eq];refine D3 (IG ?_);rw [hk];refine D3 (Jg (Hl (h x y hx hy _ _ ⟨rfl,?_⟩)));exact D9 q
def bV (h:E5) (v:ς) (p:Int×Int):Prop:=∃ b o t u n,v=.ref b/\h.get? b=some o/\o.cls=.type "tuple"/\o.data=.seq #[.int p.1 t,.int p.2 u] n
theorem pT {A:Eg} {E:ς->Ω->Prop} {v u:ς} {p q:Int×Int} {Q:Bool->Ω->Prop} (hv:bV s.heap v p) (hu:bV s.heap u q) (h:Q (plt p q) s):EA (EH prog w) A (keyLt' (K0 true) v u) Q E s:=by
 obtain ⟨b,o,t1,t2,n,rfl,h1,_,d1⟩:=hv;obtain ⟨c,o2,t3,t4,m,rfl,h2,_,d2⟩:=hu;refine kat_lt h1 d1 h2 d2 ?_;refine kat_cons (Ib ?_);refine kat_go (fun e=>kat_yes ?_) (fun e=>kat_no ?_)
 ·have e1:p.1=q.1:=by simpa using e
  refine kat_cons (Ib ?_);refine kat_go (fun e=>kat_yes ?_) (fun e=>kat_no ?_)
  ·have e2:p.2=q.2:=by simpa using e
   refine kat_nil ?_;have:plt p q=false:=dO.mpr (by unfold ple; omega)
   rw [this] at h;exact h
  ·have e2:¬ p.2=q.2:=by simpa using e
   refine kat_one _ _ (wpAny_lt_int ?_)
   show Q _ _
   have:plt p q=decide (p.2<q.2):=by unfold plt; rw [e1]; simp
   rw [this] at h;exact h
 ·have e1:¬ p.1=q.1:=by simpa using e
  refine oneLt_int ?_;have:plt p q=decide (p.1<q.1):=by unfold plt; simp [e1]
  rw [this] at h;exact h
theorem ji {a:Δ} {vs:List ς} {g:ς->Int×Int} (hv:∀ v∈vs,bV s.heap v (g v)/\v≠.ref a):oE prog w s a vs (K0 true) (fun x=>x∈(IK vs).toList) (fun x y=>plt (g x.1) (g y.1)):=by
  intro A E h keep
  have hv':∀ v∈vs,bV h v (g v):=by
    intro v hm;obtain ⟨⟨b,o,t,u,n,rfl,h1,h2,h3⟩,hne⟩:=hv v hm;exact ⟨b,o,t,u,n,rfl,keep b o (fun e=>hne (by rw [e])) h1,h2,h3⟩
  refine ⟨fun h2 Q q=>?_,?_⟩
  · have key:∀ (us:List ς),(∀ v∈us,bV h v (g v))->∃ fs,KatTups h us fs/\fs.length=us.length/\∀ f∈fs,∃ i t,f=.int i t:=by
      intro us
      induction us with
      | nil=>intro _; exact ⟨[],KatTups.nil,rfl,fun f hf=>nomatch hf⟩
      | cons v us ih =>
        intro hu;obtain ⟨fs,k1,k2,k3⟩:=ih fun v hv=>hu v (Au _ hv);obtain ⟨b,o,t,u,n,e,h1,h2,h3⟩:=hu v Θ;refine ⟨.int (g v).1 t::fs,?_,by rw [C_,C_,k2],fun f hf=>?_⟩
        · rw [e]
          rw [e] at h3;exact KatTups.cons h1 h2 h3 rfl k1
        · rcases B_.mp hf with rfl | hf
          · exact ⟨_,_,rfl⟩
          · exact k3 f hf
    obtain ⟨fs,k1,k2,k3⟩:=key vs hv';refine kat_kind (T:=.type "int") k1 (by omega) (fun f hf=>?_) (by decide) ?_
    · obtain ⟨i,t,rfl⟩:=k3 f hf
      exact Looks.of_pure rfl
    · have:(Gj "int" != Gj "tuple")=true:=by decide
      rw [this];exact q
  · refine jm fun x y hx hy Q' E' q=>?_
    rw [IJ] at hx hy;exact pT (hv' _ (IL hx).2) (hv' _ (IL hy).2) q
theorem me:cP fun x y=>decide (Hf x.1<Hf y.1):=by
 constructor
 ·intro x y h;have h:=of_decide_eq_true h;exact decide_eq_false (by omega)
 ·intro x y z h1 h2;have h1:=of_decide_eq_false h1;have h2:=of_decide_eq_false h2;exact decide_eq_false (by omega)
theorem rH {a:Δ} {vs:List ς} {ns:List Int} (hv:JE vs ns):oE prog w s a vs oneType' (fun x=>x∈(IK vs).toList) (fun x y=>decide (Hf x.1<Hf y.1)):=by
 intro A E h keep;refine ⟨fun h2 Q q=>?_,?_⟩
 ·match vs,hv,h2 with
  | v₁ :: v₂ :: gw, hv, _ => rw [keyKind_ints hv]; exact A_ q
  | [], _, h2 => simp at h2
  | [_], _, h2 => simp at h2
 ·refine jm fun x y hx hy Q' E' q=>?_;rw [IJ] at hx hy;obtain ⟨i,t,e1⟩:=hv.all _ (IL hx).2;obtain ⟨j,u,e2⟩:=hv.all _ (IL hy).2;rw [e1,e2] at q ⊢;rw [keyLt'_oneType];exact oneLt_int q
end
end Ts
namespace L2
open PySem PySem.Spec PyProof.Rows
def PtV (H:Hp) (v:V) (p:Int×Int):Prop:=∃ b,v=.ref b/\H b=some (.tup [.int p.1,.int p.2])
def tu (K:W.Frag) (vs:List V) (H:Hp) (Q:VK):Prop:=∃ a xs,vs=[.ref a]/\SqL K H a xs /\
  ((∃ g:V->Int×Int,(∀ v∈xs,PtV H v (g v))/\∀ (l:Δ) (ys:List V),H l=none->ys.Perm xs->ys.Pairwise (fun x y=>Ts.ple (g x) (g y))->Q (.ref l) (upd H l (.lst ys))) \/
   (∃ ns:List Int,xs=ns.map V.int/\∀ (l:Δ) (ms:List Int),H l=none->ms.Perm ns->ms.Pairwise (·<=·)->Q (.ref l) (upd H l (.lst (ms.map V.int)))))
theorem fW {h:E5} {vs:List ς} {out:Array ς} {b:Δ} {o:GN} (q:h.get? b=some o):(LO h vs out).get? b=some o:=by
 have hlt:b<h.objs.size:=D0 q;have hsz:((h.push (Eb "list" #[] 0)).update h.objs.size (ES (·++vs.toArray))).objs.size=h.objs.size+1:=by rw [Gi,Hz]
 unfold LO JM;rw [Gb _ _ _ _ (D5 (Gx hlt))];refine χ _ (χ _ ?_);rw [Gb _ _ _ _ (D5 (Gx hlt))];refine χ _ ?_;rw [Gb _ _ _ _ (D5 hlt)];exact χ _ q
theorem gz {h:E5} {vs:List ς} {out:Array ς}:∃ n,(LO h vs out).get? (h.objs.size+1)=some { cls:=.type "list",data:=.seq out n }:=by
 have hsz:((h.push (Eb "list" #[] 0)).update h.objs.size (ES (·++vs.toArray))).objs.size=h.objs.size+1:=by rw [Gi,Hz]
 unfold LO JM;have h1:(((h.push (Eb "list" #[] 0)).update h.objs.size (ES (·++vs.toArray))).push (Eb "list" vs.toArray 0)).get? (h.objs.size+1)=some (Eb "list" vs.toArray 0):=by rw [<- hsz]; exact D4 _ rfl
 have h2:=F5 h1 (fun _=>#[]);exact ⟨_,F5 (χ _ (χ _ h2)) (fun _=>out)⟩
theorem Vals.intsAre:∀ {ns:List Int} {us:List ς},Vals (ns.map V.int) us->JE us ns
 | [],_,.nil=>.nil
 | n::ns,_,.cons ⟨t,e⟩ r=>by subst e; exact .cons n t (Vals.intsAre r)
theorem jk:∀ {ns:List Int} {us:List ς},JE us ns->Vals (ns.map V.int) us
 | _,_,.nil=>.nil
 | _,_,.cons n t h=>.cons ⟨t,rfl⟩ (jk h)
noncomputable def toV:ς->V
 | .ref b=>.ref b
 | _=>.non
theorem Vals.refs:∀ {xs:List V} {us:List ς},Vals xs us->(∀ v∈xs,∃ b,v=.ref b)->us.map toV=xs/\∀ u∈us,∃ b,u=.ref b
 | _,_,.nil,_=>⟨rfl,fun u hu=>nomatch hu⟩
 | v::xs,u::us,.cons r rs,h=>by
  obtain ⟨b,rfl⟩:=h v Θ;have r:u=EB b:=r;subst r;obtain ⟨h1,h2⟩:=Vals.refs rs fun v hv=>h v (Au _ hv);refine ⟨by rw [EL,h1]; rfl,fun u hu=>?_⟩;rcases B_.mp hu with rfl | hu
  ·exact ⟨b,rfl⟩
  ·exact h2 u hu
theorem gm:∀ {us:List ς},(∀ u∈us,∃ b,u=.ref b)->Vals (us.map toV) us
 | [],_=>.nil
 | u::us,h=>by
  obtain ⟨b,rfl⟩:=h u Θ;exact .cons rfl (gm fun u hu=>h u (Au _ hu))
theorem dH {X:Cx} (K:W.Frag) (hK:X.K=K):bM X (.builtin "sorted") (tu K):=by
 subst hK;intro pins s σ H xs us Q I hv h;obtain ⟨a,ys,rfl,hl,h⟩:=h
 cases hv with
 | cons r hv =>
 cases hv
 cases r;obtain ⟨its,rv,pl,hz⟩:=I.list hl;have hlen:=rv.length;have hz':its.length<=sizeLine:=by omega
 rcases h with ⟨g,hg,h⟩ | ⟨ns,rfl,h⟩
 ·obtain ⟨em,hr⟩:=rv.refs fun v hv=>let ⟨b,e,_⟩:=hg v hv; ⟨b,e⟩
  have hp:∀ u∈its,∃ b,u=.ref b/\b<s.heap.objs.size/\Ts.bV s.heap u (g (toV u)):=by
   intro u hu;obtain ⟨b,rfl⟩:=hr u hu;have hm:V.ref b∈ys:=by rw [<- em]; exact EJ.mpr ⟨_,hu,rfl⟩
   obtain ⟨b',e,hb⟩:=hg _ hm
   cases e;obtain ⟨_,its2,r2,o,ho,hc,n,hd⟩:=I.hok _ _ hb;refine ⟨b,rfl,D0 ho,?_⟩
   cases r2 with
   | cons q1 r2 =>
   obtain ⟨t1,rfl⟩:=q1
   cases r2 with
   | cons q2 r2 =>
   obtain ⟨t2,rfl⟩:=q2
   cases r2;exact ⟨b,o,t1,t2,n,rfl,ho,hc,hd⟩
  refine Ts.kO (κ:=K0 true) (S:=fun x=>x∈(IK its).toList) (lt:=fun x y=>Ts.plt (g (toV x.1)) (g (toV y.1))) (Ts.j0 fun u=>g (toV u)) pl.isList hz' (fun h' keep=>Ts.ji (g:=fun u=>g (toV u)) fun u hu=>?_) (fun x hx=>hx) fun out hperm hs=>?_
  ·obtain ⟨b,rfl,hlt,b',o,t1,t2,n,e,h1,h2,h3⟩:=hp u hu
   cases e;exact ⟨⟨b,o,t1,t2,n,rfl,keep _ _ h1,h2,h3⟩,fun e=>by injection e with e; rw [e] at hlt; exact absurd hlt (HS.mpr (Gg _))⟩
  ·have hperm':out.toList.Perm (its.zip its):=by rw [<- IJ]; exact FZ.mp hperm
   have hmem:∀ p∈out.toList,p.1=p.2/\p.1∈its:=fun p hp'=>IL (hperm'.mem_iff.mp hp');have e2:(out.map (·.2)).toList=out.toList.map (·.1):=by rw [IE]; exact Ga fun p hp'=>(hmem p hp').1.symm
   have pm:(out.toList.map (·.1)).Perm its:=by
    have:=hperm'.map Jl
    rw [Km (Av _)] at this;exact this
   have hn:H (s.heap.objs.size+1)=none:=I.hok.fresh (by omega);have q:=h (s.heap.objs.size+1) ((out.toList.map (·.1)).map toV) hn (by rw [<- em]; exact pm.map toV) (by
    rw [Ez,Fd];exact hs.imp fun {x y} hxy=>Ts.dO.mp hxy)
   obtain ⟨n,hnew⟩:=gz (h:=s.heap) (vs:=its) (out:=out.map (·.2));refine ⟨.ref _,_,I.laid (t':=s.toks) (o:=.lst ((out.toList.map (·.1)).map toV)) (fun b u q=>fW q) (by omega) ?_,rfl,q⟩;refine ⟨by rw [Ξ,pm.length_eq]; exact hz',out.toList.map (·.1),n,gm fun u hu=>hr u (pm.mem_iff.mp hu),?_⟩;rw [hnew,<- e2,HL]
 ·have hI:=Vals.intsAre rv;refine Ts.kO (κ:=oneType') (S:=fun x=>x∈(IK its).toList) (lt:=fun x y=>decide (Hf x.1<Hf y.1)) Ts.me pl.isList hz' (fun h' keep=>Ts.rH hI) (fun x hx=>hx) fun out hperm hs=>?_;have hperm':out.toList.Perm (its.zip its):=by rw [<- IJ]; exact FZ.mp hperm
  have hmem:∀ p∈out.toList,p.1=p.2/\p.1∈its:=fun p hp'=>IL (hperm'.mem_iff.mp hp');have e2:(out.map (·.2)).toList=out.toList.map (·.1):=by rw [IE]; exact Ga fun p hp'=>(hmem p hp').1.symm
  have pm:(out.toList.map (·.1)).Perm its:=by
   have:=hperm'.map Jl
   rw [Km (Av _)] at this;exact this
  have hn:H (s.heap.objs.size+1)=none:=I.hok.fresh (by omega);have hI2:=intsAre_map (out.toList.map (·.1)) fun v hv=>hI.all v (pm.mem_iff.mp hv);have q:=h (s.heap.objs.size+1) ((out.toList.map (·.1)).map Hf) hn (by have:=pm.map Hf; rw [hI.nums] at this; exact this) (by
   rw [Ez,Fd];exact hs.imp fun {x y} hxy=>by have:¬ Hf y.1<Hf x.1:=of_decide_eq_false hxy; show Hf x.1<=Hf y.1; omega)
  obtain ⟨n,hnew⟩:=gz (h:=s.heap) (vs:=its) (out:=out.map (·.2));refine ⟨.ref _,_,I.laid (t':=s.toks) (o:=.lst (((out.toList.map (·.1)).map Hf).map V.int)) (fun b u q=>fW q) (by omega) ?_,rfl,q⟩;refine ⟨by rw [Ξ,Ξ,pm.length_eq]; exact hz',out.toList.map (·.1),n,jk hI2,?_⟩;rw [hnew,<- e2,HL]
theorem x6 {K:W.Frag} {a:Δ} {xs:List V} {H:Hp} {Q:VK} (g:V->Int×Int) (e:H a=some (.lst xs)) (hg:∀ v∈xs,PtV H v (g v)) (h:∀ (l:Δ) (ys:List V),H l=none->ys.Perm xs->ys.Pairwise (fun x y=>Ts.ple (g x) (g y))->Q (.ref l) (upd H l (.lst ys))):tu K [.ref a] H Q:=⟨a,xs,rfl,SqL.of e,.inl ⟨g,hg,h⟩⟩
theorem xZ {K:W.Frag} {a:Δ} {ns:List Int} {H:Hp} {Q:VK} (e:H a=some (.lst (ns.map V.int))) (h:∀ (l:Δ) (ms:List Int),H l=none->ms.Perm ns->ms.Pairwise (·<=·)->Q (.ref l) (upd H l (.lst (ms.map V.int)))):tu K [.ref a] H Q:=⟨a,_,rfl,SqL.of e,.inr ⟨ns,rfl,h⟩⟩
end L2
namespace Sm
noncomputable abbrev Pnt:=Int×Int
structure Gr (nb:Pnt->List Pnt):Prop where
 nd:∀ a,(nb a).Nodup
 le2:∀ a,(nb a).length<=2
 sym:∀ {a b},b∈nb a->a∈nb b
 irr:∀ a,a∉nb a
noncomputable def oth (nb:Pnt->List Pnt) (a b:Pnt):List Pnt:=(nb b).filter fun c=>!decide (c=a)
def Go (nb:Pnt->List Pnt):Pnt->Pnt->List Pnt->Prop
 | _,_,[]=>True
 | a,b,c::l=>oth nb a b=[c]/\Go nb b c l
noncomputable def fin:Pnt->Pnt->List Pnt->Pnt×Pnt
 | a,b,[]=>(a,b)
 | _,b,c::l=>fin b c l
section
variable {nb:Pnt->List Pnt}
theorem aQ {a b c:Pnt}:c∈oth nb a b↔c∈nb b/\c≠a:=by
 unfold oth;rw [E7,Bool.not_eq_true',decide_eq_false_iff_not]
theorem jS:∀ (a b:Pnt) (l:List Pnt) (c:Pnt),fin a b (l++[c])=((fin a b l).2,c)
 | a,b,[],c=>rfl
 | a,b,d::l,c=>jS b d l c
theorem eY:∀ {a b:Pnt} {l:List Pnt} {c:Pnt},Go nb a b (l++[c])↔Go nb a b l/\oth nb (fin a b l).1 (fin a b l).2=[c]
 | a,b,[],c=>⟨fun h=>⟨trivial,h.1⟩,fun h=>⟨h.2,trivial⟩⟩
 | a,b,d::l,c=>⟨fun h=>⟨⟨h.1,(eY.mp h.2).1⟩,(eY.mp h.2).2⟩,fun h=>⟨h.1.1,eY.mpr ⟨h.1.2,h.2⟩⟩⟩
theorem cz:∀ (a b:Pnt) (l:List Pnt),(fin a b l).2∈b::l/\(fin a b l).1∈a::b::l
 | a,b,[]=>⟨Θ,Θ⟩
 | a,b,c::l=>⟨Au _ (cz b c l).1,Au _ (cz b c l).2⟩
theorem hG:∀ (a b:Pnt) (l:List Pnt),(a::b::l).getLast?=some (fin a b l).2
 | a,b,[]=>rfl
 | a,b,c::l=>by rw [List.getLast?_cons_cons]; exact hG b c l
theorem hZ {a b c:Pnt} {l:List Pnt} (g:Go nb a b (c::l)):c∈nb b/\c≠a:=by
 have:c∈oth nb a b:=by rw [g.1]; exact Ax.mpr rfl
 exact aQ.mp this
theorem f9 (G:Gr nb):∀ {a b:Pnt} {l:List Pnt},b∈nb a->Go nb a b l->(fin a b l).2∈nb (fin a b l).1
 | a,b,[],h,_=>h
 | a,b,c::l,h,g=>f9 G (l:=l) (hZ g).1 g.2
theorem two_of (G:Gr nb) {a x y z:Pnt} (hx:x∈nb a) (hy:y∈nb a) (hz:z∈nb a) (hxy:x≠y):z=x\/z=y:=by
 have h2:=G.le2 a;have hn:=G.nd a
 match hq:nb a,hx,hy,hz,h2,hn with
 | [],hx,_,_,_,_=>cases hx
 | [p],hx,hy,_,_,_=>exact absurd ((Ax.mp hx).trans (Ax.mp hy).symm) hxy
 | [p,q],hx,hy,hz,_,_ =>
  simp only [B_,Ek,or_false] at hx hy hz;rcases hx with rfl | rfl<;>rcases hy with rfl | rfl<;>rcases hz with rfl | rfl<;>first | exact .inl rfl | exact .inr rfl | exact absurd rfl hxy
 | p::q::r::l,_,_,_,h2,_=>simp at h2
theorem wN (G:Gr nb) {a b:Pnt} (h:a∈nb b):oth nb a b=[]\/∃ c,oth nb a b=[c]:=by
 have hl:(oth nb a b).length<=1:=by
  match hq:oth nb a b with
  | [] => exact El _
  | [c] => exact Av _
  | c :: d :: l =>
   have hn:(oth nb a b).Nodup:=EZ (List.filter_sublist) (G.nd b);have hc:c∈oth nb a b:=by rw [hq]; exact Θ
   have hd:d∈oth nb a b:=by rw [hq]; exact Au _ Θ
   have ne:c≠d:=by
    rw [hq] at hn;intro e;exact (ER.mp hn).1 (by rw [e]; exact Θ)
   rcases two_of G (aQ.mp hc).1 (aQ.mp hd).1 h ne with e | e
   ·exact absurd e.symm (aQ.mp hc).2
   ·exact absurd e.symm (aQ.mp hd).2
 match hq:oth nb a b,hl with
 | [],_=>exact .inl rfl
 | [c],_=>exact .inr ⟨c,rfl⟩
 | c::d::l,hl=>simp at hl
theorem BV (G:Gr nb) {a b c:Pnt} (h:a∈nb b) (hc:c∈nb b) (hne:c≠a):oth nb a b=[c]:=by
 rcases wN G h with e | ⟨d,e⟩
 ·have:c∈oth nb a b:=aQ.mpr ⟨hc,hne⟩
  rw [e] at this; cases this
 ·have:c∈oth nb a b:=aQ.mpr ⟨hc,hne⟩
  rw [e] at this;rw [e,Ax.mp this]
theorem wM (G:Gr nb) {a b c:Pnt} (h:a∈nb b) (e:oth nb a b=[c]):oth nb c b=[a]:=by
 have hc:c∈oth nb a b:=by rw [e]; exact Ax.mpr rfl
 exact BV G (aQ.mp hc).1 h fun z=>(aQ.mp hc).2 z.symm
theorem kR (G:Gr nb) {a b:Pnt} (hb:b∈nb a):∀ (l:List Pnt),Go nb a b l->a∉l->(a::b::l).Nodup:=by
 intro l
 induction hl:l.length generalizing l with
 | zero =>
  intro _ _;have:l=[]:=Fi hl
  subst this;exact ER.mpr ⟨fun h=>G.irr a (by rw [Ax.mp h] at hb ⊢; exact hb),ER.mpr ⟨(fun h=>nomatch h),F0⟩⟩
 | succ n ih =>
  intro g ha;obtain ⟨m,z,rfl⟩:∃ m z,l=m++[z]:=⟨l.dropLast,l.getLast (fun e=>by rw [e] at hl; cases hl),(Fl _).symm⟩
  obtain ⟨g1,g2⟩:=eY.mp g;have hm:m.length=n:=by rw [DZ] at hl; simpa using hl
  have ham:a∉m:=fun h=>ha (Ea _ h);have nd:=ih m hm g1 ham;have hz:z∈oth nb (fin a b m).1 (fin a b m).2:=by rw [g2]; exact Ax.mpr rfl
  have hz1:=(aQ.mp hz).1;have hz2:=(aQ.mp hz).2;have hza:z≠a:=fun e=>ha (by rw [e]; exact D6 _ (Ax.mpr rfl))
  -- z is none of the points before
  have key:∀ (a b:Pnt) (m:List Pnt),b∈nb a->Go nb a b m->(a::b::m).Nodup->z∈nb (fin a b m).2->z≠(fin a b m).1->z≠a->z∉b::m:=by
   intro a b m
   induction m generalizing a b with
   | nil =>
    intro hb _ _ hz1 hz2 hza hm;rw [Ax.mp hm] at hz1;exact G.irr b hz1
   | cons c m ih2 =>
    intro hb g nd hz1 hz2 hza hm;have hc:c∈oth nb a b:=by rw [g.1]; exact Ax.mpr rfl
    have nd2:=(ER.mp nd).2;rcases B_.mp hm with e | hm
    ·-- z is b: its neighbours are a and c
     have hy:=G.sym hz1;rw [e] at hy;have hne:a≠c:=fun x=>(aQ.mp hc).2 x.symm;rcases two_of G (G.sym hb) (aQ.mp hc).1 hy hne with q | q
     ·have:=(cz b c m).1
      rw [show (fin a b (c::m))=fin b c m from rfl] at q;rw [q] at this;exact (ER.mp nd).1 (Au _ this)
     ·rw [show (fin a b (c::m))=fin b c m from rfl] at q hz2
      match m,q,nd2,hz2 with
      | [],q,_,hz2=>exact hz2 e
      | d::m,q,nd2,_ =>
       have:=(cz c d m).1
       rw [show fin b c (d::m)=fin c d m from rfl] at q;rw [q] at this;exact (ER.mp (ER.mp nd2).2).1 this
    ·by_cases hzb:z=b
     ·rw [hzb] at hm;exact (ER.mp nd2).1 hm
     ·exact ih2 b c (aQ.mp hc).1 g.2 nd2 hz1 hz2 hzb hm
  have hnot:=key a b m hb g1 nd hz1 hz2 hza
  show ((a::b::m)++[z]).Nodup
  rw [Ey];refine ⟨nd,ER.mpr ⟨(fun h=>nomatch h),F0⟩,fun x hx y hy e=>?_⟩;rw [Ax.mp hy] at e;rw [e] at hx;rcases B_.mp hx with q | q
  ·exact hza q
  ·exact hnot q
theorem je:∀ {a b:Pnt} {l l':List Pnt},Go nb a b l->Go nb a b l'->oth nb (fin a b l).1 (fin a b l).2=[]->oth nb (fin a b l').1 (fin a b l').2=[]->l=l'
 | _,_,[],[],_,_,_,_=>rfl
 | a,b,[],c::l',_,g,e,_=>by have h:=g.1; have e:oth nb a b=[]:=e; rw [e] at h; cases h
 | a,b,c::l,[],g,_,_,e=>by have h:=g.1; have e:oth nb a b=[]:=e; rw [e] at h; cases h
 | _,_,c::l,c'::l',g,g',e,e'=>by
  have h:=g.1.symm.trans g'.1
  cases h;rw [je g.2 g'.2 e e']
theorem hV {s:Pnt}:∀ {a b:Pnt} {l l':List Pnt},Go nb a b l->Go nb a b l'->s∉l->s∉l'->oth nb (fin a b l).1 (fin a b l).2=[s]->oth nb (fin a b l').1 (fin a b l').2=[s]->l=l'
 | _,_,[],[],_,_,_,_,_,_=>rfl
 | a,b,[],c::l',_,g,_,n,e,_=>by
  have h:=g.1;have e:oth nb a b=[s]:=e;rw [e] at h; cases h;exact absurd Θ n
 | a,b,c::l,[],g,_,n,_,_,e=>by
  have h:=g.1;have e:oth nb a b=[s]:=e;rw [e] at h; cases h;exact absurd Θ n
 | _,_,c::l,c'::l',g,g',n,n',e,e'=>by
  have h:=g.1.symm.trans g'.1
  cases h;rw [hV g.2 g'.2 (fun h=>n (Au _ h)) (fun h=>n' (Au _ h)) e e']
structure kX (nb:Pnt->List Pnt) (a b:Pnt) (l:List Pnt):Prop where
 adj:b∈nb a
 go:Go nb a b l
 one:(nb a).length=1
 stop:oth nb (fin a b l).1 (fin a b l).2=[]
 nd:(a::b::l).Nodup
structure Rnd (nb:Pnt->List Pnt) (a b:Pnt) (l:List Pnt):Prop where
 adj:b∈nb a
 go:Go nb a b l
 stop:oth nb (fin a b l).1 (fin a b l).2=[a]
 nd:(a::b::l).Nodup
def vx (nb:Pnt->List Pnt) (L:List Pnt):Prop:=∀ x∈L,∀ y∈nb x,y∈L
theorem kM (G:Gr nb):∀ {a b:Pnt} {l:List Pnt},b∈nb a->Go nb a b l->∀ x∈b::l,x≠(fin a b l).2\/oth nb (fin a b l).1 (fin a b l).2=[]->∀ y∈nb x,y∈a::b::l
 | a,b,[],hb,_,x,hx,h,y,hy=>by
  have e:=Ax.mp hx;rcases h with h | h
  ·exact absurd e h
  ·rw [e] at hy;by_cases hya:y=a
   ·rw [hya]; exact Θ
   ·have:y∈oth nb a b:=aQ.mpr ⟨hy,hya⟩
    rw [show oth nb a b=[] from h] at this; cases this
 | a,b,c::l,hb,g,x,hx,h,y,hy=>by
  have hc:c∈oth nb a b:=by rw [g.1]; exact Ax.mpr rfl
  rcases B_.mp hx with e | hx
  ·rw [e] at hy;rcases two_of G (G.sym hb) (aQ.mp hc).1 hy (fun x=>(aQ.mp hc).2 x.symm) with q | q
   ·rw [q]; exact Θ
   ·rw [q]; exact Au _ (Au _ Θ)
  ·exact Au _ (kM G (aQ.mp hc).1 g.2 x hx h y hy)
theorem kX.shut (G:Gr nb) {a b:Pnt} {l:List Pnt} (h:kX nb a b l):vx nb (a::b::l):=by
 intro x hx y hy;rcases B_.mp hx with e | hx
 ·rw [e] at hy;have h1:=h.one
  match hq:nb a,h1 with
  | [c], _ =>
   have e1:=h.adj;rw [hq] at hy e1;rw [Ax.mp hy,<- Ax.mp e1];exact Au _ Θ
 ·exact kM G h.adj h.go x hx (.inr h.stop) y hy
theorem Rnd.last (G:Gr nb) {a b:Pnt} {l:List Pnt} (h:Rnd nb a b l):(fin a b l).2∈nb a/\(fin a b l).2≠b:=by
 have ha:a∈oth nb (fin a b l).1 (fin a b l).2:=by rw [h.stop]; exact Ax.mpr rfl
 refine ⟨G.sym (aQ.mp ha).1,fun e=>?_⟩
 match l,h,ha,e with
 | [],h,ha,_=>exact (aQ.mp ha).2 rfl
 | c::l,h,_,e =>
  have:=(cz b c l).1
  rw [show fin a b (c::l)=fin b c l from rfl] at e;rw [e] at this;exact (ER.mp (ER.mp h.nd).2).1 this
theorem Rnd.shut (G:Gr nb) {a b:Pnt} {l:List Pnt} (h:Rnd nb a b l):vx nb (a::b::l):=by
 intro x hx y hy;obtain ⟨h1,h2⟩:=h.last G;have hl:(fin a b l).2∈a::b::l:=Au _ (cz a b l).1;rcases B_.mp hx with e | hx
 ·rw [e] at hy;rcases two_of G h.adj h1 hy (FH h2) with q | q
  ·rw [q]; exact Au _ Θ
  ·rw [q]; exact hl
 ·by_cases hz:x=(fin a b l).2
  ·rw [hz] at hy;by_cases hyq:y=(fin a b l).1
   ·rw [hyq]; exact (cz a b l).2
   ·have:y∈oth nb (fin a b l).1 (fin a b l).2:=aQ.mpr ⟨hy,hyq⟩
    rw [h.stop] at this;rw [Ax.mp this]; exact Θ
  ·exact kM G h.adj h.go x hx (.inl hz) y hy
theorem jf (G:Gr nb) {L:List Pnt} (hS:vx nb L):∀ {a b:Pnt} {l:List Pnt},b∈nb a->Go nb a b l->∀ q∈a::b::l,q∈L->∀ x∈a::b::l,x∈L
 | a,b,[],hb,_,q,hq,hqL,x,hx=>by
  have hab:a∈L/\b∈L:=by
   rcases B_.mp hq with e | hq
   ·rw [e] at hqL; exact ⟨hqL,hS a hqL b hb⟩
   ·rw [Ax.mp hq] at hqL; exact ⟨hS b hqL a (G.sym hb),hqL⟩
  rcases B_.mp hx with e | hx
  ·rw [e]; exact hab.1
  ·rw [Ax.mp hx]; exact hab.2
 | a,b,c::l,hb,g,q,hq,hqL,x,hx=>by
  have hc:c∈oth nb a b:=by rw [g.1]; exact Ax.mpr rfl
  have hc:=(aQ.mp hc).1;rcases B_.mp hq with e | hq
  ·rw [e] at hqL;have hbL:=hS a hqL b hb;rcases B_.mp hx with e | hx
   ·rw [e]; exact hqL
   ·exact jf G hS hc g.2 b Θ hbL x hx
  ·rcases B_.mp hx with e | hx
   ·have hbL:=jf G hS hc g.2 q hq hqL b Θ;rw [e]; exact hS b hbL a (G.sym hb)
   ·exact jf G hS hc g.2 q hq hqL x hx
theorem Rnd.two (G:Gr nb) {a b:Pnt} {l:List Pnt} (h:Rnd nb a b l):∀ x∈a::b::l,(nb x).length=2:=by
 have two:∀ {x y z:Pnt},y∈nb x->z∈nb x->y≠z->(nb x).length=2:=by
  intro x y z hy hz hne;have h2:=G.le2 x
  match hq:nb x,hy,hz,h2 with
  | [], hy, _, _ => cases hy
  | [p], hy, hz, _ => exact absurd ((Ax.mp hy).trans (Ax.mp hz).symm) hne
  | [p, q], _, _, _ => rfl
  | p :: q :: r :: m, _, _, h2 => simp at h2
 obtain ⟨h1,h2⟩:=h.last G
 have mid:∀ {a b:Pnt} {l:List Pnt},b∈nb a->Go nb a b l->∀ x∈b::l,x≠(fin a b l).2->(nb x).length=2:=by
  intro a b l
  induction l generalizing a b with
  | nil => intro _ _ x hx hne; exact absurd (Ax.mp hx) hne
  | cons c l ih =>
   intro hb g x hx hne;have hc:c∈oth nb a b:=by rw [g.1]; exact Ax.mpr rfl
   rcases B_.mp hx with e | hx
   ·rw [e]; exact two (G.sym hb) (aQ.mp hc).1 fun z=>(aQ.mp hc).2 z.symm
   ·exact ih (aQ.mp hc).1 g.2 x hx hne
 intro x hx;rcases B_.mp hx with e | hx
 ·rw [e]; exact two h.adj h1 (FH h2)
 ·by_cases hz:x=(fin a b l).2
  ·rw [hz];have ha:a∈oth nb (fin a b l).1 (fin a b l).2:=by rw [h.stop]; exact Ax.mpr rfl
   exact two (G.sym (f9 G h.adj h.go)) (aQ.mp ha).1 fun z=>(aQ.mp ha).2 z.symm
  ·exact mid h.adj h.go x hx hz
end
end Sm
namespace Sm
section
variable {nb:Pnt->List Pnt}
theorem two_len (G:Gr nb) {x y z:Pnt} (hy:y∈nb x) (hz:z∈nb x) (hne:y≠z):(nb x).length=2:=by
 have h2:=G.le2 x
 match hq:nb x,hy,hz,h2 with
 | [],hy,_,_=>cases hy
 | [p],hy,hz,_=>exact absurd ((Ax.mp hy).trans (Ax.mp hz).symm) hne
 | [p,q],_,_,_=>rfl
 | p::q::r::m,_,_,h2=>simp at h2
theorem Bz (G:Gr nb):∀ {a b:Pnt} {l:List Pnt},b∈nb a->Go nb a b l->∀ x∈b::l,x≠(fin a b l).2->(nb x).length=2:=by
 intro a b l
 induction l generalizing a b with
 | nil=>intro _ _ x hx hne; exact absurd (Ax.mp hx) hne
 | cons c l ih =>
  intro hb g x hx hne;have hc:=hZ g;rcases B_.mp hx with e | hx
  ·rw [e]; exact two_len G (G.sym hb) hc.1 fun z=>hc.2 z.symm
  ·exact ih hc.1 g.2 x hx hne
theorem kX.lastOne (G:Gr nb) {a b:Pnt} {l:List Pnt} (h:kX nb a b l):nb (fin a b l).2=[(fin a b l).1]:=by
 have h1:=G.sym (f9 G h.adj h.go);have hs:=h.stop;have all:∀ y∈nb (fin a b l).2,y=(fin a b l).1:=fun y hy=>by
  by_cases e:y=(fin a b l).1
  ·exact e
  ·have:y∈oth nb (fin a b l).1 (fin a b l).2:=aQ.mpr ⟨hy,e⟩
   rw [hs] at this; cases this
 have hn:=G.nd (fin a b l).2
 match hq:nb (fin a b l).2,h1,all,hn with
 | [],h1,_,_=>cases h1
 | [p],_,all,_=>rw [all p Θ]
 | p::q::r,_,all,hn=>exact absurd ((all p Θ).trans (all q (Au _ Θ)).symm) fun e=>(ER.mp hn).1 (by rw [e]; exact Θ)
theorem yf (G:Gr nb):∀ {a b:Pnt} {l:List Pnt},b∈nb a->Go nb a b l->∃ m,(a::b::l).reverse=(fin a b l).2::(fin a b l).1::m/\Go nb (fin a b l).2 (fin a b l).1 m/\fin (fin a b l).2 (fin a b l).1 m=(b,a)
 | a,b,[],hb,_=>⟨[],rfl,trivial,rfl⟩
 | a,b,c::l,hb,g=>by
  have hc:=hZ g;obtain ⟨m,h1,h2,h3⟩:=yf G hc.1 g.2;refine ⟨m++[a],?_,?_,?_⟩
  ·rw [Hr,h1]; rfl
  ·refine eY.mpr ⟨h2,?_⟩;rw [show fin a b (c::l)=fin b c l from rfl,h3];exact wM G (G.sym hb) g.1
  ·rw [jS,show fin a b (c::l)=fin b c l from rfl,h3]
theorem kX.rev (G:Gr nb) {a b:Pnt} {l:List Pnt} (h:kX nb a b l):∃ m,(a::b::l).reverse=(fin a b l).2::(fin a b l).1::m/\kX nb (fin a b l).2 (fin a b l).1 m/\(fin (fin a b l).2 (fin a b l).1 m).2=a:=by
 obtain ⟨m,h1,h2,h3⟩:=yf G h.adj h.go;have h4:=h.lastOne G;refine ⟨m,h1,⟨by rw [h4]; exact Ax.mpr rfl,h2,by rw [h4]; rfl,?_,?_⟩,by rw [h3]⟩
 ·rw [h3];have h5:=h.one;have h6:=h.adj
  match hq:nb a,h5,h6 with
  | [c], _, h6 =>
   unfold oth;rw [hq,Ax.mp h6];simp
 ·rw [<- h1]; exact (List.reverse_perm _).nodup_iff.mpr h.nd
structure cJ (nb:Pnt->List Pnt) (f:Bool) (L:List Pnt):Prop where
 op:f=false->∃ a b l,L=a::b::l/\kX nb a b l/\Ts.plt a (fin a b l).2=true
 rd:f=true->∃ a b l,L=a::b::l/\Rnd nb a b l/\(∀ x∈L,Ts.ple a x)/\b=(a.1+1,a.2)
theorem cJ.path {f:Bool} {L:List Pnt} (h:cJ nb f L):∃ a b l,L=a::b::l/\b∈nb a/\Go nb a b l/\L.Nodup:=by
 cases f with
 | false=>obtain ⟨a,b,l,e,o,_⟩:=h.op rfl; exact ⟨a,b,l,e,o.adj,o.go,by rw [e]; exact o.nd⟩
 | true=>obtain ⟨a,b,l,e,o,_⟩:=h.rd rfl; exact ⟨a,b,l,e,o.adj,o.go,by rw [e]; exact o.nd⟩
theorem cJ.shut (G:Gr nb) {f:Bool} {L:List Pnt} (h:cJ nb f L):vx nb L:=by
 cases f with
 | false=>obtain ⟨a,b,l,rfl,o,_⟩:=h.op rfl; exact o.shut G
 | true=>obtain ⟨a,b,l,rfl,o,_⟩:=h.rd rfl; exact o.shut G
theorem cJ.sub (G:Gr nb) {f f':Bool} {L L':List Pnt} (h:cJ nb f L) (h':cJ nb f' L') {q:Pnt} (hq:q∈L) (hq':q∈L'):∀ x∈L',x∈L:=by
 obtain ⟨a,b,l,rfl,hb,g,_⟩:=h'.path;exact jf G (h.shut G) hb g q hq' hq
theorem xp {p q:Pnt} (h1:Ts.ple p q) (h2:Ts.ple q p):p=q:=by
 unfold Ts.ple at h1 h2;exact GY (by omega) (by omega)
theorem cJ.uniq (G:Gr nb) {f f':Bool} {L L':List Pnt} (h:cJ nb f L) (h':cJ nb f' L') {q:Pnt} (hq:q∈L) (hq':q∈L'):f=f'/\L=L':=by
 have s1:=h.sub G h' hq hq';have s2:=h'.sub G h hq' hq
 cases f with
 | false =>
  obtain ⟨a,b,l,rfl,o,hlt⟩:=h.op rfl
  have ends:∀ x∈a::b::l,(nb x).length=1->x=a\/x=(fin a b l).2:=by
   intro x hx h1;rcases B_.mp hx with e | hx
   ·exact .inl e
   ·by_cases e:x=(fin a b l).2
    ·exact .inr e
    ·have:=Bz G o.adj o.go x hx e
     omega
  cases f' with
  | false =>
   obtain ⟨a',b',l',rfl,o',hlt'⟩:=h'.op rfl;refine ⟨rfl,?_⟩;have hl':(fin a' b' l').2∈a'::b'::l':=Au _ (cz a' b' l').1
   have ea:a'=a:=by
    rcases ends a' (s1 a' Θ) o'.one with e | e
    ·exact e
    ·rcases ends (fin a' b' l').2 (s1 _ hl') (by rw [o'.lastOne G]; rfl) with e2 | e2
     ·rw [e2,e] at hlt';have h1:=Ts.mw.mp hlt;have h2:=Ts.mw.mp hlt';omega
     ·rw [<- e] at e2;have:=(cz a' b' l').1
      rw [e2] at this;exact absurd this (ER.mp o'.nd).1
   subst ea
   have eb:b'=b:=by
    have h1:=o.one;have h2:=o.adj;have h3:=o'.adj
    match hz:nb a',h1,h2,h3 with
    | [c],_,h2,h3=>rw [Ax.mp h2,Ax.mp h3]
   subst eb;rw [je o.go o'.go o.stop o'.stop]
  | true =>
   obtain ⟨a',b',l',rfl,o',_⟩:=h'.rd rfl;have:=o'.two G a (s2 a Θ)
   have:=o.one
   omega
 | true =>
  obtain ⟨a,b,l,rfl,o,hmin,hb⟩:=h.rd rfl
  cases f' with
  | false =>
   obtain ⟨a',b',l',rfl,o',hlt'⟩:=h'.op rfl;have:=o.two G a' (s1 a' Θ)
   have:=o'.one
   omega
  | true =>
   obtain ⟨a',b',l',rfl,o',hmin',hb'⟩:=h'.rd rfl;refine ⟨rfl,?_⟩;have ea:a'=a:=xp (hmin' a (s2 a Θ)) (hmin a' (s1 a' Θ));subst ea;subst hb hb';have n1:=ER.mp o.nd;have n2:=ER.mp o'.nd;rw [hV o.go o'.go (fun z=>n1.1 (Au _ z)) (fun z=>n2.1 (Au _ z)) o.stop o'.stop]
structure Wlk (nb:Pnt->List Pnt) (a b:Pnt) (l:List Pnt):Prop where
 adj:b∈nb a
 go:Go nb a b l
 nd:(a::b::l).Nodup
 stop:oth nb (fin a b l).1 (fin a b l).2=[]\/oth nb (fin a b l).1 (fin a b l).2=[a]
theorem Wlk.open (G:Gr nb) {a b:Pnt} {l:List Pnt} (w:Wlk nb a b l) (h1:(nb a).length=1):kX nb a b l:=by
 refine ⟨w.adj,w.go,h1,?_,w.nd⟩;rcases w.stop with h | h
 ·exact h
 ·have r:Rnd nb a b l:=⟨w.adj,w.go,h,w.nd⟩
  have:=r.two G a Θ
  omega
theorem Wlk.round (G:Gr nb) {a b:Pnt} {l:List Pnt} (w:Wlk nb a b l) {L:List Pnt} (hS:vx nb L) (h2:∀ x∈L,(nb x).length=2) (ha:a∈L):Rnd nb a b l:=by
 refine ⟨w.adj,w.go,?_,w.nd⟩;rcases w.stop with h | h
 ·exfalso
  have hl:(fin a b l).2∈L:=jf G hS w.adj w.go a Θ ha _ (Au _ (cz a b l).1);have h3:=h2 _ hl;have h1:=G.sym (f9 G w.adj w.go);have hn:=G.nd (fin a b l).2
  match hq:nb (fin a b l).2,h3,hn with
  | [p, q], _, hn =>
   have ne:p≠q:=fun e=>(ER.mp hn).1 (by rw [e]; exact Θ);have all:∀ y∈nb (fin a b l).2,y=(fin a b l).1:=fun y hy=>by
    by_cases e:y=(fin a b l).1
    ·exact e
    ·have:y∈oth nb (fin a b l).1 (fin a b l).2:=aQ.mpr ⟨hy,e⟩
     rw [h] at this; cases this
   exact ne ((all p (by rw [hq]; exact Θ)).trans (all q (by rw [hq]; exact Au _ Θ)).symm)
 ·exact h
theorem Wlk.ended (G:Gr nb) {a b:Pnt} {l:List Pnt} (w:Wlk nb a b l):((nb (fin a b l).2).length=1↔oth nb (fin a b l).1 (fin a b l).2=[]):=by
 have h1:=G.sym (f9 G w.adj w.go);constructor
 ·intro h
  match hq:nb (fin a b l).2,h,h1 with
  | [p], _, h1 =>
   unfold oth;rw [hq,Ax.mp h1];simp
 ·intro h;have all:∀ y∈nb (fin a b l).2,y=(fin a b l).1:=fun y hy=>by
   by_cases e:y=(fin a b l).1
   ·exact e
   ·have:y∈oth nb (fin a b l).1 (fin a b l).2:=aQ.mpr ⟨hy,e⟩
    rw [h] at this; cases this
  have hn:=G.nd (fin a b l).2
  match hq:nb (fin a b l).2,h1,all,hn with
  | [], h1, _, _ => cases h1
  | [p], _, _, _ => rfl
  | p :: q :: r, _, all, hn => exact absurd ((all p Θ).trans (all q (Au _ Θ)).symm) fun e => (ER.mp hn).1 (by rw [e]; exact Θ)
theorem vg (G:Gr nb) {a b:Pnt} {l:List Pnt} (o:kX nb a b l):(Ts.plt (fin a b l).2 a=true->cJ nb false (a::b::l).reverse)/\(Ts.plt (fin a b l).2 a=false->cJ nb false (a::b::l)):=by
 constructor
 ·intro h;obtain ⟨m,e,o2,e2⟩:=o.rev G;refine ⟨fun _=>⟨_,_,m,e,o2,?_⟩,fun e=>by cases e⟩;rw [e2]; exact h
 ·intro h;refine ⟨fun _=>⟨a,b,l,rfl,o,?_⟩,fun e=>by cases e⟩;have hne:(fin a b l).2≠a:=fun e=>(ER.mp o.nd).1 (by rw [<- e]; exact (cz a b l).1);have h:=Ts.dO.mp h;refine Ts.mw.mpr ?_;unfold Ts.ple at h;rcases h with h | ⟨h,h'⟩
  ·exact .inl h
  ·refine .inr ⟨h,?_⟩;rcases Int.lt_or_eq_of_le h' with q | q
   ·exact q
   ·exact absurd (GY h q).symm hne
end
end Sm
namespace Ts
open PySem PyProof.Rows PySem.W
section
variable {prog:D_} {w:Eh} {A:Eg} {E:ς->Ω->Prop} {s:Ω}
theorem bV.ty {v:ς} {p:Int×Int} (h:bV s.heap v p):s.TypeIs v "tuple":=by
 obtain ⟨b,o,t,u,n,rfl,h1,h2,_⟩:=h;exact ⟨o,h1,h2⟩
theorem gy {v u:ς} {p q:Int×Int} {Q:ς->Ω->Prop} (hu:A.units<Ho) (hv:bV s.heap v p) (hw:bV s.heap u q) (h:Q (.bool (plt p q)) s):EA (EH prog w) A (richCompare .Lt v u) Q E s:=by
 refine wpAny_richCompare_same_room hv.ty hw.ty F.slot_tuple_lt (HY F.slot_tuple_lt hv.ty F.entry_tuple_lt ?_ (F.args_tuple_lt_2 _ _)) hu;obtain ⟨b,o,t1,t2,n,rfl,h1,c1,d1⟩:=hv;obtain ⟨c,o2,t3,t4,m,rfl,h2,c2,d2⟩:=hw;unfold Gw.«tuple.__lt__»;refine θ (A_ ?_);dsimp only;refine θ (LN (T:="tuple") (b:=true) ⟨o2,h2,c2⟩ (by rw [isSubtype_type]; kernel_rfl) ?_);rw [if_neg (by decide)];refine θ (wpAny_tupleItemsOf h1 d1 (θ (wpAny_tupleItemsOf h2 d2 ?_)))
 show EA (EH prog w) A.in1 (forIn [(HR p.1 t1,HR q.1 t3),(HR p.2 t2,HR q.2 t4)] _ _ >>= _) _ E s
 have nn:∀ b:Bool,Im b≠Value.notImplemented:=fun b e=>nomatch e
 refine θ ?_;rw [Ky];refine θ (θ (Ib ?_));by_cases e1:p.1=q.1
 ·have e1':(p.1==q.1)=true:=by rw [e1]; exact beq_self_eq_true _
  rw [e1',if_neg (by decide)];refine A_ ?_;dsimp only;rw [Ky];refine θ (θ (Ib ?_));by_cases e2:p.2=q.2
  ·have e2':(p.2==q.2)=true:=by rw [e2]; exact beq_self_eq_true _
   rw [e2',if_neg (by decide)];refine A_ ?_;dsimp only;rw [List.forIn_nil];refine A_ ?_;have:plt p q=false:=dO.mpr (by unfold ple; omega)
   rw [this] at h;exact A_ ⟨_,rfl,nn _,h⟩
  ·have e2':(p.2==q.2)=false:=by simpa using e2
   rw [e2',if_pos (by decide)];refine θ (GO ?_);refine θ (wpAny_lt_int ?_);refine θ (A_ (A_ ?_));dsimp only;refine A_ ?_;have:plt p q=decide (p.2<q.2):=by unfold plt; rw [e1]; simp
   rw [this] at h;exact A_ ⟨_,rfl,nn _,h⟩
 ·have e1':(p.1==q.1)=false:=by simpa using e1
  rw [e1',if_pos (by decide)];refine θ (GO ?_);refine θ (wpAny_lt_int ?_);refine θ (A_ (A_ ?_));dsimp only;refine A_ ?_;have:plt p q=decide (p.1<q.1):=by unfold plt; simp [e1]
  rw [this] at h;exact A_ ⟨_,rfl,nn _,h⟩
def dD (h:E5) (vs:List ς) (g:ς->Int×Int) (I S:Δ):Prop:=∀ v∈vs,bV h v (g v)/\v≠.ref I/\v≠.ref S
theorem dD.keep {h h':E5} {vs:List ς} {g:ς->Int×Int} {I S:Δ} (a:dD h vs g I S) (k:∀ b o,b≠I->b≠S->h.get? b=some o->h'.get? b=some o):dD h' vs g I S:=by
 intro v hv;obtain ⟨⟨b,o,t,u,n,rfl,h1,h2,h3⟩,n1,n2⟩:=a v hv;exact ⟨⟨b,o,t,u,n,rfl,k b o (fun e=>n1 (by rw [e])) (fun e=>n2 (by rw [e])) h1,h2,h3⟩,n1,n2⟩
theorem uF {p q r:Int×Int} (h:ple p q) (h':ple q r):ple p r:=by unfold ple at *; omega
theorem pV (p:Int×Int):ple p p:=by unfold ple; omega
theorem BL {R:Kq->Ω->Prop} {I l S:Δ} {vs:List ς} {g:ς->Int×Int} (hu:A.units+8<Ho) (hh:A.in1.handled=none) (hl:l≠I) (hSI:S≠I) (hSl:S≠l) :
  ∀ (k j:Nat) (s:Ω) (vb:ς) (c:Nat),vs.length - (j+1)=k->j+1<=vs.length->s.heap.IsListIter I l (j+1)->s.heap.IsList l vs.toArray->dD s.heap vs g I S->vb∈vs->(∀ i v,i<=j->vs[i]?=some v->ple (g vb) (g v)) ->
  s.heap.get? S=some { cls:=.type "list",dict:=none,data:=.seq #[vb,vb] c,slots:=#[] } ->
  (∀ v h' tk,v∈vs->(∀ u∈vs,ple (g v) (g u))->(∀ b o,b≠I->b≠S->s.heap.get? b=some o->h'.get? b=some o)->R (.ok (.ret v)) { s with heap:=h',toks:=tk }) ->
  HA (EH prog w) A (.builtin "min.loop" ⟨[.ref I,.none,.ref S],[]⟩) R s:=by
 have W:=K6 (prog:=prog) (w:=w) hh I l hl vs.toArray;have nm:(toString "min"++toString ".loop":String)="min.loop":=by decide
 have sz:vs.toArray.size=vs.length:=by simp
 intro k
 induction k with
 | zero =>
  intro j s vb c hk hj hit hls hap hvb hmin hS hR
  (refine Gz K8 ?_; rw [GJ G9 _]; show EA _ A.in1 (seqItems? (.ref S) >>= _) _ _ s; refine θ (JL hS rfl ?_))
  (show EA _ A.in1 (tryCatch (Ja (.ref I)) _ >>= _) _ _ s; refine θ (JK (W.done s _ _ ⟨by rw [sz,show vs.length=j+1 by omega]; exact hit,hls⟩ fun h' tk hk'=>?_)))
  have hS':=hk' S _ (by simp [hSI]) hS
  (show EA _ A.in1 (updateSeq S (fun _=>#[]) >>= _) _ _ _; refine θ ?_; refine Jx hS' rfl (θ (Ij (A_ ?_))))
  refine hR vb _ tk hvb (fun u hu'=>?_) fun b o hI hbS e=>(EX _ _ (FH hbS)).trans (hk' b o (by simp [hI]) e);obtain ⟨i,hi⟩:=Ep.mp hu';exact hmin i u (by have:=(Aw.mp hi).1; omega) hi
 | succ k ih =>
  intro j s vb c hk hj hit hls hap hvb hmin hS hR
  (refine Gz K8 ?_; rw [GJ G9 _]; show EA _ A.in1 (seqItems? (.ref S) >>= _) _ _ s; refine θ (JL hS rfl ?_))
  (show EA _ A.in1 (tryCatch (Ja (.ref I)) _ >>= _) _ _ s; refine θ (JK (W.item (j+1) s _ _ (by omega) ⟨hit,hls⟩ fun v h' tk hP hst' hk'=>?_)))
  have hS':=hk' S _ (by simp [hSI]) hS;have hap':dD h' vs g I S:=hap.keep fun b o hI _ e=>hk' b o (by simp [hI]) e;have hv:vs[j+1]?=some v:=by rw [<- hP]; simp
  have hvm:v∈vs:=EW hv
  (show EA _ A.in1 (tryCatch (Jv [v,v] (richCompare .Lt v vb >>= _)) _ >>= _) _ _ _; refine θ (JK (FW (θ (gy (s:={ s with heap:=h',toks:=tk }) (by show A.units+1<Ho; omega) (hap' v hvm).1 (hap' vb hvb).1 ?_)))))
  (refine θ (FW (F1 ?_)); refine θ (Ij (A_ ?_)))
  cases hb:plt (g v) (g vb) with
  | true =>
   simp only [if_true]
   (refine θ ?_; refine Jx hS' rfl (θ (Ij ?_)); rw [nm])
   have kp:∀ b o,b≠S->h'.get? b=some o->(h'.update S (ES fun _=>#[v,v])).get? b=some o:=fun b o hbS e=>(EX _ _ (FH hbS)).trans e;refine A_ ⟨HN G9 _,ih (j+1) _ v _ (by omega) (by omega) (hst'.1.at fun o e=>kp I o (FH hSI) e) (hst'.2.at fun o e=>kp l o (FH hSl) e) (hap'.keep fun b o _ hbS e=>kp b o hbS e) hvm (fun i u hi hu'=>?_) (GF _ hS' rfl) fun v' h'' tk'' hm hmi hk''=>?_⟩
   ·have hlt:=mw.mp hb;have:ple (g v) (g vb):=by unfold ple; omega
    by_cases hij:i<=j
    ·exact uF this (hmin i u hij hu')
    ·have:i=j+1:=by omega
     subst this;rw [hv] at hu'; cases hu';exact pV _
   ·exact hR v' h'' tk'' hm hmi fun b o hI hbS e=>hk'' b o hI hbS (kp b o hbS (hk' b o (by simp [hI]) e))
  | false =>
   simp only [FI,if_false]
   (refine θ (Ij ?_); rw [nm])
   refine A_ ⟨HN G9 _,ih (j+1) _ vb c (by omega) (by omega) hst'.1 hst'.2 hap' hvb (fun i u hi hu'=>?_) hS' fun v' h'' tk'' hm hmi hk''=>?_⟩
   ·by_cases hij:i<=j
    ·exact hmin i u hij hu'
    ·have:i=j+1:=by omega
     subst this;rw [hv] at hu'; cases hu';exact dO.mp hb
   ·exact hR v' h'' tk'' hm hmi fun b o hI hbS e=>hk'' b o hI hbS (hk' b o (by simp [hI]) e)
theorem uo {l:Δ} {vs:List ς} {g:ς->Int×Int} {Q:ς->Ω->Prop} (hu:A.units+16<Ho) (hh:A.handled=none) (hl:s.heap.IsList l vs.toArray) (hne:vs≠[]) (hp:∀ v∈vs,bV s.heap v (g v))
  (h:∀ v h' tk,v∈vs->(∀ u∈vs,ple (g v) (g u))->(∀ b o,s.heap.get? b=some o->h'.get? b=some o)->Q v { s with heap:=h',toks:=tk }):EA (EH prog w) A (call (.builtin "min") [.ref l]) Q E s:=by
 have nm:(toString "min"++toString ".loop":String)="min.loop":=by decide
 have hlt:l<s.heap.objs.size:=by obtain ⟨o,e,_⟩:=hl; exact D0 e
 (refine call_function_tree F.kind_min F.plain_min F.entry_min (F.args_min1 _) ?_; show EA _ A.in1 (Ji "min" ["key","default"] 0 ⟨[],[]⟩ >>= _) _ _ s)
 (refine θ (wpAny_of_eq (show Ji "min" ["key","default"] 0 ⟨[],[]⟩=pure [none,none] from rfl) ?_); refine θ (A_ ?_))
 (refine θ (JU hl ?_); refine θ (HU ?_); rw [nm])
 generalize hI:s.heap.objs.size=I;have hS:(s.heap.push { cls:=.type "list_iterator",data:=.fields #[.ref l,.int 0 0] }).objs.size=I+1:=by rw [Hv,hI]
 have kp:∀ b o,s.heap.get? b=some o->((s.heap.push { cls:=.type "list_iterator",data:=.fields #[.ref l,.int 0 0] }).push { cls:=.type "list",data:=.seq #[] }).get? b=some o:=fun b o e=>χ _ (χ _ e);have hSI:I+1≠I:=Nat.succ_ne_self I;have hlI:l≠I:=by rw [<- hI]; exact D5 hlt
 have hSl:I+1≠l:=by rw [<- hI]; exact Kc (Gx hlt)
 have hap:dD ((s.heap.push { cls:=.type "list_iterator",data:=.fields #[.ref l,.int 0 0] }).push { cls:=.type "list",data:=.seq #[] }) vs g I (I+1):=by
  intro v hv;obtain ⟨b,o,t,u,n,rfl,h1,h2,h3⟩:=hp v hv;have hb:=D0 h1;rw [hI] at hb;refine ⟨⟨b,o,t,u,n,rfl,kp _ _ h1,h2,h3⟩,(fun e=>?_),(fun e=>?_)⟩
  ·injection e with e; rw [e] at hb; exact Fo _ hb
  ·injection e with e; rw [e] at hb; exact absurd hb (HS.mpr (Gg _))
 have it0:((s.heap.push { cls:=.type "list_iterator",data:=.fields #[.ref l,.int 0 0] }).push { cls:=.type "list",data:=.seq #[] }).IsListIter I l 0:=⟨_,χ _ (by rw [<- hI]; exact D4 _ rfl),rfl,rfl⟩
 have hl2:((s.heap.push { cls:=.type "list_iterator",data:=.fields #[.ref l,.int 0 0] }).push { cls:=.type "list",data:=.seq #[] }).IsList l vs.toArray:=hl.at fun o e=>kp l o e;have hS0:((s.heap.push { cls:=.type "list_iterator",data:=.fields #[.ref l,.int 0 0] }).push { cls:=.type "list",data:=.seq #[] }).get? (I+1)=some { cls:=.type "list",dict:=none,data:=.seq #[] 0,slots:=#[] }:=by rw [<- hS]; exact D4 _ rfl
 show EA _ _ (pure (Fin.again (.builtin "min.loop" ⟨[.ref I,.none,.ref (s.heap.push { cls:=.type "list_iterator",data:=.fields #[.ref l,.int 0 0] }).objs.size],[]⟩))) _ _ { s with heap:=(s.heap.push { cls:=.type "list_iterator",data:=.fields #[.ref l,.int 0 0] }).push { cls:=.type "list",data:=.seq #[] } }
 rw [hS];generalize (s.heap.push { cls:=.type "list_iterator",data:=.fields #[.ref l,.int 0 0] }).push { cls:=.type "list",data:=.seq #[] }=h2 at kp hap it0 hl2 hS0 ⊢;have W:=K6 (prog:=prog) (w:=w) (A:=A.in1) hh I l hlI vs.toArray;have sz:vs.toArray.size=vs.length:=by simp
 have pos:0<vs.length:=J4.mpr hne;refine A_ ⟨HN G9 _,?_⟩
 (refine Gz K8 ?_; rw [GJ G9 _]; show EA _ A.in1 (seqItems? (.ref (I+1)) >>= _) _ _ _; refine θ (JL hS0 rfl ?_))
 (show EA _ A.in1 (tryCatch (Ja (.ref I)) _ >>= _) _ _ _; refine θ (JK (W.item 0 { s with heap:=h2 } _ _ (by omega) ⟨it0,hl2⟩ fun v h' tk hP hst' hk'=>?_)))
 have hS':=hk' (I+1) _ (by simp) hS0;have hap':dD h' vs g I (I+1):=hap.keep fun b o hI _ e=>hk' b o (by simp [hI]) e;have hv:vs[0]?=some v:=by rw [<- hP]; simp
 (show EA _ A.in1 (updateSeq (I+1) (fun _=>#[v,v]) >>= _) _ _ _; refine θ ?_; refine Jx hS' rfl ?_; rw [nm])
 have kp2:∀ b o,b≠I+1->h'.get? b=some o->(h'.update (I+1) (ES fun _=>#[v,v])).get? b=some o:=fun b o hbS e=>(EX _ _ (FH hbS)).trans e;refine A_ ⟨HN G9 _,BL (g:=g) (by omega) hh hlI hSI hSl _ 0 _ v _ rfl (by omega) (hst'.1.at fun o e=>kp2 I o (FH hSI) e) (hst'.2.at fun o e=>kp2 l o (FH hSl) e) (hap'.keep fun b o _ hbS e=>kp2 b o hbS e) (EW hv) (fun i u hi hu'=>?_) (GF _ hS' rfl) fun v' h'' tk'' hm hmi hk''=>?_⟩
 ·have:i=0:=by omega
  subst this;rw [hv] at hu'; cases hu';exact pV _
 ·refine h v' h'' tk'' hm hmi fun b o e=>?_;have hb:=D0 e;rw [hI] at hb;have n1:b≠I:=D5 hb;have n2:b≠I+1:=D5 (Gx hb);exact hk'' b o n1 n2 (kp2 b o n2 (hk' b o (by simp [n1]) (kp b o e)))
end
end Ts
namespace L2
open PySem PySem.Spec PyProof.Rows
def AV (K:W.Frag) (vs:List V) (H:Hp) (Q:VK):Prop:=∃ a xs,vs=[.ref a]/\SqL K H a xs/\xs≠[]/\∃ g:V->Int×Int,(∀ v∈xs,PtV H v (g v))/\∀ v∈xs,(∀ u∈xs,Ts.ple (g v) (g u))->Q v H
theorem ju {X:Cx} {pins:List (Δ×GN)} {σ:St} {H:Hp} {s:Ω} (I:Inv X pins σ H s) {v:V} {u:ς} {p:Int×Int} (h:PtV H v p) (r:aL v u):Ts.bV s.heap u p:=by
 obtain ⟨b,rfl,hb⟩:=h;have r:u=.ref b:=r;subst r;obtain ⟨_,its2,r2,o,ho,hc,n,hd⟩:=I.hok _ _ hb
 cases r2 with
 | cons q1 r2 =>
 obtain ⟨t1,rfl⟩:=q1
 cases r2 with
 | cons q2 r2 =>
 obtain ⟨t2,rfl⟩:=q2
 cases r2;exact ⟨b,o,t1,t2,n,rfl,ho,hc,hd⟩
theorem vD {X:Cx} (K:W.Frag) (hK:X.K=K) (hc:X.calm=true) (hu:X.A.units+64<Ho):bM X (.builtin "min") (AV K):=by
 subst hK;intro pins s σ H xs us Q I hv h;obtain ⟨a,ys,rfl,hl,hne,g,hg,h⟩:=h
 cases hv with
 | cons r hv =>
 cases hv
 cases r;obtain ⟨its,rv,pl,hz⟩:=I.list hl;obtain ⟨em,hr⟩:=rv.refs fun v hv=>let ⟨b,e,_⟩:=hg v hv; ⟨b,e⟩;have hb:∀ u∈its,∃ b,u=EB b/\V.ref b∈ys:=fun u hu=>by
  obtain ⟨b,rfl⟩:=hr u hu;exact ⟨b,rfl,by rw [<- em]; exact EJ.mpr ⟨_,hu,rfl⟩⟩
 refine Ts.uo (g:=fun u=>g (toV u)) (by omega) (I.ok.hd hc) pl.isList (fun e=>hne (by rw [<- em,e]; rfl)) (fun u hu=>?_) fun v h' tk hm hmin hk=>?_
 ·obtain ⟨b,rfl,hm⟩:=hb u hu;exact ju I (hg _ hm) rfl
 ·obtain ⟨b,rfl,hm'⟩:=hb v hm;refine ⟨.ref b,H,I.kept hk,rfl,h _ hm' fun u hu=>?_⟩;rw [<- em] at hu;obtain ⟨w,hw,rfl⟩:=EJ.mp hu;exact hmin w hw
theorem Ac {K:W.Frag} {a:Δ} {xs:List V} {H:Hp} {Q:VK} (g:V->Int×Int) (e:H a=some (.lst xs)) (hne:xs≠[]) (hg:∀ v∈xs,PtV H v (g v)) (h:∀ v∈xs,(∀ u∈xs,Ts.ple (g v) (g u))->Q v H):AV K [.ref a] H Q:=⟨a,xs,rfl,SqL.of e,hne,g,hg,h⟩
def C8:R2:=fun x y H Q=>∃ p q,PtV H x p/\PtV H y q/\Q (.bl (Ts.plt p q)) H
theorem BQ {X:Cx} (hu:X.A.units+64<Ho):OpR X (F8 .Lt) C8:=by
 intro pins s σ H x y v u Q I rx ry h;obtain ⟨p,q,h1,h2,k⟩:=h;exact Ts.gy (by omega) (ju I h1 rx) (ju I h2 ry) ⟨.bl _,H,I,rfl,k⟩
theorem Cm {H:Hp} {Q:VK} {x y:V} {p q:Int×Int} (hx:PtV H x p) (hy:PtV H y q) (k:Q (.bl (Ts.plt p q)) H):C8 x y H Q:=⟨p,q,hx,hy,k⟩
section
variable {K:W.Frag} {σ:St} {H:Hp} {Q:VK} {te:TE} {tt:TT} {cap:List (Option Nat)} {l:Δ}
theorem jO {a:Δ} {xs:List V} (F:V->V) (p:V->Bool) (hs:SqL K H a xs) (hz:xs.length<=5000) (hl:H l=none)
    (test:∀ x o H' (Q':Bool->Hp->Prop),x∈xs->aj H H'->(∀ H5,aj H' H5->Q' (p x) H5)->tt (((cT (none::cap) σ).set 0 o).set 0 (some x)) H' Q')
    (step:∀ x o H' (Q':VK),x∈xs->p x=true->aj H H'->(∀ H5,aj H' H5->Q' (F x) H5)->te (((cT (none::cap) σ).set 0 o).set 0 (some x)) H' Q')
    (fin:∀ H',aj H H'->H' l=some (.lst ((xs.filter p).map F))->Q (.ref l) H'):fu (Itl K a) (cR 0) tt te (none::cap) l σ H Q:=by
  refine ⟨xs.length,fun i ys σ' H'=>ys=((xs.take i).filter p).map F/\(∃ o,σ'=(cT (none::cap) σ).set 0 o)/\aj H H'/\H' l=some (.lst ys),⟨rfl,⟨none,rfl⟩,aj.new hl,ag⟩,?_,?_⟩
  · rintro i ys σ' H' hi ⟨rfl,⟨o,rfl⟩,s,e⟩
    refine ⟨⟨xs,xs[i],s.seq hs,by simp [hi]⟩,fun x H2 y=>?_⟩;obtain ⟨e2,y⟩:=y;subst e2;have hx:=y xs (s.seq hs)
    have tk:((xs.take (i+1)).filter p).map F=((xs.take i).filter p).map F++(if p x=true then [F x] else []):=by
      rw [Ft,hx,HC,Ef]
      congr 1
      cases hp:p x<;>simp [hp]
    refine bY (test x o H2 _ (EW hx) s fun H5 s5=>?_);by_cases hp:p x=true
    · rw [if_pos hp]
      rw [if_pos hp] at tk;refine step x o H5 _ (EW hx) hp (s.trans s5) fun H6 s6=>⟨s6 _ _ (s5 _ _ e),?_,?_⟩
      · have:(((xs.take i).filter p).map F).length<=xs.length:=by
          rw [Ξ];exact Ew (Gq _ _) (by rw [FP]; omega)
        exact Ej (Ew this hz) (by decide)
      · exact ⟨tk.symm,⟨_,HB ..⟩,((s.trans s5).trans s6).later hl,ag⟩
    · rw [if_neg hp]
      rw [if_neg hp,E2] at tk;exact ⟨tk.symm,⟨_,HB ..⟩,s.trans s5,s5 _ _ e⟩
  · rintro ys σ' H' ⟨rfl,_,s,e⟩
    rw [EN (Av _)] at e;exact ⟨⟨xs,s.seq hs,Av _⟩,fin H' s e⟩
end
end L2
namespace Ts
open PySem PyProof.Rows PySem.W
theorem zu (g:C0->Int×Int):cP fun x y=>plt (g x) (g y):=by
 constructor
 ·intro x y h;have h:=mw.mp h;refine dO.mpr ?_;unfold ple;omega
 ·intro x y z h1 h2;have h1:=dO.mp h1;have h2:=dO.mp h2;refine dO.mpr ?_;unfold ple at h1 h2 ⊢;omega
end Ts
namespace L2
open PySem PySem.Spec PyProof.Rows PySem.W
section
variable {X:Cx} {pins:List (Δ×GN)} {σ:St} {H H1 H2:Hp} {s0 s s':Ω}
structure dy (X:Cx) (H:Hp) (s0:Ω) (H1:Hp) (s:Ω):Prop where
 os:s.os=s0.os
 un:Un (frs X.stack) [] H H1 s0.heap s.heap
 hok:HOk X.prog X.w H1 s.heap
 bare:JH s.gens
theorem dy.inv (a:dy X H s0 H1 s) (I:Inv X pins σ H s0):Inv X pins σ H1 s:=I.call' a.os a.un a.hok a.bare (fun b hb=>nomatch hb)
theorem dy.start (I:Inv X pins σ H s0):dy X H s0 H s0:=⟨rfl,Un.refl,I.hok,I.bare⟩
theorem dy.heap {h':E5} (a:dy X H s0 H1 s) (k:∀ b o,b<s0.heap.objs.size\/H1 b≠none->s.heap.get? b=some o->h'.get? b=some o):dy X H s0 H1 { s with heap:=h' }:=by
 have lt:∀ {b o},s0.heap.get? b=some o->b<s0.heap.objs.size:=fun e=>D0 e;refine ⟨a.os,⟨fun b o e n hb hx=>k b o (.inl (lt e)) (a.un.keep b o e n hb hx),fun b o e n hb hx=>?_,a.un.free,fun b o e hx=>?_,a.un.tups,a.un.frzs,a.un.tbls⟩,fun b o e=>?_,a.bare⟩
 ·obtain ⟨sl,q⟩:=a.un.slot b o e n hb hx;exact ⟨sl,k b _ (.inl (lt e)) q⟩
 ·obtain ⟨o',q⟩:=a.un.there b o e hx;exact ⟨o',k b _ (.inl (lt e)) q⟩
 ·refine (a.hok b o e).stay (fun c v hc q=>k c v (.inr ?_) q) (fun _ q=>q) fun _ _ q=>q;rcases hc with z | z
  ·rw [z,e]; exact fun z=>nomatch z
  ·rw [z]; exact fun z=>nomatch z
theorem dy.track {c:Δ} {o:HO} (a:dy X H s0 H1 s) (hc:s0.heap.objs.size<=c) (hn:H1 c=none) (I:Inv X pins σ H s0) (new:aY X.prog X.w (upd H1 c o) s.heap c o):dy X H s0 (upd H1 c o) s:=by
 have ne:∀ {b o},s0.heap.get? b=some o->b≠c:=fun e z=>by have:=D0 e; rw [z] at this; exact absurd this (HS.mpr hc)
 have ne1:∀ {b o},H1 b=some o->b≠c:=fun e z=>by rw [z,hn] at e; cases e
 refine ⟨a.os,⟨a.un.keep,a.un.slot,fun b o e n hx=>by rw [ai (ne e)]; exact a.un.free b o e n hx,a.un.there,fun b xs e=>?_,fun b o u e=>?_,fun b ps e=>?_⟩,fun b u e=>?_,a.bare⟩
 ·have:=a.un.tups b xs e
  rw [ai (ne1 this)]; exact this
 ·have:=a.un.frzs b o u e
  rw [ai (ne1 this)]; exact this
 ·obtain ⟨more,q⟩:=a.un.tbls b ps e;exact ⟨more,by rw [ai (ne1 q)]; exact q⟩
 ·by_cases hb:b=c
  ·subst hb; rw [ag] at e; cases e; exact new
  ·rw [ai hb] at e;exact (a.hok b u e).stay (fun c v _ q=>q) (fun c q=>by rw [ai (ne1 q)]; exact q) fun c xs q=>by rw [ai (ne1 q)]; exact q
theorem dy.call {A:Eg} {k:Nat} {f:Δ} {fd:FU} {ps:List Str} {sp:Sp} {us:List ς} {vs:List V} {Q:VK} {E:ς->Ω->Prop} (a:dy X H s0 H1 s) (I:Inv X pins σ H s0) (F:aW X.prog X.w X.K X.mg X.base CX0 k f fd ps sp) (hr:bF k A) (hA:A.frames=X.A.frames)
  (hb:aI X.K fd ps []) (r:Vals vs us) (h:sp vs H1 Q E0) {R:ς->Ω->Prop} (q:∀ v u H2 s2,dy X H s0 H2 s2->aL v u->Q v H2->(∀ b o,s.heap.get? b=some o->H1 b=none->b∉frs X.stack->s2.heap.get? b=some o/\H2 b=none)->R u s2):EA (EH X.prog X.w) A (Io (.ref f) us) R E s:=by
 have J:=a.inv I;have hl:(us++([]:List ς)).length=ps.length:=by rw [E2,<- r.length]; exact F.len _ _ _ _ h
 have e0:=J.env0;have bt:=hb s us J.kIn hl;rw [E2] at bt;refine Ic (G0 (F.run A X.stack s H1 ⟨us,[]⟩ us vs Q E0 hr ⟨hA.trans e0.frames,e0.mod,e0.bs,e0.bsz,e0.funs,e0.frf,e0.hok,e0.bare⟩ bt r h) fun r s2 hq=>?_)
 cases r with
 | error e=>exact Es hq
 | ok fl =>
  cases fl with
  | ret u =>
   obtain ⟨v,H2,os,bare,un,hok,rv,qq⟩:=hq;exact q v u H2 s2 ⟨os.trans a.os,a.un.trans un,hok,bare⟩ rv qq fun b o e n hb=>⟨un.keep b o e n hb (fun z=>nomatch z),un.free b o e n (fun z=>nomatch z)⟩
  | next => exact Es hq
  | brk => exact Es hq
  | cont => exact Es hq
def rg (K:W.Frag) (sp:Sp) (x:V) (H:Hp) (Q:VK):Prop:=∃ (a:Δ) (xs:List V) (g:V->Int×Int),x=.ref a/\SqL K H a xs/\(∀ v∈xs,∃ b,v=.ref b) /\
 (∀ v∈xs,∀ (H1:Hp) (Q1:VK),aj H H1->(∀ u H2,aj H1 H2->PtV H2 u (g v)->Q1 u H2)->sp [v] H1 Q1 E0) /\
 ∀ (l:Δ) (ys:List V) (H':Hp),aj H H'->H l=none->H' l=some (.lst ys)->ys.Perm xs->ys.Pairwise (fun x y=>Ts.ple (g x) (g y))->Q (.ref l) H'
theorem PtV.mono {v:V} {p:Int×Int} (s:aj H H1) (h:PtV H v p):PtV H1 v p:=by
 obtain ⟨b,e,q⟩:=h;exact ⟨b,e,s _ _ q⟩
theorem mG {xs:List V} {us:List ς} {v:V} {u:ς} (h:Vals xs us) (r:aL v u):Vals (xs++[v]) (us++[u]):=h.append (.cons r .nil)
theorem v3 {A:Eg} {E:ς->Ω->Prop} {h:E5} (us:List ς) (gs:ς->Int×Int) (hv:∀ u∈us,Ts.bV h u (gs u)) (h2:2<=us.length) {M:Iq} {s:Ω} (hs:s.heap=h) {Q:GL->Ω->Prop} (q:Q (K0 true) s):EA M A (keyKind' us.toArray) Q E s:=by
 have key:∀ (us:List ς),(∀ v∈us,Ts.bV h v (gs v))->∃ fs,KatTups h us fs/\fs.length=us.length/\∀ f∈fs,∃ i t,f=.int i t:=by
  intro us
  induction us with
  | nil => intro _; exact ⟨[], KatTups.nil, rfl, (fun f hf => nomatch hf)⟩
  | cons v us ih =>
   intro hu;obtain ⟨fs,k1,k2,k3⟩:=ih fun v hv=>hu v (Au _ hv);obtain ⟨b,o,t,u,n,e,h1,h2,h3⟩:=hu v Θ;refine ⟨.int (gs v).1 t::fs,?_,by rw [C_,C_,k2],fun f hf=>?_⟩
   ·rw [e];rw [e] at h3;exact KatTups.cons h1 h2 h3 rfl k1
   ·rcases B_.mp hf with rfl | hf
    ·exact ⟨_,_,rfl⟩
    ·exact k3 f hf
 obtain ⟨fs,k1,k2,k3⟩:=key us hv;subst hs;refine kat_kind (T:=.type "int") k1 (by omega) (fun f hf=>?_) (by decide) ?_
 ·obtain ⟨i,t,rfl⟩:=k3 f hf;exact Looks.of_pure rfl
 ·have:(Gj "int" != Gj "tuple")=true:=by decide
  rw [this];exact q
theorem zipFew {α β:Type} {R:α×β->α×β->Prop} {a:List α} {b:List β} (h:b.length<2):(a.zip b).Pairwise R:=by
  cases b with
  | nil=>rw [List.zip_nil_right]; exact List.Pairwise.nil
  | cons v b=>
    cases b with
    | nil=>
      cases a with
      | nil=>exact List.Pairwise.nil
      | cons u a=>rw [List.zip_cons_cons,List.zip_nil_right]; exact List.pairwise_singleton _ _
    | cons v b=>simp at h; omega
theorem uX {k:Nat} {f:Δ} {fd:FU} {ps:List Str} {sp:Sp} {x:V} {u:ς} {Q:VK} (F:aW X.prog X.w X.K X.mg X.base CX0 k f fd ps sp) (hr:bF (k+3) X.A) (hb:aI X.K fd ps []) (I:Inv X pins σ H s0) (rx:aL x u) (h:rg X.K sp x H Q) :
    EA (EH X.prog X.w) X.A (Io (.builtin "sorted") [u] [(Gf "key",.ref f)]) (EP X pins σ Q) X.xe s0:=by
  obtain ⟨a,xs,g,rfl,hl,hrf,hkey,hend⟩:=h
  cases rx;obtain ⟨its,rv,pl,hz⟩:=I.list hl;have hlen:=rv.length;have hz':its.length<=sizeLine:=by omega
  obtain ⟨em,hri⟩:=rv.refs hrf;refine call_function_entry_kw LZ K1 K4 (ksk_s1 _ _) ?_;unfold Gw.«sorted»;refine θ (m:=L_ "sorted" 1 1 _) (A_ ?_);refine θ (collect_list pl.isList ?_ hz');refine θ (Hj ?_ hz');generalize hS0:s0.heap.objs.size=n0;have hsz:((s0.heap.push (Eb "list" #[] 0)).update n0 (ES (·++its.toArray))).objs.size=n0+1:=by rw [Gi,Hz,hS0]
  have hoL:(((s0.heap.push (Eb "list" #[] 0)).update n0 (ES (·++its.toArray))).push (Eb "list" its.toArray 0)).get? (n0+1)=some (Eb "list" its.toArray 0):=by rw [<- hsz]; exact D4 _ rfl
  have keep:∀ b o,s0.heap.get? b=some o->(((s0.heap.push (Eb "list" #[] 0)).update n0 (ES (·++its.toArray))).push (Eb "list" its.toArray 0)).get? b=some o:=fun b o q=>by
    have hlt:b<n0:=by rw [<- hS0]; exact D0 q
    refine χ _ ?_;rw [Gb _ _ _ _ (D5 hlt)];exact χ _ q
  have hs2:(((s0.heap.push (Eb "list" #[] 0)).update n0 (ES (·++its.toArray))).push (Eb "list" its.toArray 0)).objs.size=n0+2:=by rw [Hz,hsz]
  show EA _ _ (Jv [.ref ((s0.heap.push (Eb "list" #[] 0)).update n0 (ES (·++its.toArray))).objs.size] (Io (.builtin "list.sort") [.ref ((s0.heap.push (Eb "list" #[] 0)).update n0 (ES (·++its.toArray))).objs.size] [(Gf "key",.ref f)]) >>= fun _=>ret (.ref ((s0.heap.push (Eb "list" #[] 0)).update n0 (ES (·++its.toArray))).objs.size)) _ _ { s0 with heap:=((s0.heap.push (Eb "list" #[] 0)).update n0 (ES (·++its.toArray))).push (Eb "list" its.toArray 0) }
  rw [hsz];generalize ((s0.heap.push (Eb "list" #[] 0)).update n0 (ES (·++its.toArray))).push (Eb "list" its.toArray 0)=h1 at hoL keep hs2 ⊢;generalize hD:n0+1=D at hoL ⊢;have am0:dy X H s0 H { s0 with heap:=h1 }:=(dy.start I).heap fun b o _ q=>keep b o q;refine θ (FW (wpAny_call_entry_kw KD ⟨_,hoL,rfl⟩ J0 ?_ (ksk_l1 _ _)))
  show EA (EH X.prog X.w) X.A.in1.in1 (Gw.«list.sort» ⟨[.ref D],[(Gf "key",.ref f)]⟩) _ _ _
  rw [ksk_t1];unfold ksk_tree;refine θ (Ju hoL rfl ?_);refine θ (GQ hoL rfl ?_ (by rw [D8]; exact hz') (El _));obtain ⟨e1,ho1⟩:∃ e1,(h1.update D (ES fun _=>#[])).get? D=some (Eb "list" #[] e1):=⟨_,F5 hoL (fun _=>#[])⟩
  refine θ (Il ho1 rfl ?_);refine θ (L6 ?_ (by first | exact hz' | (simp; exact hz')));refine θ (Hj ?_);refine FW ?_
  show EA _ _ (ksk_rest D (.ref f) false its.toArray e1 (.ref ((h1.update D (ES fun _=>#[])).push (Eb "tuple" its.toArray 0)).objs.size)) _ _ { s0 with heap:=((h1.update D (ES fun _=>#[])).push (Eb "tuple" its.toArray 0)).push (Eb "list" #[] 0) }
  have hsk:((h1.update D (ES fun _=>#[])).push (Eb "tuple" its.toArray 0)).objs.size=n0+3:=by rw [Hz,Gi,hs2]
  have hK:(((h1.update D (ES fun _=>#[])).push (Eb "tuple" its.toArray 0)).push (Eb "list" #[] 0)).get? (n0+3)=some (Eb "list" #[] 0):=by rw [<- hsk]; exact D4 _ rfl
  have hDo:(((h1.update D (ES fun _=>#[])).push (Eb "tuple" its.toArray 0)).push (Eb "list" #[] 0)).get? D=some (Eb "list" #[] e1):=χ _ (χ _ ho1);rw [hsk];have hDn:n0<=D:=by rw [<- hD]; exact Gg _
  have am1:dy X H s0 H { s0 with heap:=((h1.update D (ES fun _=>#[])).push (Eb "tuple" its.toArray 0)).push (Eb "list" #[] 0) }:=am0.heap (s:={ s0 with heap:=h1 }) fun b o hb q=>by
    have hne:b≠D:=by
      rcases hb with hb | hb
      · rw [hS0] at hb; exact D5 (EG hb hDn)
      · intro e
        exact hb (I.hok.fresh (by rw [hS0,e]; exact hDn))
    exact χ _ (χ _ ((EX _ _ (FH hne)).trans q))
  generalize ((h1.update D (ES fun _=>#[])).push (Eb "tuple" its.toArray 0)).push (Eb "list" #[] 0)=h2 at hK hDo am1 ⊢;generalize hkS:n0+3=kS at hK ⊢;have hKn:n0<=kS:=by rw [<- hkS]; omega
  have hDK:D≠kS:=by rw [<- hD,<- hkS]; exact D5 (by omega)
  have nfr:∀ {c:Δ},n0<=c->c∉frs X.stack:=fun {c} hc hb=>by
    rcases B_.mp (I.stkSub c hb) with e | hb
    · have:=I.lt
      rw [<- e,hS0] at this;exact absurd this (HS.mpr hc)
    · exact I.nofs (by rw [hS0]; exact hc) hb
  unfold ksk_rest;refine θ (GO ?_);have roomK:bF k X.A.in1.in1:=(hr.mono (by omega:k+2<=k+3)).in1.in1;rw [<- MW,MR];refine θ (ksk_fold (I:=fun i s=>∃ (H1:Hp) (ks:List ς) (kvs:List V) (c:Nat),dy X H s0 H1 s/\aj H H1/\s.heap.get? D=some (Eb "list" #[] e1)/\H1 D=none/\s.heap.get? kS=some (Eb "list" ks.toArray c)/\H1 kS=none/\Vals kvs ks/\ks.length=i/\∀ (j:Nat) v u,kvs[j]?=some u->xs[j]?=some v->PtV H1 u (g v))
    its 0 _ ⟨H,[],[],0,am1,aj.refl _,hDo,I.hok.fresh (by rw [hS0]; exact hDn),hK,I.hok.fresh (by rw [hS0]; exact hKn),.nil,rfl,fun j v u e=>by simp at e⟩ ?_ ?_)
  · rintro j x s hx ⟨H1,ks,kvs,c,am,sm,qD,nD,qK,nK,vk,lk,pk⟩
    have hxv:xs[j]?=some (toV x):=by rw [<- em,EU,hx]; rfl
    obtain ⟨b,rfl⟩:=hri x (EW hx);have jlt:j<its.length:=(Aw.mp hx).1;refine θ (Hl (am.call (vs:=[.ref b]) I F roomK rfl hb (.cons rfl .nil) (hkey (.ref b) (EW hxv) H1 (fun v H2=>aj H1 H2/\PtV H2 v (g (.ref b))) sm fun u H2 s2 p2=>⟨s2,p2⟩) fun v u H2 s2 am2 ru q2 kp=>?_));obtain ⟨s12,p2⟩:=q2;obtain ⟨qD2,nD2⟩:=kp D _ qD nD (nfr hDn);obtain ⟨qK2,nK2⟩:=kp kS _ qK nK (nfr hKn);dsimp only;refine θ (GQ qK2 rfl ?_ (by rw [D8]; omega) (by rw [Array.size_push,D8]; omega));have qK3:=F5 qK2 (fun x=>x.push u);refine A_ ⟨rfl,H2,ks++[u],kvs++[v],_,am2.heap fun b o hb q=>?_,sm.trans s12,?_,nD2,by rw [qK3]; congr 2; simp,nK2,mG vk ru,by rw [DZ,EO]; omega,fun i v' u' hu hv'=>?_⟩
    · have hne:b≠kS:=by
        rcases hb with hb | hb
        · rw [hS0] at hb; exact D5 (EG hb hKn)
        · intro e; rw [e] at hb; exact hb nK2
      exact (EX _ _ (FH hne)).trans q
    · exact (EX _ _ (FH hDK)).trans qD2
    · have lkv:kvs.length=ks.length:=vk.length
      by_cases hi:i<kvs.length
      · rw [FO hi] at hu
        exact (pk i v' u' hu hv').mono s12
      · rw [E1 (by omega)] at hu
        have hh:=(Aw.mp hu).1;rw [EO] at hh;have:i=j:=by omega
        subst this;rw [show i - kvs.length=0 by omega] at hu;simp only [E3,FN] at hu;rw [hxv] at hv'
        cases hv';rw [<- hu];exact p2
  · rintro s ⟨H1,ks,kvs,c,am,sm,qD,nD,qK,nK,vk,lk,pk⟩
    have lk:ks.length=its.length:=by omega
    refine θ (Ju qK rfl ?_);unfold ksk_end;dsimp only;rw [if_neg (by decide)];have J:=am.inv I
    -- each key and its item
    have hpair:∀ p∈ks.zip its,Ts.bV s.heap p.1 (g (toV p.2))/\p.2∈its:=by
      intro p hp;obtain ⟨i,hi⟩:=Ep.mp hp;have hz2:=Gu.mp hi;have hk1:i<kvs.length:=by rw [vk.length]; exact (Aw.mp hz2.1).1
      obtain ⟨u,hu,ru⟩:=vk.get (ξ hk1);rw [hz2.1] at hu
      cases hu;have hx:xs[i]?=some (toV p.2):=by rw [<- em,EU,hz2.2]; rfl
      exact ⟨ju J (pk i _ _ (ξ hk1) hx) ru,EW hz2.2⟩
    have fin:∀ (st:E9),(EI st).toList.Perm (ks.zip its)->GK st=none->(EI st).toList.Pairwise (Ts.Le fun x y=>Ts.plt (g (toV x.2)) (g (toV y.2))) ->
        EA (EH X.prog X.w) X.A.in1.in1 (ksk_tail D false e1 (.ref kS) st) (fun fin s'=>∃ v,fin=MU (MN v)/\EA (EH X.prog X.w) X.A.in1 (ret (EB D)) (fun fin s'=>∃ v,fin=MU (MN v)/\EP X pins σ Q v s') X.xe s') X.xe s:=by
      intro st hp hf hw;unfold ksk_tail;dsimp only;have lst:(EI st).size=its.length:=by rw [<- EC,hp.length_eq,Kx,lk,Nat.min_self]
      refine θ (GQ qK rfl ?_ (by rw [D8]; omega) (El _));refine θ (Ij ?_);have qD2:(s.heap.update kS (ES fun _=>#[])).get? D=some (Eb "list" #[] e1):=(EX _ _ (FH hDK)).trans qD;refine θ (Il qD2 rfl ?_);refine θ (GQ qD2 rfl ?_ (by simp) (by rw [if_neg (by decide),Jj,lst]; omega));rw [hf];simp only [bne_self_eq_false,FI,if_false];refine A_ ⟨_,rfl,?_⟩;have am2:dy X H s0 H1 { s with heap:=(s.heap.update kS (ES fun _=>#[])).update D (ES fun _=>(EI st).map (·.2)) }:=am.heap fun b o hb q=>by
        have n1:b≠kS:=by
          rcases hb with hb | hb
          · rw [hS0] at hb; exact D5 (EG hb hKn)
          · intro e; rw [e] at hb; exact hb nK
        have n2:b≠D:=by
          rcases hb with hb | hb
          · rw [hS0] at hb; exact D5 (EG hb hDn)
          · intro e; rw [e] at hb; exact hb nD
        exact (EX _ _ (FH n2)).trans ((EX _ _ (FH n1)).trans q)
      have qD3:=F5 qD2 (fun _=>(EI st).map (·.2))
      have pm:((EI st).toList.map (·.2)).Perm its:=by
        have:=hp.map MH
        rw [List.map_snd_zip (by omega)] at this;exact this
      have am3:=am2.track (o:=.lst (((EI st).toList.map (·.2)).map toV)) (c:=D) (by rw [hS0]; exact hDn) nD I ⟨by rw [Ξ,pm.length_eq]; exact hz',(EI st).toList.map (·.2),_,gm fun u hu=>hri u (pm.mem_iff.mp hu),by rw [qD3]; congr 2; rw [<- IE,HL]⟩;refine A_ ⟨_,rfl,.ref D,_,am3.inv I,rfl,?_⟩;have nH:H D=none:=I.hok.fresh (by rw [hS0]; exact hDn);refine hend D _ _ (sm.later nH) nH ag (by rw [<- em]; exact pm.map toV) ?_;rw [Ez,Fd];exact hw.imp fun {x y} hxy=>Ts.dO.mp hxy
    have zsz:(ks.toArray.zip its.toArray).toList=ks.zip its:=by simp
    by_cases h2:its.toArray.size<2
    · rw [if_pos h2,if_pos h2]
      refine θ (A_ ?_);rw [Kf];refine θ (A_ ?_);dsimp only;refine fin _ (by show (ks.toArray.zip its.toArray).toList.Perm _; rw [zsz]) rfl ?_
      show (ks.toArray.zip its.toArray).toList.Pairwise _
      rw [zsz];rw [D8] at h2
      exact zipFew h2
    · rw [if_neg h2,if_neg h2]
      rw [D8] at h2
      have hks:∀ u∈ks,∃ p,Ts.bV s.heap u p:=by
        intro u hu;obtain ⟨i,hi⟩:=Ep.mp hu;have hlt:=(Aw.mp hi).1;exact ⟨_,(hpair (u,its[i]) (Ep.mpr ⟨i,Gu.mpr ⟨hi,ξ (by omega)⟩⟩)).1⟩
      classical
      refine θ (v3 ks (fun u=>if hu:∃ p,Ts.bV s.heap u p then hu.choose else (0,0)) (fun u hu=>by rw [dif_pos (hks u hu)]; exact (hks u hu).choose_spec) (by omega) rfl ?_);have asks:Ts.gR (EH X.prog X.w) X.A.in1.in1 X.xe s (K0 true) (fun x=>x∈ks.zip its) (fun x y=>Ts.plt (g (toV x.2)) (g (toV y.2))):=Ts.jm fun x y hx hy Q' E' q=>Ts.pT (hpair x hx).1 (hpair y hy).1 q;refine θ (E8 (Ts.kU (E:=X.xe) (s:=s) (A:=X.A.in1.in1) (Ts.zu fun x=>g (toV x.2)) asks (st:=Kv (K0 true) (ks.toArray.zip its.toArray) #[] 7 none)
        (Q:=fun _ st'=>(EI st').Perm (ks.toArray.zip its.toArray)/\GK st'=none/\(EI st').toList.Pairwise (Ts.Le fun x y=>Ts.plt (g (toV x.2)) (g (toV y.2)))) rfl rfl rfl (fun x hx=>by rw [<- zsz]; exact hx) fun st' a1 a2 a3=>⟨a1,a2,a3⟩) ?_ fun _ _ e=>e)
      rintro ⟨⟨⟩,st'⟩ s' ⟨rfl,hp,hf,hs⟩;dsimp only;exact fin st' (by rw [<- zsz]; exact FZ.mp hp) hf hs
def yO (K:W.Frag) (sp:Sp) (te:TE):TE:=fun σ H Q=>te σ H fun x H1=>rg K sp x H1 Q
theorem w8 {e:FE} {te:TE} {x:Str} {p pk kp pos:HV} {k:Nat} {f:Δ} {fd:FU} {ps:List Str} {sp:Sp} (K:W.Frag) (hK:X.K=K) (F:aW X.prog X.w X.K X.mg X.base CX0 k f fd ps sp) (hr:bF (k+3) X.A) (hg:Gl X "sorted") (hm:X.mg "sorted"=none) (hgx:Gl X x) (hmx:X.mg x=some (.ref f)) (hb:aI X.K fd ps []) (ha:PE X e te)
  (hd:(x==("__debug__":Str))=false:=by decide) (he:GW pos (EV [e] X.env)=(false,F3 e X.env)::GW pos (EV [] X.env):=by rfl) (hpl:(GW pos (EV [e] X.env)).any (·.1)=false:=by rfl):PE X (.Call (.Name "sorted" p) [e] [⟨some "key",.Name x pk,kp⟩] pos) (yO K sp te):=by
 subst hK;intro pins s σ H Q I h;refine Fz (cX I hg hm (by rfl) ?_ (by decide) (by decide));refine callWith_kw ?_ he hpl;rw [he];refine Fj (thn (ha pins s σ H _ I h) fun v s1 ⟨y,H1,I1,r1,q1⟩=>GP ?_);refine kws_cons (d9 I1 hgx hmx ?_ hd);refine kws_nil ?_;exact uX F hr hb I1 r1 q1
theorem uO {K:W.Frag} {sp:Sp} {te:TE} {σ:St} {H:Hp} {Q:VK} (h:te σ H fun x H1=>rg K sp x H1 Q):yO K sp te σ H Q:=h
end
end L2
namespace L2
open PySem PySem.Spec PyProof.Rows
def AJ (P:Δ) (H:Hp):Prop:=∀ b,H b=none\/(∃ o xs,H b=some (.frz o (.lst xs)))\/(b=P/\H b=some (.tbl #[]))
theorem uk {P:D_} {w:Eh} {K:W.Frag} {mg mb:Str->Option ς} {CX:CXT} {k:Nat} {fa a c Tb:Δ} {fd:FU} {x:Str} {sp:Sp} {s₁:Ω} {vs:List ς} {ns:List Int}
    (KX:K.In s₁.heap) (hns:s₁.heap.Ns F7 mg) (hb:s₁.heap.Ns MA mb) (hbb:∀ x:Str,x≠"__name__"->mb x=FA x) (hlim:s₁.heap.NoLimit) (hg:s₁.gens=#[])
    (ha:s₁.heap.get? a=some { cls:=.type "list",data:=.seq vs.toArray }) (hi:JE vs ns) (hl:ns.length<=D7) (hr:bF k K5)
    (C:PySem.W.CodeHd s₁.heap c Tb) (hT:s₁.heap.get? Tb=some (W.tabObj #[])) (hKT:K.lookup Tb=none) (hBA:s₁.heap.BuiltinsAt mg Tb)
    (F:∀ base:E5,K.In base->base.Ns F7 mg->base.BuiltinsAt mg Tb->aW P w K mg base CX k fa fd [x] sp) (hbind:∀ (s:Ω) (u:ς),L0 s fd ⟨[u],[]⟩ [(x,u)])
    (hsp:∀ H:Hp,AJ Tb H->H Tb=some (.tbl #[])->SqL K H a (ns.map V.int)->sp [.ref a] H (fun v _=>v=.bl true) fun _ _ _=>False)
    (hCX:∀ H e s',CX [] H s₁ (fun _ _ _=>False) e s'->False) :
    HA (EH P w) K5 (.call (.ref fa) ⟨[.ref a],[]⟩) (fun r s'=>r=.ok (.ret (.bool true))/\OldK s₁.heap s'.heap/\s'.os=s₁.os/\JH s'.gens) s₁:=by
  have rv:=mF hi;have lenV:=hi.length;have naT:a≠Tb:=fun e=>by rw [e,hT] at ha; cases ha
  have core:∀ H:Hp,AJ Tb H->H Tb=some (.tbl #[])->SqL K H a (ns.map V.int)->HOk P w H s₁.heap->(∀ b,H b≠none->b=a\/b=Tb)->(H a≠none->K.lookup a=none) ->
      HA (EH P w) K5 (.call (.ref fa) ⟨[.ref a],[]⟩) (fun r s'=>r=.ok (.ret (.bool true))/\OldK s₁.heap s'.heap/\s'.os=s₁.os/\JH s'.gens) s₁:=by
    intro H hO hHT hS hok hA hK;have base_of:∀ {b:Δ} {o:GN},s₁.heap.get? b=some o->H b=none->(lh s₁.heap H).get? b=some o:=fun e n=>vU e n;have noA:∀ {b:Δ} {o:GN} {es:Array LW} {ep:Nat},s₁.heap.get? b=some o->o.data=.dict es ep->H b=none:=fun {b o es ep} e d=>by
      cases q:H b with
      | none=>rfl
      | some u =>
        rcases hA b (by rw [q]; simp) with e' | e'
        · subst e'
          rw [ha] at e; cases e;have d':Data.seq vs.toArray _=Data.dict es ep:=d
          cases d'
        · subst e'
          rw [hT] at e; cases e
          cases d
    have nsK:∀ {b:Δ} {m:Str->Option ς},s₁.heap.Ns b m->(lh s₁.heap H).Ns b m:=fun {b m} ⟨o,es,ep,e,d,r⟩=>⟨o,es,ep,base_of e (noA e d),d,r⟩
    have hKb:K.In (lh s₁.heap H):=fun b o e=>base_of (KX b o e) (by
      cases q:H b with
      | none=>rfl
      | some u =>
        rcases hA b (by rw [q]; simp) with e' | e'
        · subst e'
          rw [hK (by rw [q]; simp)] at e; cases e
        · subst e'
          rw [hKT] at e; cases e)
    have hBb:(lh s₁.heap H).BuiltinsAt mg Tb:=by
      obtain ⟨bm,o,h1,h2,h3,h4,h5,h6,r⟩:=hBA;refine ⟨bm,o,h1,h2,h3,h4,base_of h5 ?_,h6,r⟩
      cases q:H bm with
      | none=>rfl
      | some u =>
        rcases hA bm (by rw [q]; simp) with e' | e'
        · subst e'
          rw [ha] at h5; cases h5;exact absurd h6 (by intro z; injection z with z; revert z; decide)
        · exact absurd e' h4
    have hM:Mod K mg (lh s₁.heap H):=⟨hKb,nsK hns,⟨mb,nsK hb,hbb⟩,let ⟨mc,h1,h2⟩:=hlim; ⟨mc,nsK h1,h2⟩⟩
    have e0:oB P w K mg (lh s₁.heap H) K5 [] s₁ H:=⟨rfl,hM,fun b o e=>zz e,H_ (ud _ _),trivial,fun b hb=>absurd (show b∈([]:List Δ) from hb) (by simp),hok,.of_eq hg⟩
    refine G0 ((F _ hKb (nsK hns) hBb).run K5 [] s₁ H ⟨[.ref a],[]⟩ [.ref a] [.ref a] _ _ hr e0 (hbind s₁ (.ref a)) (.cons rfl .nil) (hsp H hO hHT hS)) fun r s' h=>?_
    cases r with
    | error e=>exact (hCX H e s' h).elim
    | ok fl =>
      cases fl with
      | next=>exact Es h
      | brk=>exact Es h
      | cont=>exact Es h
      | ret u =>
        obtain ⟨v,H',os,bare,un,hok',r',q⟩:=h;have q':v=.bl true:=q;subst q';obtain rfl:u=Im true:=r'
        obtain ⟨more,hT'⟩:=un.tbls Tb #[] hHT;have gT:s'.heap.get? Tb=some { cls:=.none,data:=.fields (#[]++more) }:=hok' Tb _ hT';have nA:∀ b:Δ,b∉([]:List Δ):=fun b z=>absurd z (by simp);have kp:∀ b o,b≠Tb->s₁.heap.get? b=some o->s'.heap.get? b=some o:=fun b o hb e=>by
          cases q:H b with
          | none=>exact un.keep b o e q (nA b) (nA b)
          | some u =>
            rcases hO b with z | ⟨ob,xs,z⟩ | ⟨z,_⟩
            · rw [q] at z; cases z
            · have z2:=un.frzs b ob _ z
              obtain ⟨e1,_⟩:=hok b _ z;obtain ⟨e2,_⟩:=hok' b _ z2;rw [e] at e1; cases e1;exact e2
            · exact absurd z hb
        refine ⟨rfl,⟨fun b o e=>?_,fun b o e=>?_⟩,os,bare⟩
        · by_cases hb:b=Tb
          · subst hb
            rw [hT] at e; cases e;exact .inr (.inl ⟨(C.tab hT).isCodeTable,rfl,#[],more,rfl,gT⟩)
          · exact .inl (kp b o hb e)
        · by_cases hb:b=Tb
          · exact ⟨_,hb ▸ gT⟩
          · exact ⟨o,kp b o hb e⟩
  cases hk:K.lookup a with
  | some o =>
    have e:=KX a o hk;rw [ha] at e
    cases e;refine core (fun b=>if b=Tb then some (.tbl #[]) else none) (fun b=>?_) (if_pos rfl) (.inr ⟨_,vs.toArray,_,hk,rfl,rfl,rfl,by rw [D8,lenV]; exact hl,by simpa using rv⟩) (fun b u z=>?_) (fun b z=>?_) fun z=>absurd (if_neg naT) z
    · by_cases hb:b=Tb
      · exact .inr (.inr ⟨hb,if_pos hb⟩)
      · exact .inl (if_neg hb)
    · by_cases hb:b=Tb
      · have z':=(if_pos hb).symm.trans z
        cases z';subst hb;exact hT
      · have z':=(if_neg hb).symm.trans z
        cases z'
    · by_cases hb:b=Tb
      · exact .inr hb
      · exact absurd (if_neg hb) z
  | none =>
    refine core (fun b=>if b=a then some (.frz { cls:=.type "list",data:=.seq vs.toArray } (.lst (ns.map V.int))) else if b=Tb then some (.tbl #[]) else none) (fun b=>?_) ((if_neg naT.symm).trans (if_pos rfl)) (.inl (.inr ⟨{ cls:=.type "list",data:=.seq vs.toArray },if_pos rfl⟩)) (fun b u z=>?_) (fun b z=>?_) fun _=>hk
    · by_cases hb:b=a
      · exact .inr (.inl ⟨_,_,if_pos hb⟩)
      · by_cases hb2:b=Tb
        · exact .inr (.inr ⟨hb2,(if_neg hb).trans (if_pos hb2)⟩)
        · exact .inl ((if_neg hb).trans (if_neg hb2))
    · by_cases hb:b=a
      · have z':=(if_pos hb).symm.trans z
        cases z';subst hb;exact ⟨ha,by rw [Ξ]; exact hl,vs,_,rv,ha⟩
      · by_cases hb2:b=Tb
        · have z':=((if_neg hb).trans (if_pos hb2)).symm.trans z
          cases z';subst hb2;exact hT
        · have z':=((if_neg hb).trans (if_neg hb2)).symm.trans z
          cases z'
    · by_cases hb:b=a
      · exact .inl hb
      · by_cases hb2:b=Tb
        · exact .inr hb2
        · exact absurd ((if_neg hb).trans (if_neg hb2)) z
theorem walk_ofT {l:PySem.W.OpenLaw} {n k:Nat} {q:D_} {loose:List Str} {XP:(Str->Option ς)->E5->Prop} {YP:Eh->E5->Prop} {d d2:DefRec} {K:Params->W.Frag} {CX:CXT} {sp:W.Frag->Sp} {x g:Str}
  (hn:l.most=some n) (hn2:n<=D7) (hdf:d.params.defaults=[]) (hr:bF k K5)
  (hY:∀ (w:Eh) (h:E5),YP w h->(K w.params).In h) (hrec:(recsOf q).find? (fun e=>e.name==g)=some d2)
  (F:∀ (w:Eh) (mg:Str->Option ς) (fa:Δ) (h:E5),(K w.params).In h->h.Ns F7 mg->mg d.name=some (.ref fa) ->
   ∃ (fd:FU) (c P:Δ),W.tabIn (K w.params) g=some (c,P)/\(K w.params).lookup P=none/\(∀ (s:Ω) (u:ς),L0 s fd ⟨[u],[]⟩ [(x,u)]) /\
    ∀ base:E5,(K w.params).In base->base.Ns F7 mg->base.BuiltinsAt mg P->aW l.prog w (K w.params) mg base CX k fa fd [x] (sp (K w.params)))
  (hsp:∀ (K:W.Frag) (H:Hp) (a c P:Δ) (ns:List Int),ns.length<=n->W.tabIn K g=some (c,P)->H P=some (.tbl #[])->SqL K H a (ns.map V.int)->sp K [.ref a] H (fun v _=>v=.bl true) fun _ _ _=>False)
  (hCX:∀ (H:Hp) (s:Ω) (e:ς) (s':Ω),CX [] H s (fun _ _ _=>False) e s'->False) :
  PySem.W.WalkO q loose XP YP l.row.toRowW d [] (fun f vs=>Io f vs):=by
 refine Att.oM hn hdf fun w s₀ s₁ mg mb fa o pm cd doc a vs ns G Y ho hd hcd hmg hobj hints hlen hg=>?_;have KX:=hY w _ Y;obtain ⟨fd,c,P,ht,hKT,hb,hF⟩:=F w mg fa _ KX G.T.g hmg;obtain ⟨C,hT⟩:=W.tab_of G.T KX hrec ht;obtain ⟨bm,ob,b1,b2,b3,b4,b5,b6⟩:=G.T.bmain
 have hBA:s₁.heap.BuiltinsAt mg P:=by
  refine ⟨bm,ob,b1,b2,fun e=>?_,fun e=>?_,b3,b4,b5,b6⟩
  ·obtain ⟨o,es,ep,e1,d,_⟩:=G.T.g;rw [<- e,b3] at e1
   cases e1;rw [b6] at d
   cases d
  ·rw [e,hT] at b3
   cases b3
   cases b4
 exact uk KX G.T.g G.T.b G.T.builtins G.T.nolimit hg hobj hints (Ew hlen hn2) hr C hT hKT hBA hF hb (fun H _ hHT hS=>hsp _ H a c P ns hlen ht hHT hS) fun H e s'=>hCX H s₁ e s'
theorem tab_mk {K:W.Frag} {x:Str} {f c P:Δ} {oc oc2:ς} {od od2:Option Δ} {fd:FU} {osl sl2:Array (Option ς)} {vs:Array ς} (a:W.nsIn K F7 x=some (some (.ref f))) (l:K.lookup f=some ⟨oc,od,.func fd,osl⟩) (e:fd.code=.ref c)
  (l2:K.lookup c=some ⟨oc2,od2,.fields vs,sl2⟩) (v:(vs[11]?:Option ς)=some (.ref P)):W.tabIn K x=some (c,P):=by
 unfold W.tabIn;simp only [a,l,e,l2,v]
end L2
namespace L2
open PySem PySem.Spec PyProof.Rows PySem.W
def eJ (P:Δ) (H H':Hp):Prop:=∀ b o,b≠P->H b=some o->H' b=some o
theorem aj.toB {H H':Hp} (s:aj H H') (P:Δ):eJ P H H':=fun b o _ e=>s b o e
theorem eJ.trans {P:Δ} {H H1 H2:Hp} (a:eJ P H H1) (b:eJ P H1 H2):eJ P H H2:=fun c o n e=>b c o n (a c o n e)
noncomputable def gS (c:Δ) (q:Str):HO:=.ext fun h=>h.CodeRec (.ref c) q
def Hit (P:Δ) (pos:HV) (q:Str) (H:Hp):Prop:=∃ ps c,H P=some (.tbl ps)/\Me ps.toList/\MZ pos ps.toList=some (.ref c)/\H c=some (gS c q)
def dZ (P:Δ) (pos:HV) (q:Str) (H:Hp):Prop:=(∃ ps,H P=some (.tbl ps)/\Me ps.toList/\MZ pos ps.toList=none)\/Hit P pos q H
theorem Hit.mono {P:Δ} {pos:HV} {q:Str} {H H':Hp} (t:Hit P pos q H) (s:aj H H'):Hit P pos q H':=by
 obtain ⟨ps,c,h1,h2,h3,h4⟩:=t;exact ⟨ps,c,s _ _ h1,h2,h3,s _ _ h4⟩
theorem dZ.mono {P:Δ} {pos:HV} {q:Str} {H H':Hp} (t:dZ P pos q H) (s:aj H H'):dZ P pos q H':=by
 rcases t with ⟨ps,h1,h2⟩ | t
 ·exact .inl ⟨ps,s _ _ h1,h2⟩
 ·exact .inr (t.mono s)
theorem dZ.at {P:Δ} {pos:HV} {q:Str} {H:Hp} (t:dZ P pos q H):∃ ps,H P=some (.tbl ps):=by
 rcases t with ⟨ps,h,_⟩ | ⟨ps,_,h,_⟩<;>exact ⟨ps,h⟩
theorem dZ.new {P:Δ} {pos:HV} {q:Str} {H:Hp} (e:H P=some (.tbl #[])):dZ P pos q H:=.inl ⟨#[],e,by unfold Me; trivial,rfl⟩
theorem Hit.upd {P l:Δ} {pos:HV} {q:Str} {H:Hp} {u o:HO} (t:Hit P pos q H) (e:H l=some u) (h1:∀ ps,HO.tbl ps≠u) (h2:∀ φ,HO.ext φ≠u):Hit P pos q (L2.upd H l o):=by
 obtain ⟨ps,c,a,b,d,f⟩:=t;exact ⟨ps,c,by rw [ai (aZ a e (h1 _))]; exact a,b,d,by rw [ai (aZ f e (h2 _))]; exact f⟩
section
variable {P:D_} {w:Eh} {H:Hp} {h h':E5} {T:Δ} {ps more:Array ς} {fs ex:List Δ}
theorem HOk.grow (ok:HOk P w H h) (e:H T=some (.tbl ps)) (k:∀ b u,b≠T->h.get? b=some u->h'.get? b=some u) (g:h'.get? T=some (tabObj (ps++more))):HOk P w (upd H T (.tbl (ps++more))) h':=fun b u q=>by
 by_cases hb:b=T
 ·subst hb; rw [ag] at q; cases q; exact g
 ·rw [ai hb] at q;refine (ok b u q).stay (fun c v hc q'=>k c v ?_ q') (fun c q'=>?_) fun c xs q'=>?_
  ·rcases hc with z | z
   ·rw [z]; exact hb
   ·exact aZ z e (by intro z; cases z)
  ·rw [ai (aZ q' e (by intro z; cases z))]; exact q'
  ·rw [ai (aZ q' e (by intro z; cases z))]; exact q'
theorem Un.grow (e:H T=some (.tbl ps)) (k:∀ b u,b≠T->h.get? b=some u->h'.get? b=some u) (g:h'.get? T=some (tabObj (ps++more))):Un fs ex H (upd H T (.tbl (ps++more))) h h' where
 keep:=fun b u q n _ _=>k b u (fun z=>by rw [z,e] at n; cases n) q
 slot:=fun b u q n _ _=>⟨u.slots,k b u (fun z=>by rw [z,e] at n; cases n) q⟩
 free:=fun b u q n _=>by rw [ai (fun z=>by rw [z,e] at n; cases n)]; exact n
 there:=fun b u q _=>by
  by_cases hb:b=T
  ·exact ⟨_,hb ▸ g⟩
  ·exact ⟨u,k b u hb q⟩
 tups:=fun b xs q=>by rw [ai (aZ q e (by intro z; cases z))]; exact q
 frzs:=fun b o u q=>by rw [ai (aZ q e (by intro z; cases z))]; exact q
 tbls:=fun b qs q=>by
  by_cases hb:b=T
  ·subst hb; rw [e] at q; cases q; exact ⟨more,ag⟩
  ·rw [ai hb,q]; exact ⟨#[],by simp⟩
end
section
variable {X:Cx} {pins:List (Δ×GN)} {σ:St} {H:Hp} {s:Ω} {c P:Δ} {args:LX} {body:FE} {scope:Hq} {lp:HV}
theorem Inv.grow {T:Δ} {ps more:Array ς} {h':E5} {t':Nat} (I:Inv X pins σ H s) (e:H T=some (.tbl ps)) (k:∀ b u,b≠T->s.heap.get? b=some u->h'.get? b=some u) (g:h'.get? T=some (tabObj (ps++more))):Inv X pins σ (upd H T (.tbl (ps++more))) { s with heap:=h',toks:=t' } :=
 I.un (Un.grow e k g) (I.hok.grow e k g)
theorem qE {c:Δ} {q:Str}:∀ h1 h2:E5,h1.CodeRec (.ref c) q->(∀ o,h1.get? c=some o->h2.get? c=some o)->h2.CodeRec (.ref c) q:=fun h1 h2 ⟨c',o,vs,t,e,g,r⟩ k=>by
 cases e;exact ⟨c,o,vs,t,rfl,k _ g,r⟩
theorem v9 {R:ς->Ω->Prop} (I:Inv X pins σ H s) (hcode:X.env.code=.ref c) (C:CodeHd X.base c P) (hB:X.base.BuiltinsAt X.mg P) (T:dZ P lp (X.env.qual++"<lambda>") H) (hfr:∀ x∈scope.names,x.2=.free->∃ a,X.env.cells.lookup x.1=some a) (hdef:defaultsOf args X.env=([],[]))
  (q:∀ f H' c' pm ctv s',Inv X pins σ H' s'->s.heap.objs.size<=f->s'.heap.get? f=some (Lr "<lambda>" (X.env.qual++"<lambda>") args body scope (bf X.env.cells scope.names []) pm c' ctv)->H' f=none->s'.heap.CodeRec (.ref c') (X.env.qual++"<lambda>")->eJ P H H'->(Hit P lp (X.env.qual++"<lambda>") H->H'=H)->Hit P lp (X.env.qual++"<lambda>") H'->(∀ b o,b≠P->s.heap.get? b=some o->s'.heap.get? b=some o)->H' c'=some (gS c' (X.env.qual++"<lambda>"))->R (.ref f) s') :
  EA (EH X.prog X.w) X.A (F3 (.Lambda args body scope lp) X.env) R X.xe s:=by
 obtain ⟨ps,tP,tT,tc⟩:∃ ps,H P=some (.tbl ps)/\Me ps.toList/\(MZ lp ps.toList=none\/∃ c,MZ lp ps.toList=some (.ref c)/\H c=some (gS c (X.env.qual++"<lambda>"))):=by
  rcases T with ⟨ps,h1,h2,h3⟩ | ⟨ps,c,h1,h2,h3,h4⟩
  ·exact ⟨ps,h1,h2,.inl h3⟩
  ·exact ⟨ps,h1,h2,.inr ⟨c,h3,h4⟩⟩
 have hP:s.heap.get? P=some (tabObj ps):=I.hok P _ tP;have Cs:CodeHd s.heap c P:=C.keeps I.bk;have hg:s.heap.Ns F7 X.mg:=I.ok.mod.glob.keeps I.bk
 have hBs:s.heap.BuiltinsAt X.mg P:=by
  obtain ⟨bm,o,h1,h2,h3,h4,h5,r⟩:=hB;exact ⟨bm,o,h1,h2,h3,h4,I.bk _ _ h5,r⟩
 have hgP:F7≠P:=fun e=>by
  obtain ⟨o,es,ep,e1,d,_⟩:=hg;rw [e,hP] at e1; cases e1; cases d
 refine kla_eval hdef ?_;rcases tc with tn | ⟨c',th,tO⟩
 ·refine kla_makeFunction (c8 hfr) I.ok.glob hg hcode Cs hP tT tn hgP hBs fun c' ctv h' tk hx hge hlt hrec htb=>?_;have k1:∀ b u,b≠P->s.heap.get? b=some u->h'.get? b=some u:=fun b u hb e=>hx b u hb e;have I1:=I.grow (t':=tk) tP k1 htb
  have nC:upd H P (HO.tbl (ps++#[HQ lp.line,HQ lp.col,.ref c'])) c'=none:=by
   rw [ai (fun e=>by rw [e] at hge; exact absurd (D0 hP) (HS.mpr hge))];exact I.hok.fresh hge
  have hc':∃ o,h'.get? c'=some o:=let ⟨_,o,_,_,e,g,_⟩:=hrec; by cases e; exact ⟨o,g⟩
  have o1:aY X.prog X.w (upd (upd H P (HO.tbl (ps++#[HQ lp.line,HQ lp.col,.ref c']))) c' (gS c' (X.env.qual++"<lambda>"))) h' c' (gS c' (X.env.qual++"<lambda>")):=⟨hrec,hc',qE⟩
  have hok2:HOk X.prog X.w (upd (upd H P (HO.tbl (ps++#[HQ lp.line,HQ lp.col,.ref c']))) c' (gS c' (X.env.qual++"<lambda>"))) h':=fun b u e=>by
   by_cases hb:b=c'
   ·subst hb; rw [ag] at e; cases e; exact o1
   ·rw [ai hb] at e;refine (I1.hok b u e).stay (fun _ _ _ q=>q) (fun d q=>?_) fun d xs q=>?_
    ·rw [ai (fun z=>by rw [z,nC] at q; cases q)]; exact q
    ·rw [ai (fun z=>by rw [z,nC] at q; cases q)]; exact q
  have un2:Un X.fs [] H (upd (upd H P (HO.tbl (ps++#[HQ lp.line,HQ lp.col,.ref c']))) c' (gS c' (X.env.qual++"<lambda>"))) s.heap h':=by
   have u1:Un X.fs [] H (upd H P (HO.tbl (ps++#[HQ lp.line,HQ lp.col,.ref c']))) s.heap h':=Un.grow tP k1 htb;have ne:∀ {b:Δ} {o:HO},upd H P (HO.tbl (ps++#[HQ lp.line,HQ lp.col,.ref c'])) b=some o->b≠c':=fun e z=>by rw [z,nC] at e; cases e
   refine ⟨u1.keep,u1.slot,fun b o e n hx=>?_,u1.there,fun b xs e=>?_,fun b o u e=>?_,fun b qs e=>?_⟩
   ·rw [ai (fun z=>by rw [z] at e; exact absurd (D0 e) (HS.mpr hge))];exact u1.free b o e n hx
   ·have:=u1.tups b xs e; rw [ai (ne this)]; exact this
   ·have:=u1.frzs b o u e; rw [ai (ne this)]; exact this
   ·obtain ⟨m,z⟩:=u1.tbls b qs e; exact ⟨m,by rw [ai (ne z)]; exact z⟩
  have I2:=I.un (t':=tk) un2 hok2;have hc'P:c'≠P:=fun e=>by rw [e] at hge; exact absurd (D0 hP) (HS.mpr hge)
  have hsz:s.heap.objs.size<=h'.objs.size:=Ew hge (Ip hlt);generalize hH2:upd (upd H P (HO.tbl (ps++#[HQ lp.line,HQ lp.col,.ref c']))) c' (gS c' (X.env.qual++"<lambda>"))=H2 at I2;have I3:Inv X pins σ H2 { s with heap:=h'.push (Lr "<lambda>" (X.env.qual++"<lambda>") args body scope (bf X.env.cells scope.names []) ((X.mg "__name__").getD .none) c' ctv),toks:=tk }:=I2.kept (t':=tk) fun b o e=>χ _ e;refine q h'.objs.size H2 c' _ ctv _ I3 hsz (D4 _ rfl) (I2.hok.fresh (Av _)) (hrec.push _) (fun b o hb e=>?_) (fun hit=>?_) ?_ (fun b o hb e=>χ _ (k1 b o hb e)) (by rw [<- hH2,ag])
  ·rw [<- hH2,ai (fun z=>by rw [z,I.hok.fresh hge] at e; cases e),ai hb]; exact e
  ·obtain ⟨ps',_,h1,_,h3,_⟩:=hit;rw [tP] at h1
   cases h1;rw [tn] at h3
   cases h3
  ·refine ⟨_,c',by rw [<- hH2,ai hc'P.symm,ag],?_,?_,by rw [<- hH2,ag]⟩
   ·rw [DY]; exact TriplesOk_snoc _ _ _ _ tT
   ·rw [DY]; exact codeAmong_snoc _ tT tn
 ·refine kla_makeFunctionHit (c8 hfr) I.ok.glob hg hcode Cs hP tT th hBs fun ctv h' tk hk hsz=>?_;have I1:Inv X pins σ H { s with heap:=h',toks:=tk }:=I.kept (t':=tk) hk;have I3:Inv X pins σ H { s with heap:=h'.push (Lr "<lambda>" (X.env.qual++"<lambda>") args body scope (bf X.env.cells scope.names []) ((X.mg "__name__").getD .none) c' ctv),toks:=tk }:=I1.kept (t':=tk) fun b o e=>χ _ e;have hrec:s.heap.CodeRec (.ref c') (X.env.qual++"<lambda>"):=(show aY X.prog X.w H s.heap c' (.ext fun h=>h.CodeRec (.ref c') (X.env.qual++"<lambda>")) from I.hok c' _ tO).1;refine q h'.objs.size H c' _ ctv _ I3 hsz (D4 _ rfl) (I1.hok.fresh (Av _)) ((hrec.keeps hk).push _) (fun b o _ e=>e) (fun _=>rfl) ⟨ps,c',tP,tT,th,tO⟩ (fun b o _ e=>χ _ (hk b o e)) tO
end
noncomputable abbrev qH (scope:Hq) (L:Δ) (cl:List (Str×Δ)) (qual:Str) (f:Δ) (cd:ς):Env:=newEnv scope L F7 cl (qual++".<locals>.") (some f) cd none MA
noncomputable def Cx.lam (X:Cx) (A:Eg) (scope:Hq) (N:List Str) (qual:Str) (f:Δ) (cd:ς) (s:Ω) (H:Hp):Cx where
 prog:=X.prog
 w:=X.w
 K:=X.K
 mg:=X.mg
 base:=X.base
 A:=A.deeper (qH scope s.heap.objs.size (bf X.env.cells scope.names []) qual f cd)
 N:=N
 s₀:=s
 H₀:=H
 env:=qH scope s.heap.objs.size (bf X.env.cells scope.names []) qual f cd
 outer:=X.stack
 stack:=qH scope s.heap.objs.size (bf X.env.cells scope.names []) qual f cd::X.stack
 ex:=[]
 fn:=fun _=>false
 calm:=true
 pn:=[]
 xe:=fun _ _=>False
structure i8 (X:Cx) (scope:Hq) (x:Str) (N:List Str) (cap:List Nat):Prop where
 kind:scope.kind=.function
 co:scope.isCoroutine=false
 gen:scope.isGenerator=false
 nocell:(scope.names.all fun y=>!(y.2==.cell))=true
 loc:scope.names.lookup x=some .local
 fre:(scope.names.all fun y=>!(y.2==.free)||qN (X.env.kindOf y.1))=true
 len:cap.length=N.length
 cap:((cap.zip N).all fun p=>(X.N[p.1]?==some p.2)&&qN (X.env.kindOf p.2)&&(scope.names.lookup p.2==some .free))=true
section
variable {X:Cx} {pins:List (Δ×GN)} {σ:St} {H:Hp} {s:Ω} {A:Eg} {args:LX} {body:FE} {scope:Hq} {x qual:Str} {N:List Str} {cap:List Nat} {f:Δ} {cd:ς}
theorem i8.freeH (c:i8 X scope x N cap) (ok:X.Ok):∀ x∈scope.names,x.2=.free->∃ a,X.env.cells.lookup x.1=some a:=fun x hx hf=>by
 have:=Fy.mp c.fre x hx
 rw [hf] at this;simp only [beq_self_eq_true,J8,JJ] at this;exact ok.has _ (fJ this)
theorem i8.nc (c:i8 X scope x N cap):∀ x∈scope.names,x.2≠.cell:=fun x hx e=>by
 have:=Fy.mp c.nocell x hx
 rw [e] at this;exact absurd this (by decide)
noncomputable def ng (v:V) (cap:List Nat) (σ:St):St:=some v::cap.map fun j=>(σ[j]?).join
theorem zr {v:V} {u:ς} (c:i8 X scope x N cap) (I:Inv X pins σ H s) (hA:A.frames=X.A.frames) (hd:A.handled=none) (rv:aL v u) {h1:E5} {t1:Nat} (hns:h1.Ns s.heap.objs.size (fun y=>([(x,u)]:List (Str×ς)).reverse.lookup y))
  (hsb:F2 s.heap.objs.size (s.heap.push { cls:=.type "frame",data:=.dict #[] }) h1):Inv (X.lam A scope (x::N) qual f cd s H) [] (ng v cap σ) H { s with heap:=h1,toks:=t1 }:=by
 have lk:∀ {y:Str} {a:Δ},(bf X.env.cells scope.names []).lookup y=some a->X.env.cells.lookup y=some a:=fun e=>de (c.freeH I.ok) (fun z=>by simp at z) e;have keep:∀ b o,s.heap.get? b=some o->h1.get? b=some o:=fun b o e=>(hsb.2 b (D5 (D0 e))).trans (χ _ e);have cellK:∀ {a:Δ} {v:Option ς},s.heap.IsCell a v->h1.IsCell a v:=fun ⟨o,e,d⟩=>⟨o,keep _ _ e,d⟩
 have noA:∀ b:Δ,b∉(X.lam A scope (x::N) qual f cd s H).ex:=fun b z=>absurd (show b∈([]:List Δ) from z) (by simp);refine ⟨⟨I.ok.mod,c.kind,rfl,rfl,Av _,fun x y a h1 h2=>I.ok.inj x y a (lk h1) (lk h2),fun y hy=>?_,fun x a h=>absurd h (by simp [Cx.lam]),fun _=>hd,L5 (hA.trans I.ok.frames),.inr ⟨rfl,rfl⟩,fun b z=>absurd z (noA b),I.bs,Ew I.ok.bsz I.sz,fun b _ _=>noA b,fun b z=>absurd z (noA b),I.stack,I.stkFree⟩,
  rfl,I.bare,Un.kept keep,⟨_,hns,fun i y v' h1 h2 h3=>?_⟩,fun y a e=>?_,I.hok.fresh (Av _),fun y a e=>I.freeC y a (lk e),fun p hp=>absurd (show p∈([]:List (Δ×GN)) from hp) (by simp),I.hok.kept keep,?_⟩
 ·have hy:scope.names.lookup y=some .cell\/scope.names.lookup y=some .free:=hy;rcases hy with hy | hy
  ·exact absurd rfl (c.nc _ (F_ hy))
  ·exact dI (.inl (F_ hy))
 ·cases i with
  | zero =>
   have e1:x=y:=by simpa [Cx.lam] using h1
   have e2:v=v':=by simpa [ng] using h2
   subst e1 e2;refine ⟨u,rv,.inl ⟨c.loc,?_⟩⟩;simp
  | succ i =>
   have hN:N[i]?=some y:=by simpa [Cx.lam] using h1
   have h2':(cap.map fun j=>(σ[j]?).join)[i]?=some (some v'):=by simpa [ng] using h2
   rw [EU] at h2'
   cases q:cap[i]? with
   | none=>rw [q] at h2'; cases h2'
   | some j =>
    rw [q] at h2';have h':(σ[j]?).join=some v':=E4 h2'
    have hs:σ[j]?=some (some v'):=by
     cases q2:σ[j]? with
     | none=>rw [q2] at h'; cases h'
     | some o=>rw [q2] at h'; have:o=some v':=h'; rw [this]
    have hz:(cap.zip N)[i]?=some (j,y):=by rw [Gu]; exact ⟨q,hN⟩
    have:=Fy.mp c.cap _ (EW hz)
    simp only [Eu,beq_iff_eq] at this;obtain ⟨⟨e1,e2⟩,e3⟩:=this;obtain ⟨m,hn,hl⟩:=I.loc;have hk:=fJ e2;obtain ⟨u',r,l⟩:=hl j y v' e1 hs (by rcases hk with z | z; exact .inr (.inl z); exact .inr (.inr z));refine ⟨u',r,?_⟩;rcases l with ⟨l,_⟩ | ⟨_,a,ea,ca⟩
    ·rw [l] at hk; rcases hk with z | z<;>cases z
    ·obtain ⟨a',ha'⟩:=dI (cells:=X.env.cells) (acc:=[]) (.inl (F_ e3));have:a'=a:=E4 ((lk ha').symm.trans ea)
     subst this;exact .inr ⟨.inr e3,a',ha',cellK ca⟩
 ·obtain ⟨v,hv⟩:=I.cell y a (lk e);exact ⟨v,cellK hv⟩
 ·show (ng v cap σ).length=N.length+1
  unfold ng;rw [C_,Ξ,c.len]
theorem v8 {pm ctv:ς} {c':Δ} {v:V} {u:ς} {te:TE} {Q:VK} {k:Nat} (c:i8 X scope x N cap) (J:Inv X pins σ H s) (hA:A.frames=X.A.frames) (hr:bF (k+1) A)
  (ho:s.heap.get? f=some (Lr "<lambda>" qual args body scope (bf X.env.cells scope.names []) pm c' ctv)) (hcr:s.heap.CodeRec (.ref c') qual)
  (hb:IP (kla_fn "<lambda>" qual args body scope (bf X.env.cells scope.names []) pm (.ref c') ctv) ⟨[u],[]⟩=pure [(x,u)]) (rv:aL v u)
  (ht:PE (X.lam A scope (x::N) qual f (.ref c') s H) body te) (h:te (ng v cap σ) H Q) :
  HA (EH X.prog X.w) A (.call (.ref f) ⟨[u],[]⟩) (fun r s'=>match r with
   | .ok (.ret u)=>CE X.stack X.prog X.w H s Q u s'
   | _=>False) s:=by
 refine kla_callFunE hr.depth ho rfl c.co c.gen rfl hcr ?_;rw [hb];refine A_ (wpAny_newFunctionEnv c.nc (fun y hy=>?_) (fun h1 hns hsb=>?_) c.kind)
 ·have:y=(x,u):=by simpa using hy
  subst this;exact c.loc
 have hk1:∀ b o,s.heap.get? b=some o->h1.get? b=some o:=fun b o e=>(hsb.2 b (D5 (D0 e))).trans (χ _ e);refine ⟨J.nolimit.keeps hk1,kla_codeExpr ?_⟩;have I1:=zr (t1:=s.toks+([(x,u)]:List (Str×ς)).length) (qual:=qual) (f:=f) (cd:=.ref c') c J hA hr.hd rv hns hsb;refine E8 (ht [] _ _ H _ I1 h) (fun v' s' hq=>?_) fun _ _ z=>Es z;obtain ⟨y,H',I2,r2,q2⟩:=hq;exact ⟨y,H',I2.os,I2.bare,I2.base,I2.hok,r2,q2⟩
end
theorem kZ {prog:D_} {w:Eh} {A:Eg} {E:ς->Ω->Prop} {s:Ω} {r:Δ} {b:Int} {n:Nat} {t u v:Tok} {Q:List ς->Ω->Prop} (hh:A.handled=none) (hr:IsRange s.heap r 0 b 1 t u v) (hsm:HF 0 b 1=true) (hb:GG 0 b 1=n) (hn:n<=2 ^ 24)
    (h:∀ h' tk vs,(∀ b o,s.heap.get? b=some o->h'.get? b=some o)->s.heap.objs.size<=h'.objs.size->Vals ((ED n).map fun i=>V.int (i:Nat)) vs->Q vs { s with heap:=h',toks:=tk }):EA (EH prog w) A (collect (.ref r)) Q E s:=by
  have go:∀ R:Kq->Ω->Prop,(∀ h' tk acc c',(∀ b o,b≠s.heap.objs.size->(s.heap.push { cls:=.type "list",data:=.seq ([]:List ς).toArray }).get? b=some o->h'.get? b=some o)->h'.get? s.heap.objs.size=some { cls:=.type "list",dict:=none,data:=.seq acc c',slots:=#[] }->ItemsOf (fun i v=>∃ t,v=.int (0+(i:Int)*1) t) acc n->R (.ok (.ret (.ref s.heap.objs.size))) { s with heap:=h',toks:=tk }) ->
      HA (EH prog w) A (.builtin "proto.collect" ⟨[.ref r],[]⟩) R s:=by
    intro R hR;refine Gz F.entry_proto_collect ?_;rw [GJ F.plain_proto_collect _]
    show EA _ A.in1 (newList [] >>= fun l=>again (.builtin "list.__iadd__" ⟨[l,.ref r],[]⟩)) _ _ s
    refine θ (HU ?_);refine A_ ⟨HN F.plain_list_iadd _,Gz F.entry_list_iadd ?_⟩;rw [GJ F.plain_list_iadd _];exact wpAny_extend_range (A:=A) hh (s:={ s with heap:=s.heap.push { cls:=.type "list",data:=.seq ([]:List ς).toArray } }) (χ _ hr) hsm hb hn _ _ 0 (D4 _ rfl) hR
  unfold collect;refine θ (wpAny_runValue (go _ fun h' tk acc c hk hS hacc=>?_))
  show EA _ A (load s.heap.objs.size >>= _) _ _ _
  refine θ (wpAny_load hS ?_);refine A_ (h h' tk acc.toList (fun b o e=>hk b o (D5 (D0 e)) (χ _ e)) (Ip (D0 hS)) ?_);obtain ⟨hsz,hit⟩:=hacc
  have key:∀ (k m:Nat) (l:List ς),l.length=m->(∀ j v,l[j]?=some v->∃ t,v=HR (((k+j:Nat):Int)) t)->Vals ((Jo k m).map fun i=>V.int (i:Nat)) l:=by
    intro k m
    induction m generalizing k with
    | zero=>intro l hl _; rw [Ln.mp hl]; exact .nil
    | succ m ih =>
      intro l hl hv
      match l,hl with
      | x::l,hl =>
        obtain ⟨t,ht⟩:=hv 0 x rfl;refine .cons ⟨t,by simpa using ht⟩ (ih (k+1) l (by simpa using hl) fun j v e=>?_);obtain ⟨t,ht⟩:=hv (j+1) v (by simpa using e);exact ⟨t,by rw [ht]; congr 1; omega⟩
  rw [Jm];refine key 0 n acc.toList (by rw [EC,hsz]) fun j v e=>?_;obtain ⟨t,ht⟩:=hit j v (by rw [<- Ex]; exact e);exact ⟨t,by rw [ht]; congr 1; omega⟩
section
variable {X:Cx} {pins:List (Δ×GN)} {σ:St} {H:Hp} {s0 s:Ω} {args:LX} {body:FE} {scope:Hq} {x qual:Str} {N:List Str} {cap:List Nat}
theorem uY {r f c':Δ} {b:Int} {n k:Nat} {t u v:Tok} {pm ctv:ς} {te:TE} {Q:VK} {g:Nat->Int} (c:i8 X scope x N cap) (I:Inv X pins σ H s0) (hr:bF (k+4) X.A) (hR:IsRange s0.heap r 0 b 1 t u v) (hsm:HF 0 b 1=true) (hb:GG 0 b 1=n) (hn:n<=5000)
    (hf:s0.heap.get? f=some (Lr "<lambda>" qual args body scope (bf X.env.cells scope.names []) pm c' ctv)) (nf:H f=none) (ff:f∉frs X.stack) (hC:H c'=some (gS c' qual))
    (hbind:∀ u,IP (kla_fn "<lambda>" qual args body scope (bf X.env.cells scope.names []) pm (.ref c') ctv) ⟨[u],[]⟩=pure [(x,u)])
    (ht:∀ A s H,bF (k+1) A->PE (X.lam A scope (x::N) qual f (.ref c') s H) body te)
    (hkey:∀ i,i<n->∀ H1,aj H H1->∀ Q1:VK,(∀ H2,aj H1 H2->Q1 (.int (g i)) H2)->te (ng (.int (i:Nat)) cap σ) H1 Q1)
    (hend:∀ (l:Δ) (ys:List Nat) (H':Hp),aj H H'->H l=none->H' l=some (.lst (ys.map fun i=>V.int (i:Nat)))->ys.Perm (ED n)->ys.Pairwise (fun i j=>g i<=g j)->Q (.ref l) H') :
    EA (EH X.prog X.w) X.A (Io (.builtin "sorted") [.ref r] [(Gf "key",.ref f)]) (EP X pins σ Q) X.xe s0:=by
  refine call_function_entry_kw LZ K1 K4 (ksk_s1 _ _) ?_;unfold Gw.«sorted»;refine θ (m:=L_ "sorted" 1 1 _) (A_ ?_);refine θ (kZ (by exact hr.hd) hR hsm hb (by omega) fun hc tkc its keepc szc rv=>?_);have hlen:its.length=n:=by rw [<- rv.length,Ξ,Eo]
  have hz':its.length<=sizeLine:=Ew (H_ hlen) (Ew hn (by decide));have ii:JE its ((ED n).map fun i=>((i:Nat):Int)):=jU (by rw [Ez]; exact rv);refine θ (Hj ?_ hz');generalize hS0:s0.heap.objs.size=n0;rw [hS0] at szc;generalize hD:hc.objs.size=D;have hDn:n0<=D:=by rw [<- hD]; exact szc
  have hoL:(hc.push (Eb "list" its.toArray 0)).get? D=some (Eb "list" its.toArray 0):=by rw [<- hD]; exact D4 _ rfl
  have keep:∀ b o,s0.heap.get? b=some o->(hc.push (Eb "list" its.toArray 0)).get? b=some o:=fun b o q=>χ _ (keepc b o q);have hs2:(hc.push (Eb "list" its.toArray 0)).objs.size=D+1:=by rw [Hz,hD]
  show EA _ _ (Jv [.ref D] (Io (.builtin "list.sort") [.ref D] [(Gf "key",.ref f)]) >>= fun _=>ret (.ref D)) _ _ { s0 with heap:=hc.push (Eb "list" its.toArray 0),toks:=tkc }
  generalize hc.push (Eb "list" its.toArray 0)=h1 at hoL keep hs2 ⊢
  have am00:dy X H s0 H { s0 with heap:=h1,toks:=tkc }:=by
    have a0:=(dy.start I).heap (h':=h1) fun b o _ q=>keep b o q;exact ⟨a0.os,a0.un,a0.hok,a0.bare⟩
  refine θ (FW (wpAny_call_entry_kw KD ⟨_,hoL,rfl⟩ J0 ?_ (ksk_l1 _ _)))
  show EA (EH X.prog X.w) X.A.in1.in1 (Gw.«list.sort» ⟨[.ref D],[(Gf "key",.ref f)]⟩) _ _ _
  rw [ksk_t1];unfold ksk_tree;refine θ (Ju hoL rfl ?_);refine θ (GQ hoL rfl ?_ (by rw [D8]; exact hz') (El _));obtain ⟨e1,ho1⟩:∃ e1,(h1.update D (ES fun _=>#[])).get? D=some (Eb "list" #[] e1):=⟨_,F5 hoL (fun _=>#[])⟩
  refine θ (Il ho1 rfl ?_);refine θ (L6 ?_ (by first | exact hz' | (simp; exact hz')));refine θ (Hj ?_);refine FW ?_
  show EA _ _ (ksk_rest D (.ref f) false its.toArray e1 (.ref ((h1.update D (ES fun _=>#[])).push (Eb "tuple" its.toArray 0)).objs.size)) _ _ { s0 with heap:=((h1.update D (ES fun _=>#[])).push (Eb "tuple" its.toArray 0)).push (Eb "list" #[] 0),toks:=tkc }
  have hsk:((h1.update D (ES fun _=>#[])).push (Eb "tuple" its.toArray 0)).objs.size=D+2:=by rw [Hz,Gi,hs2]
  have hK:(((h1.update D (ES fun _=>#[])).push (Eb "tuple" its.toArray 0)).push (Eb "list" #[] 0)).get? (D+2)=some (Eb "list" #[] 0):=by rw [<- hsk]; exact D4 _ rfl
  have hDo:(((h1.update D (ES fun _=>#[])).push (Eb "tuple" its.toArray 0)).push (Eb "list" #[] 0)).get? D=some (Eb "list" #[] e1):=χ _ (χ _ ho1);rw [hsk];have am1:dy X H s0 H { s0 with heap:=((h1.update D (ES fun _=>#[])).push (Eb "tuple" its.toArray 0)).push (Eb "list" #[] 0),toks:=tkc }:=am00.heap (s:={ s0 with heap:=h1,toks:=tkc }) fun b o hb q=>by
    have hne:b≠D:=by
      rcases hb with hb | hb
      · rw [hS0] at hb; exact D5 (EG hb hDn)
      · intro e
        exact hb (I.hok.fresh (by rw [hS0,e]; exact hDn))
    exact χ _ (χ _ ((EX _ _ (FH hne)).trans q))
  generalize ((h1.update D (ES fun _=>#[])).push (Eb "tuple" its.toArray 0)).push (Eb "list" #[] 0)=h2 at hK hDo am1 ⊢;generalize hkS:D+2=kS at hK ⊢;have hKn:n0<=kS:=by rw [<- hkS]; omega
  have hDK:D≠kS:=by rw [<- hkS]; exact D5 (by omega)
  have nfr:∀ {c:Δ},n0<=c->c∉frs X.stack:=fun {c} hc hb=>by
    rcases B_.mp (I.stkSub c hb) with e | hb
    · have:=I.lt
      rw [<- e,hS0] at this;exact absurd this (HS.mpr hc)
    · exact I.nofs (by rw [hS0]; exact hc) hb
  unfold ksk_rest;refine θ (GO ?_);have roomK:bF (k+1+1) X.A.in1.in1:=(hr.mono (by omega:k+1+1+2<=k+4)).in1.in1;rw [<- MW,MR];refine θ (ksk_fold (I:=fun i s=>∃ (H1:Hp) (ks:List ς) (c:Nat),dy X H s0 H1 s/\aj H H1/\s.heap.get? D=some (Eb "list" #[] e1)/\H1 D=none/\s.heap.get? kS=some (Eb "list" ks.toArray c)/\H1 kS=none/\Vals ((ED i).map fun j=>V.int (g j)) ks)
    its 0 _ ⟨H,[],0,am1,aj.refl _,hDo,I.hok.fresh (by rw [hS0]; exact hDn),hK,I.hok.fresh (by rw [hS0]; exact hKn),.nil⟩ ?_ ?_)
  · rintro j y s hy ⟨H1,ks,cc,am,sm,qD,nD,qK,nK,vk⟩
    rw [ME] at vk ⊢;have jlt:j<its.length:=(Aw.mp hy).1;have lk:ks.length=j:=by rw [<- vk.length,Ξ,Eo]
    obtain ⟨uj,hu,rj⟩:=rv.get (i:=j) (x:=.int (j:Nat)) (by rw [EU,G1 (by omega)]; rfl);rw [hy] at hu
    cases hu;have J:=am.inv I;have hf1:s.heap.get? f=some (Lr "<lambda>" qual args body scope (bf X.env.cells scope.names []) pm c' ctv):=am.un.keep f _ hf nf ff (fun z=>nomatch z);have hcr:s.heap.CodeRec (.ref c') qual:=(show aY X.prog X.w H1 s.heap c' (.ext fun h=>h.CodeRec (.ref c') qual) from J.hok c' _ (sm _ _ hC)).1;refine θ (Hl (Ic (G0 (v8 (Q:=fun v H2=>v=.int (g j)/\aj H1 H2) c J rfl roomK hf1 hcr (hbind y) rj (ht _ _ _ (roomK.mono (by omega))) (hkey j (by omega) H1 sm _ fun H2 s2=>⟨rfl,s2⟩)) fun rr s2 hq=>?_)))
    cases rr with
    | error e=>exact Es hq
    | ok fl =>
      cases fl with
      | next=>exact Es hq
      | brk=>exact Es hq
      | cont=>exact Es hq
      | ret ur =>
        obtain ⟨v2,H2,os2,bare2,un2,hok2,rv2,rfl,s12⟩:=hq;have am2:dy X H s0 H2 s2:=⟨os2.trans am.os,am.un.trans un2,hok2,bare2⟩
        have qD2:=un2.keep D _ qD nD (nfr hDn) (fun z=>nomatch z);have nD2:=un2.free D _ qD nD (fun z=>nomatch z);have qK2:=un2.keep kS _ qK nK (nfr hKn) (fun z=>nomatch z);have nK2:=un2.free kS _ qK nK (fun z=>nomatch z);dsimp only;refine θ (GQ qK2 rfl ?_ (by rw [D8]; omega) (by rw [Array.size_push,D8]; omega));have qK3:=F5 qK2 (fun x=>x.push ur);refine A_ ⟨rfl,H2,ks++[ur],_,am2.heap fun b o hb q=>?_,sm.trans s12,?_,nD2,by rw [qK3]; congr 2; simp,nK2,?_⟩
        · have hne:b≠kS:=by
            rcases hb with hb | hb
            · rw [hS0] at hb; exact D5 (EG hb hKn)
            · intro e; rw [e] at hb; exact hb nK2
          exact (EX _ _ (FH hne)).trans q
        · exact (EX _ _ (FH hDK)).trans qD2
        · rw [Fw,Ef]
          exact mG vk rv2
  · rintro s ⟨H1,ks,cc,am,sm,qD,nD,qK,nK,vk⟩
    rw [ME,hlen] at vk;have lk:ks.length=its.length:=by rw [<- vk.length,Ξ,Eo,hlen]
    have ik:JE ks ((ED n).map g):=jU (by rw [Ez]; exact vk);refine θ (Ju qK rfl ?_);unfold ksk_end;dsimp only;rw [if_neg (by decide)]
    have hpair:∀ p∈ks.zip its,∃ i,i<n/\(∃ t,p.1=.int (g i) t)/\∃ t,p.2=.int (i:Nat) t:=by
      intro p hp;obtain ⟨i,hi⟩:=Ep.mp hp;have hz2:=Gu.mp hi;have hin:i<n:=by have:=(Aw.mp hz2.2).1; omega
      obtain ⟨u1,hu1,r1⟩:=vk.get (i:=i) (x:=.int (g i)) (by rw [EU,G1 hin]; rfl);obtain ⟨u2,hu2,r2⟩:=rv.get (i:=i) (x:=.int (i:Nat)) (by rw [EU,G1 hin]; rfl);rw [hz2.1] at hu1;rw [hz2.2] at hu2
      cases hu1
      cases hu2;exact ⟨i,hin,r1,r2⟩
    have fin:∀ (st:E9),(EI st).toList.Perm (ks.zip its)->GK st=none->(EI st).toList.Pairwise (Ts.Le fun x y=>decide (Hf x.1<Hf y.1)) ->
        EA (EH X.prog X.w) X.A.in1.in1 (ksk_tail D false e1 (.ref kS) st) (fun fin s'=>∃ v,fin=MU (MN v)/\EA (EH X.prog X.w) X.A.in1 (ret (EB D)) (fun fin s'=>∃ v,fin=MU (MN v)/\EP X pins σ Q v s') X.xe s') X.xe s:=by
      intro st hp hf hw;unfold ksk_tail;dsimp only;have lst:(EI st).size=its.length:=by rw [<- EC,hp.length_eq,Kx,lk,Nat.min_self]
      refine θ (GQ qK rfl ?_ (by rw [D8]; omega) (El _));refine θ (Ij ?_);have qD2:(s.heap.update kS (ES fun _=>#[])).get? D=some (Eb "list" #[] e1):=(EX _ _ (FH hDK)).trans qD;refine θ (Il qD2 rfl ?_);refine θ (GQ qD2 rfl ?_ (by simp) (by rw [if_neg (by decide),Jj,lst]; omega));rw [hf];simp only [bne_self_eq_false,FI,if_false];refine A_ ⟨_,rfl,?_⟩;have am2:dy X H s0 H1 { s with heap:=(s.heap.update kS (ES fun _=>#[])).update D (ES fun _=>(EI st).map (·.2)) }:=am.heap fun b o hb q=>by
        have n1:b≠kS:=by
          rcases hb with hb | hb
          · rw [hS0] at hb; exact D5 (EG hb hKn)
          · intro e; rw [e] at hb; exact hb nK
        have n2:b≠D:=by
          rcases hb with hb | hb
          · rw [hS0] at hb; exact D5 (EG hb hDn)
          · intro e; rw [e] at hb; exact hb nD
        exact (EX _ _ (FH n2)).trans ((EX _ _ (FH n1)).trans q)
      have qD3:=F5 qD2 (fun _=>(EI st).map (·.2))
      have pm:((EI st).toList.map (·.2)).Perm its:=by
        have:=hp.map MH
        rw [List.map_snd_zip (by omega)] at this;exact this
      have nu:its.map (fun u=>(Hf u).toNat)=ED n:=by
        refine GS fun i=>?_;by_cases hin:i<n
        · obtain ⟨u2,hu2,t2,r2⟩:=rv.get (i:=i) (x:=.int (i:Nat)) (by rw [EU,G1 hin]; rfl)
          rw [EU,hu2,G1 hin,r2];rfl
        · rw [FJ (by rw [Ξ]; omega),FJ (by rw [Eo]; omega)]
      have vls:Vals ((((EI st).toList.map (·.2)).map fun u=>(Hf u).toNat).map fun i=>V.int ((i:Nat):Int)) ((EI st).toList.map (·.2)):=by
        have hall:∀ u∈(EI st).toList.map (·.2),∃ (i:Nat) (t:Tok),u=.int (i:Nat) t:=fun u hu=>by
          obtain ⟨p,hp',rfl⟩:=EJ.mp hu;obtain ⟨i,_,_,t,e⟩:=hpair p (hp.mem_iff.mp hp');exact ⟨i,t,e⟩
        generalize (EI st).toList.map (·.2)=us at hall
        induction us with
        | nil=>exact .nil
        | cons u us ih =>
          obtain ⟨i,t,rfl⟩:=hall u Θ;exact .cons ⟨t,rfl⟩ (ih fun u hu=>hall u (Au _ hu))
      have am3:=am2.track (o:=.lst ((((EI st).toList.map (·.2)).map fun u=>(Hf u).toNat).map fun i=>V.int ((i:Nat):Int))) (c:=D) (by rw [hS0]; exact hDn) nD I ⟨by rw [Ξ,Ξ,pm.length_eq]; exact hz',(EI st).toList.map (·.2),_,vls,by rw [qD3]; congr 2; rw [<- IE,HL]⟩;refine A_ ⟨_,rfl,.ref D,_,am3.inv I,rfl,?_⟩;have nH:H D=none:=I.hok.fresh (by rw [hS0]; exact hDn);refine hend D _ _ (sm.later nH) nH ag (by rw [<- nu]; exact pm.map _) ?_;rw [Ez,Fd];refine hw.imp_of_mem fun {x y} hx hy hxy=>?_;obtain ⟨i,_,⟨t1,e1⟩,t2,e2⟩:=hpair x (hp.mem_iff.mp hx);obtain ⟨j,_,⟨t3,e3⟩,t4,e4⟩:=hpair y (hp.mem_iff.mp hy);have hxy:decide (Hf y.1<Hf x.1)=false:=hxy;rw [e1,e3] at hxy;have:=of_decide_eq_false hxy
      dsimp only [Function.comp];rw [e2,e4];exact Int.not_lt.mp this
    have zsz:(ks.toArray.zip its.toArray).toList=ks.zip its:=by simp
    by_cases h2:its.toArray.size<2
    · rw [if_pos h2,if_pos h2]
      refine θ (A_ ?_);rw [Kf];refine θ (A_ ?_);dsimp only;refine fin _ (by show (ks.toArray.zip its.toArray).toList.Perm _; rw [zsz]) rfl ?_
      show (ks.toArray.zip its.toArray).toList.Pairwise _
      rw [zsz];rw [D8] at h2;have:(ks.zip its).length<2:=by rw [Kx]; omega
      match ks.zip its,this with
      | [],_=>exact GD
      | [k],_=>exact JP _ _
      | k1::k2::_,h2=>exact absurd h2 (by simp only [C_]; omega)
    · rw [if_neg h2,if_neg h2]
      rw [D8] at h2;obtain ⟨k1,k2,kr,rfl⟩:∃ k1 k2 kr,ks=k1::k2::kr:=by
        match ks,lk with
        | [],h=>simp at h; omega
        | [_],h=>simp at h; omega
        | k1::k2::kr,_=>exact ⟨k1,k2,kr,rfl⟩
      rw [keyKind_ints ik];refine θ (A_ ?_);have asks:Ts.gR (EH X.prog X.w) X.A.in1.in1 X.xe s oneType' (fun x=>x∈(k1::k2::kr).zip its) (fun x y=>decide (Hf x.1<Hf y.1)):=Ts.jm fun x y hx hy Q' E' q=>by
        obtain ⟨i,_,⟨t1,e1⟩,_⟩:=hpair x hx;obtain ⟨j,_,⟨t3,e3⟩,_⟩:=hpair y hy;rw [e1,e3] at q ⊢;rw [keyLt'_oneType];exact oneLt_int q
      refine θ (E8 (Ts.kU (E:=X.xe) (s:=s) (A:=X.A.in1.in1) Ts.me asks (st:=Kv oneType' ((k1::k2::kr).toArray.zip its.toArray) #[] 7 none)
        (Q:=fun _ st'=>(EI st').Perm ((k1::k2::kr).toArray.zip its.toArray)/\GK st'=none/\(EI st').toList.Pairwise (Ts.Le fun x y=>decide (Hf x.1<Hf y.1))) rfl rfl rfl (fun x hx=>by rw [<- zsz]; exact hx) fun st' a1 a2 a3=>⟨a1,a2,a3⟩) ?_ fun _ _ e=>e)
      rintro ⟨⟨⟩,st'⟩ s' ⟨rfl,hp,hf,hs⟩;dsimp only;exact fin st' (by rw [<- zsz]; exact FZ.mp hp) hf hs
end
def yQ (P:Δ) (lp:HV) (q:Str) (cap:List Nat) (te:TE) (ta:TA):TE:=fun σ H Q=>ta σ H fun vs H1=>∃ (n:Nat) (g:Nat->Int),vs=[.int (n:Nat)]/\n<=5000/\dZ P lp q H1 /\
 (∀ i,i<n->∀ H2,eJ P H1 H2->∀ Q1:VK,(∀ H3,aj H2 H3->Q1 (.int (g i)) H3)->te (ng (.int (i:Nat)) cap σ) H2 Q1) /\
 ∀ (l:Δ) (ys:List Nat) (H':Hp),eJ P H1 H'->(Hit P lp q H1->aj H1 H')->Hit P lp q H'->H1 l=none->H' l=some (.lst (ys.map fun i=>V.int (i:Nat)))->ys.Perm (ED n)->ys.Pairwise (fun i j=>g i<=g j)->Q (.ref l) H'
section
variable {X:Cx}
theorem w9 {a body:FE} {ta:TA} {te:TE} {args:LX} {scope:Hq} {lp p pr prr kp pos:HV} {x:Str} {N:List Str} {cap:List Nat} {c P:Δ} {k:Nat} (hr:bF (k+4) X.A) (hg:Gl X "sorted") (hm:X.mg "sorted"=none) (hgr:Gl X "range") (hmr:X.mg "range"=none)
  (lo:i8 X scope x N cap) (hcode:X.env.code=.ref c) (C:CodeHd X.base c P) (hB:X.base.BuiltinsAt X.mg P) (hdef:defaultsOf args X.env=([],[]))
  (hbind:∀ pm c' ctv u,IP (kla_fn "<lambda>" (X.env.qual++"<lambda>") args body scope (bf X.env.cells scope.names []) pm (.ref c') ctv) ⟨[u],[]⟩=pure [(x,u)])
  (ha:PA X [a] ta) (ht:∀ A s H f cd,bF (k+1) A->PE (X.lam A scope (x::N) (X.env.qual++"<lambda>") f cd s H) body te)
  (hs:EV [a] X.env=[(false,F3 a X.env)]:=by rfl)
  (he:GW pos (EV [.Call (.Name "range" pr) [a] [] prr] X.env)=(false,F3 (.Call (.Name "range" pr) [a] [] prr) X.env)::GW pos (EV [] X.env):=by rfl) (hpl:(GW pos (EV [.Call (.Name "range" pr) [a] [] prr] X.env)).any (·.1)=false:=by rfl) :
  PE X (.Call (.Name "sorted" p) [.Call (.Name "range" pr) [a] [] prr] [⟨some "key",.Lambda args body scope lp,kp⟩] pos) (yQ P lp (X.env.qual++"<lambda>") cap te ta):=by
 intro pins s σ H Q I h;refine Fz (cX I hg hm (by rfl) ?_ (by decide) (by decide));refine callWith_kw ?_ he hpl;rw [he];refine Fj ?_;refine Call_ (cX I hgr hmr MB (FD (thn (ha prr pins s σ H _ I h) fun us s1 ⟨vs,H1,I1,r1,q1⟩=>?_) hs rfl));obtain ⟨n,g,e,hn,T,hkey,hend⟩:=q1;subst e
 cases r1 with
 | cons r rr =>
  cases rr;obtain ⟨t,rfl⟩:=r;refine call_range_1 ?_;refine GP ?_;refine kws_cons ?_;have I2:Inv X pins σ H1 { s1 with heap:=s1.heap.push { cls:=.type "range",data:=.fields #[.int 0 s1.toks,.int (n:Nat) t,.int 1 (s1.toks+1)] },toks:=s1.toks+2 }:=I1.kept (t':=s1.toks+2) fun b o e=>χ _ e;refine v9 I2 hcode C hB T (lo.freeH I2.ok) hdef fun f H' c' pm ctv s' I3 hfn hfo nf hcr sb hs' T' kp hC=>?_;refine kws_nil ?_;have hsm:HF 0 ((n:Nat):Int) 1=true:=small_one (by omega) (by omega) (by omega) (by omega);have hPs:P≠s1.heap.objs.size:=fun e=>by
   obtain ⟨ps,tP⟩:=T.at
   rw [e,I1.hok.fresh (Av _)] at tP
   cases tP
  refine uY (n:=n) (k:=k) lo I3 hr (kp _ _ hPs.symm (Lq ..)) hsm (by rw [rangeSize_one]; split<;>omega) hn hfo nf ?_ hC (hbind pm c' ctv) (fun A s H hA=>ht A s H f (.ref c') hA) (fun i hi H2 s2 Q1 q1=>hkey i hi H2 (sb.trans (s2.toB P)) Q1 q1) fun l ys H2 s2 nl e2 pm2 pw2=>?_
  ·intro hb;rcases B_.mp (I2.stkSub f hb) with e | hb
   ·have:=I2.lt
    rw [<- e] at this;exact absurd this (HS.mpr hfn)
   ·exact I2.nofs hfn hb
  ·refine hend l ys H2 (sb.trans (s2.toB P)) (fun h=>by rw [hs' h] at s2; exact s2) (T'.mono s2) ?_ e2 pm2 pw2;have hlP:l≠P:=fun e=>by
    obtain ⟨ps,_,tP,_⟩:=T';rw [<- e,nl] at tP
    cases tP
   cases q:H1 l with
   | none=>rfl
   | some o=>have:=sb l o hlP q; rw [nl] at this; cases this
theorem uP {P:Δ} {lp:HV} {q:Str} {cap:List Nat} {te:TE} {ta:TA} {σ:St} {H:Hp} {Q:VK} (h:ta σ H fun vs H1=>∃ (n:Nat) (g:Nat->Int),vs=[.int (n:Nat)]/\n<=5000/\dZ P lp q H1 /\
 (∀ i,i<n->∀ H2,eJ P H1 H2->∀ Q1:VK,(∀ H3,aj H2 H3->Q1 (.int (g i)) H3)->te (ng (.int (i:Nat)) cap σ) H2 Q1) /\
 ∀ (l:Δ) (ys:List Nat) (H':Hp),eJ P H1 H'->(Hit P lp q H1->aj H1 H')->Hit P lp q H'->H1 l=none->H' l=some (.lst (ys.map fun i=>V.int (i:Nat)))->ys.Perm (ED n)->ys.Pairwise (fun i j=>g i<=g j)->Q (.ref l) H'):yQ P lp q cap te ta σ H Q:=h
end
theorem Fun.okT {P:D_} {w:Eh} {K:W.Frag} {mg:Str->Option ς} {base:E5} {x qual:Str} {st:Ie} {f:Δ} {fd:FU} {N ps:List Str} {k:Nat} {sp:Sp} (F:Fun K x qual st f fd) (S:aB N ps (ak st)) (len:∀ vs H Q E,sp vs H Q E->vs.length=ps.length)
  (hbody:∀ (cdv:ς) (A:Eg) (outer:List J_) (s:Ω) (H:Hp) (vs:List V) (Q:VK) (E:XK),fd.code=cdv->bF k (A.deeper (Iz qual (ak st) s.heap.objs.size f cdv))->sp vs H Q E ->
   ∃ t,PSs (dh CX0 P w K mg base N qual (ak st) f cdv A outer s H E).nox (cj st) t/\t { nx:=fun _ H'=>Q .non H',rt:=Q } (start N vs) H):aW P w K mg base CX0 (k+1) f fd ps sp:=by
 obtain ⟨oc,od,kV,doc,pm,an,cdv,ct,osl,rfl,lk,hcd⟩:=F.ex;refine vP lk hcd S len fun A outer s H vs Q E hr hsp=>?_;obtain ⟨t,h,q⟩:=hbody cdv A outer s H vs Q E rfl hr hsp;exact ⟨t,h.nox,q⟩
end L2
namespace Sm
section
variable {nb:Pnt->List Pnt}
theorem vT:∀ {a b:Pnt} {l:List Pnt},b∈nb a->Go nb a b l->∀ (i:Nat) (p q:Pnt),(a::b::l)[i]?=some p->(a::b::l)[i+1]?=some q->q∈nb p
 | a,b,l,hb,_,0,p,q,hp,hq=>by
  simp only [E3,FL,FN] at hp hq;rw [<- hp,<- hq]; exact hb
 | a,b,[],_,_,i+1,p,q,_,hq=>by simp at hq
 | a,b,c::l,_,g,i+1,p,q,hp,hq=>by
  rw [FL] at hp hq;exact vT (hZ g).1 g.2 i p q hp hq
noncomputable def bef (L:List Pnt) (i:Nat):Nat:=if i=0 then L.length - 1 else i - 1
theorem cJ.len {f:Bool} {L:List Pnt} (h:cJ nb f L):2<=L.length:=by
 obtain ⟨a,b,l,e,_⟩:=h.path;rw [e,C_,C_]; omega
theorem cJ.nd {f:Bool} {L:List Pnt} (h:cJ nb f L):L.Nodup:=by
 obtain ⟨a,b,l,e,_,_,n⟩:=h.path;exact n
theorem zt {a b:Pnt} {l:List Pnt}:(a::b::l)[(a::b::l).length - 1]?=some (fin a b l).2:=by rw [<- List.getLast?_eq_getElem?]; exact hG a b l
theorem cJ.step (G:Gr nb) {f:Bool} {L:List Pnt} (h:cJ nb f L) {i:Nat} (hi:i<L.length) (h0:i≠0\/f=true):∃ p q,L[bef L i]?=some p/\L[i]?=some q/\q∈nb p:=by
 by_cases hz:i=0
 ·have hf:f=true:=h0.resolve_left fun z=>z hz;obtain ⟨a,b,l,rfl,o,_⟩:=h.rd hf;refine ⟨(fin a b l).2,a,?_,by rw [hz]; rfl,G.sym (o.last G).1⟩;unfold bef;rw [if_pos hz]; exact zt
 ·obtain ⟨a,b,l,rfl,hb,g,_⟩:=h.path;have h1:i - 1<(a::b::l).length:=by omega
  refine ⟨_,_,?_,ξ hi,vT hb g (i - 1) _ _ (ξ h1) ?_⟩
  ·unfold bef; rw [if_neg hz]; exact ξ h1
  ·rw [show i - 1+1=i by omega]; exact ξ hi
end
end Sm
namespace L2
open PySem PySem.Spec PyProof.Rows PySem.W
section
variable {prog:D_} {w:Eh} {κ:Type} [DecidableEq κ] {kd:HeapKind prog w κ} {A:Eg} {E:ς->Ω->Prop} {s:Ω} {d a:Δ} {xs:List (κ×Δ×ς)} {k:κ} {v:ς}
theorem sdH {Q:ς->Ω->Prop} (hu:kd.room A) (hk:kd.is s.heap k a) (hm:s.heap.DictOfH kd d xs) (hz:xs.length<=D7)
  (h1:∀ p,J1 xs k=some p->Q p.2 { s with toks:=s.toks+kd.draws k })
  (h2:J1 xs k=none->∀ h',h'.DictOfH kd d (storedH xs k a v)->F2 d s.heap h'->Q v { s with heap:=h',toks:=s.toks+kd.draws k }) :
  EA (EH prog w) A (IM d (.ref a) v) Q E s:=by
 obtain ⟨o,es,ep,ho,hc,hd,he,hi,hn⟩:=hm;unfold IM
 (try with_reducible refine FW ?_); refine θ (kd.pyHash hu hk (θ (wpAny_dictFind_heap (s:={ s with toks:=s.toks+kd.draws k }) hu hk ho hd he hi hn (fun no=>?_) fun j p hj=>?_)))
 ·have ha:=atKey_none_of_get no;have hnot:=not_mem_keys_of_get no;have es':storedH xs k a v=xs++[(k,a,v)]:=storedH_new ha a v;refine θ (GO (θ (wpAny_updateDictKeys (hz:=by have e:=size_of_entries he; omega) (s:={ s with toks:=s.toks+kd.draws k }) ho hd (A_ (h2 ha _ ⟨_,_,ep+1,GF _ ho (Ml (IX hd _)),hc.mapDictKeys _,IX hd _,?_,fun x hx=>?_,?_⟩ (Gs ..))))))
  ·rw [es']; simp [he,Jw]
  ·rw [es'] at hx
   cases EE.mp hx with
   | inl z=>exact kd.keeps (hi x z) ho hd (Gs ..)
   | inr z=>(rw [Ax.mp z]; exact kd.keeps hk ho hd (Gs ..))
  ·rw [es',Ef,Ey];exact ⟨hn,by simp,fun x hx y hy z=>hnot (by rw [J9,Ax] at hy; rw [<- (show y=k from hy),<- z]; exact hx)⟩
 ·(refine θ (II (s:={ s with toks:=s.toks+kd.draws k }) ho hd ?_); rw [entry_at he j,hj])
  exact θ (GO (A_ (h1 p (atKey_of_get hn hj))))
theorem yp (hd : (d == Fe) = false) : MeetsIn prog w (Gw.«dict.setdefault» ⟨[.ref d, .ref a, v], []⟩) (fun A R s => kd.room A.in1 /\ ∃ k xs, kd.is s.heap k a /\ s.heap.DictOfH kd d xs /\ xs.length <= D7 /\
      (∀ p,J1 xs k=some p->R (.ok (.ret p.2)) { s with toks:=s.toks+kd.draws k }) /\
      (J1 xs k=none->∀ h',h'.DictOfH kd d (storedH xs k a v)->F2 d s.heap h'->R (.ok (.ret v)) { s with heap:=h',toks:=s.toks+kd.draws k })) :=
  .of_wp fun A R s ⟨hu,k,xs,hk,hm,hz,h1,h2⟩=>by
    unfold Gw.«dict.setdefault» KA
    (refine θ (θ (IY hm.typeIs ?_)); show EA _ _ (pure (d,EB a,some v)) _ _ s; refine A_ ?_)
    (show EA _ _ (if (d==Fe)=true then _ else (IM d (.ref a) v >>= _)) _ _ s; rw [if_neg (by rw [hd]; exact Ei)])
    exact θ (sdH hu hk hm hz (fun p hp=>A_ ⟨p.2,rfl,h1 p hp⟩) fun hn h' hm' hs'=>A_ ⟨v,rfl,h2 hn h' hm' hs'⟩)
end
section
variable {X:Cx} {pins:List (Δ×GN)} {σ:St} {H:Hp} {s:Ω} {a b:Δ} {z:V} {r:ς} {A:Eg} {E:ς->Ω->Prop} {kvs:List (List Key×V)} {k:List Key}
theorem Bw {Q:ς->Ω->Prop} (hu:A.units+1<Ho) (I:Inv X pins σ H s) (e:H a=some (.dT kvs)) (eb:H b=some (.tup (k.map kV))) (hl:kvs.length<D7) (rz:aL z r)
  (h1:∀ v,aT kvs k=some v->∀ w' s',Inv X pins σ H s'->aL v w'->Q w' s') (h2:aT kvs k=none->∀ s',Inv X pins σ (upd H a (.dT (b7 kvs k z))) s'->Q r s') :
  EA (EH X.prog X.w) A (call (.builtin "dict.setdefault") [.ref a,.ref b,r]) Q E s:=by
 obtain ⟨zl,hd,xs,rel,dd⟩:=vN I.hok e;have hl':(b7 kvs k z).length<=sizeLine:=by have:=cL kvs k z; omega
 have rv:=rel.val k;refine JD G7 dd.typeIs KP (KI _ _ _) (yp (kd:=HM (a7 X.prog X.w)) hd)
  ⟨Hx hu,k,xs,gH I.hok eb,dd,by rw [<- Paired.length rel]; exact zl,fun p hp=>?_,fun hp h' dd' hs=>?_⟩
 ·rw [hp] at rv
  cases hv:aT kvs k with
  | none => rw [hv] at rv; exact absurd rv (by intro z; cases z)
  | some v =>
   rw [hv] at rv;exact h1 v hv _ _ (I.tok _) rv
 ·rw [hp] at rv
  have hv:aT kvs k=none:=by
   cases hv:aT kvs k with
   | none=>rfl
   | some v=>rw [hv] at rv; exact absurd rv (by intro z; cases z)
  obtain ⟨q,es,ep,hq,h2',h3,h4,_,h5⟩:=dd';refine h2 hv _ (jo I (by rw [e]; exact Gk) hs ⟨q,hq⟩ ⟨hl',hd,_,(rel.put k eb rz).keeps fun c ys ec=>?_,q,es,ep,hq,h2',h3,h4,h5⟩);exact (ai (aZ ec e (fun z=>nomatch z))).trans ec
end
def yM (td ty tx:TE):TE:=fun σ H Q=>td σ H fun x H1=>∃ a,x=.ref a/\IsD H1 a/\ty σ H1 fun y H2=>tx σ H2 fun z H3=>∃ kvs k b,y=.ref b/\H3 a=some (.dT kvs)/\H3 b=some (.tup (k.map kV))/\kvs.length<D7 /\
 (∀ v,aT kvs k=some v->Q v H3)/\(aT kvs k=none->Q z (upd H3 a (.dT (b7 kvs k z))))
theorem w6 {X:Cx} {o e f:FE} {apos cpos:HV} {td ty tx:TE} (hu:X.A.units+1<Ho) (ho:PE X o td) (he:PE X e ty) (hf:PE X f tx) (m:M2 X o "setdefault" apos e f cpos):PE X (.Call (.Attribute o "setdefault" apos) [e,f] [] cpos) (yM td ty tx):=by
 intro pins s σ H Q I h;refine Kz m.base m.few m.line HX G7 KZ (thn (ho pins s σ H _ I h) fun u s1 ⟨x,H1,I1,rx,a,ex,d,q1⟩=>?_);subst ex;obtain rfl:u=EB a:=rx
 obtain ⟨t1,t2,_⟩:=qO I1 d;refine ⟨t1,t2,?_⟩;rw [m.trees];refine G_ rfl (HK (Fj (thn (he pins s1 σ H1 _ I1 q1) fun iv s2 ⟨y,H2,I2,ry,q2⟩ =>
  Fj (thn (hf pins s2 σ H2 _ I2 q2) fun fv s3 ⟨z,H3,I3,rz,kvs,k,b,ey,e3,eb,hl,k1,k2⟩=>GP ?_))))
 subst ey;obtain rfl:iv=EB b:=ry
 exact Bw hu I3 e3 eb hl rz (fun v hv w' s4 I4 rw'=>⟨v,H3,I4,rw',k1 v hv⟩) fun hv s4 I4=>⟨z,_,I4,rz,k2 hv⟩
theorem xP {td ty tx:TE} {σ:St} {H:Hp} {Q:VK} (h:td σ H fun x H1=>∃ a,x=.ref a/\IsD H1 a/\ty σ H1 fun y H2=>tx σ H2 fun z H3=>∃ kvs k b,y=.ref b/\H3 a=some (.dT kvs)/\H3 b=some (.tup (k.map kV))/\kvs.length<D7 /\
 (∀ v,aT kvs k=some v->Q v H3)/\(aT kvs k=none->Q z (upd H3 a (.dT (b7 kvs k z))))):yM td ty tx σ H Q:=h
theorem jX:∀ {ns:List Int} {its:List ς},Vals (ns.map V.int) its->∃ xs:List (Int×Tok),its=xs.map (fun p=>HR p.1 p.2)/\xs.map (·.1)=ns
 | [],_,r=>by cases r; exact ⟨[],rfl,rfl⟩
 | n::ns,_,r=>by
  rw [EL] at r
  cases r with
  | cons q r =>
   obtain ⟨t,rfl⟩:=q;obtain ⟨xs,rfl,e⟩:=jX r;exact ⟨(n,t)::xs,rfl,by rw [EL,e]⟩
def rf (K:W.Frag) (mx:Bool) (vs:List V) (H:Hp) (Q:VK):Prop:=∃ (a:Δ) (ns:List Int),vs=[.ref a]/\SqL K H a (ns.map V.int)/\ns≠[]/\∀ m∈ns,(∀ n∈ns,if mx=true then n<=m else m<=n)->Q (.int m) H
section
variable {X:Cx} (K:W.Frag) (hK:X.K=K) (hc:X.calm=true)
theorem oN {xs:List (Int×Tok)} {i:Nat} (hi:i<xs.length):K2 xs.toArray i=xs[i].1:=by
 unfold K2;rw [List.getElem?_toArray,ξ hi]; rfl
theorem sC {xs:List (Int×Tok)} (h0:0<xs.length) (mx:Bool) {k:Nat} (hk:k<=xs.toArray.size - 1) (hb:∀ j,j<=xs.toArray.size - 1->if mx=true then K2 xs.toArray j<=K2 xs.toArray k else K2 xs.toArray k<=K2 xs.toArray j) :
  K2 xs.toArray k∈xs.map (·.1)/\∀ n∈xs.map (·.1),if mx=true then n<=K2 xs.toArray k else K2 xs.toArray k<=n:=by
 rw [D8] at hk hb;refine ⟨?_,fun n hn=>?_⟩
 ·rw [oN (by omega)]; exact EJ.mpr ⟨_,Er _,rfl⟩
 ·obtain ⟨p,hp,rfl⟩:=EJ.mp hn;obtain ⟨j,hj,rfl⟩:=MI.mp hp;have:=hb j (by omega)
  rw [oN hj] at this;exact this
include hK hc
theorem oQ:bM X (.builtin "min") (rf K false):=by
 subst hK;intro pins s σ H xs us Q I hv h;obtain ⟨a,ns,rfl,hl,hne,h⟩:=h;obtain ⟨u,rfl,ru⟩:=hv.one
 cases (show u=EB a from ru)
 obtain ⟨its,rv,pl,hz⟩:=I.list hl;obtain ⟨xs,rfl,rfl⟩:=jX rv;have h0:0<xs.length:=J4.mpr fun e=>hne (by rw [e]; rfl);have hi:s.heap.IsList a (intItems xs.toArray):=by have:=pl.isList; unfold intItems; simpa using this
 refine min_intList (I.ok.hd hc) hi (by simpa using h0) fun v h' tk hv hk=>?_;obtain ⟨t,rfl⟩:=intItems_at hv;obtain ⟨b1,b2⟩:=argBest_lt (K2 xs.toArray) (xs.toArray.size - 1);obtain ⟨c1,c2⟩:=sC h0 false b1 fun j hj=>by rw [if_neg (by decide)]; exact b2 j hj
 exact ⟨.int _,H,I.kept hk,⟨t,rfl⟩,h _ c1 c2⟩
theorem oP:bM X (.builtin "max") (rf K true):=by
 subst hK;intro pins s σ H xs us Q I hv h;obtain ⟨a,ns,rfl,hl,hne,h⟩:=h;obtain ⟨u,rfl,ru⟩:=hv.one
 cases (show u=EB a from ru)
 obtain ⟨its,rv,pl,hz⟩:=I.list hl;obtain ⟨xs,rfl,rfl⟩:=jX rv;have h0:0<xs.length:=J4.mpr fun e=>hne (by rw [e]; rfl);have hi:s.heap.IsList a (intItems xs.toArray):=by have:=pl.isList; unfold intItems; simpa using this
 refine max_intList (I.ok.hd hc) hi (by simpa using h0) fun v h' tk hv hk=>?_;obtain ⟨t,rfl⟩:=intItems_at hv;obtain ⟨b1,b2⟩:=argBest_gt (K2 xs.toArray) (xs.toArray.size - 1);obtain ⟨c1,c2⟩:=sC h0 true b1 fun j hj=>by rw [if_pos rfl]; exact b2 j hj
 exact ⟨.int _,H,I.kept hk,⟨t,rfl⟩,h _ c1 c2⟩
end
theorem jy {K:W.Frag} {mx:Bool} {a:Δ} {ns:List Int} {H:Hp} {Q:VK} (e:H a=some (.lst (ns.map V.int))) (hne:ns≠[]) (h:∀ m∈ns,(∀ n∈ns,if mx=true then n<=m else m<=n)->Q (.int m) H):rf K mx [.ref a] H Q:=⟨a,ns,rfl,SqL.of e,hne,h⟩
end L2
namespace NR
noncomputable def DX (n m:Nat) (F:Int×Int->Int):Int:=sm n fun x=>sm m fun y=>F ((x:Int),(y:Int))
end NR
namespace Sm
end Sm
namespace L2
open PySem PySem.Spec PyProof.Rows PySem.W
end L2
namespace Sm
theorem mX {α:Type} [DecidableEq α] {c:α->Bool} {le:α->α->Prop} {L L':List α} (n:L.Nodup) (n':L'.Nodup) (p:L.Pairwise le) (p':L'.Pairwise le) (as:∀ a∈L,∀ b∈L,le a b->le b a->a=b)
  (h:∀ e,c e=true->(e∈L↔e∈L')):L.filter c=L'.filter c:=by
 have pm:(L.filter c).Perm (L'.filter c):=by
  rw [LG (n.filter c) (n'.filter c)];intro e;rw [E7,E7];exact ⟨fun ⟨h1,h2⟩=>⟨(h e h2).mp h1,h2⟩,fun ⟨h1,h2⟩=>⟨(h e h2).mpr h1,h2⟩⟩
 exact pm.eq_of_pairwise (fun a b ha hb h1 h2=>as a (E7.mp ha |>.1) b (E7.mp (pm.mem_iff.mpr hb) |>.1) h1 h2) (p.filter c) (p'.filter c)
end Sm
namespace L2
open PySem PySem.Spec PyProof.Rows
end L2
namespace Sm
end Sm
namespace L2
open PySem PySem.Spec PyProof.Rows PySem.W
def tm:V->List V->Hp->VK->Prop:=fun x vs H Q=>∃ (l:Δ) (xs:List V) (ds:List Gp) (d:Gp) (y:V) (j:Nat) (dj:Gp),x=.ref l/\vs=[y]/\H l=some (.lst xs)/\RepL H ds xs/\Rep H d y/\Hi ds=true/\d.canLay0=true/\d.depth<=60 /\
 ds[j]?=some dj/\Gv dj d=true/\(∀ m dm,m<j->ds[m]?=some dm->Gv dm d=false)/\Q (.int (j:Nat)) H
theorem uw {X:Cx} (hu:X.A.units+64<Ho):MtM X "list.index" tm:=by
 intro pins s σ H x vs v us Q I rx rv h;obtain ⟨l,xs,ds,d,y,j,dj,rfl,rfl,hH,hr,hd,cl,cd,dd,hj,hit,hno,q⟩:=h
 cases rx;obtain ⟨u,rfl,ru⟩:=rv.one;obtain ⟨z,its,n,r,hl,e⟩:=I.lstM hH;obtain ⟨as,r1⟩:=RepL.reads I hr r;obtain ⟨bs,r2⟩:=hd.reads I ru;have em:=SeqAt.readsAll_map ds _ _ cl r1;have at':∀ (m:Nat) (hm:m<its.toArray.size),ds[m]?=some (SeqAt.readOf s.heap its.toArray[m]):=fun m hm=>by
  rw [<- em,EU,ξ (by simpa using hm)];simp
 have hjl:j<its.toArray.size:=by
  have h1:=(Aw.mp hj).1;rw [<- em,Ξ] at h1
  simpa using h1
 have hz:its.length<=sizeLine:=by omega
 refine Kp F.slot_list_index ⟨_,e,rfl⟩ F.entry_list_index (F.args_list_index_2 _ _) (SeqAt.list_indexAt l its.toArray n none #[] u (fun y=>Gv (SeqAt.readOf s.heap y) d) j hjl ?_ ?_ ?_) ⟨e,SeqAt.items_eqAt (by simpa using r1) r2 cl cd ?_,⟨.int (j:Nat),H,I.tok _,⟨_,rfl⟩,q⟩⟩
 ·have h1:j<its.length:=by simpa using hjl
  rw [JV] at hz;omega
 ·have:=at' j hjl
  rw [hj] at this;rw [<- E4 this]; exact hit
 ·intro m hm hlt;exact hno m _ hlt (at' m hm)
 ·have:=Nat.min_le_right (Kg ds) d.depth
  omega
def vy (T:String) (v d:Δ) (h:E5):Prop:=∃ o,h.get? v=some o/\o.cls=.type T/\o.data=.fields #[.ref d]
noncomputable def gX (T:String) (v d:Δ):HO:=.ext (vy T v d)
theorem AE {P:D_} {w:Eh} {H:Hp} {h:E5} {T:String} {d:Δ}:aY P w H (h.push { cls:=.type T,data:=.fields #[.ref d] }) h.objs.size (gX T h.objs.size d) :=
 ⟨⟨_,D4 _ rfl,rfl,rfl⟩,⟨_,D4 _ rfl⟩,fun h1 h2 ⟨o,e,r⟩ k=>⟨o,k o e,r⟩⟩
def AX (T:String):V->List V->Hp->VK->Prop:=fun x xs H Q=>∃ d kvs,x=.ref d/\xs=[]/\H d=some (.dK kvs)/\∀ v,H v=none->Q (.ref v) (upd H v (gX T v d))
section
variable {X:Cx}
theorem wj:MtR X "dict.items" (AX "dict_items"):=by
 intro pins s σ H x xs v us Q I rx rs h;obtain ⟨d,kvs,rfl,rfl,hd,q⟩:=h
 cases (show v=EB d from rx)
 cases rs;obtain ⟨_,lo,vs,_,dd⟩:=sG I.hok hd;exact JD LC dd.typeIs PySem.F.entry_dict_items (PySem.F.args_dict_items_1 _) (meets_dict_items (a7 X.prog X.w) d lo)
  ⟨⟨vs,dd⟩,.ref s.heap.objs.size,_,I.laid (a:=s.heap.objs.size) (o:=gX "dict_items" s.heap.objs.size d) (t':=s.toks) (fun b u e=>χ _ e) (Av _) AE,rfl,q _ (I.hok.fresh (Av _))⟩
end
theorem v7 {κ:Type}:∀ {kvs:List (κ×V)} {vs:List (κ×ς)} {i:Nat} {k:κ} {u:ς},KV kvs vs->vs[i]?=some (k,u)->∃ x,kvs[i]?=some (k,x)/\aL x u
 | _,_,_,_,_,.nil,e=>by simp at e
 | _,_,0,k,u,.cons (a:=p) r t,e=>by
  (simp only [E3,FN] at e; subst e)
  exact ⟨p.2,congrArg some (GY r.1 rfl),r.2⟩
 | _,_,i+1,k,u,.cons r t,e=>by
  obtain ⟨x,h1,h2⟩:=v7 (i:=i) t (by simpa using e);exact ⟨x,by simpa using h1,h2⟩
theorem zq {P:D_} {w:Eh} {k:Key} {u:ς} (h:(a7 P w).is k u=true):aL (kV k) u:=by
 rcases bE (show jY k u=true from h) with ⟨i,t,rfl,rfl⟩ | ⟨x,t,rfl,rfl⟩
 ·exact ⟨t,rfl⟩
 ·exact ⟨t,rfl⟩
theorem yb {H:Hp} {Q:VK} {T:String} {d:Δ} {kvs:List (Key×V)} (hd:H d=some (.dK kvs)) (q:∀ v,H v=none->Q (.ref v) (upd H v (gX T v d))):AX T (.ref d) [] H Q:=⟨d,kvs,rfl,rfl,hd,q⟩
theorem Cb {K:W.Frag} {H:Hp} {d:Δ} {kvs:List (Key×V)} {q:Prop} (hd:H d=some (.dK kvs)) (hq:q):rBM K "dict" (.ref d) H q:=⟨.inr (.inr (.inl ⟨rfl,.inl ⟨kvs,hd⟩⟩)),hq⟩
def cQ (d:Δ) (es:Array LW) (ep:Nat) (h:E5):Prop:=∃ o,h.get? d=some o/\o.ExactDict/\o.data=.dict es ep
section
variable {prog:D_} {w:Eh} {A:Eg} {E:ς->Ω->Prop} {s:Ω} {d it:Δ} {es:Array LW} {ep i n:Nat}
theorem cQ.ty (r:cQ d es ep s.heap):s.TypeIs (.ref d) "dict":=let ⟨o,e,x,_⟩:=r; ⟨o,e,x.1⟩
theorem cQ.lt {h:E5} (r:cQ d es ep h):d<h.objs.size:=let ⟨_,e,_⟩:=r; D0 e
theorem cQ.mv {h h':E5} (r:cQ d es ep h) (k:∀ o,h.get? d=some o->h'.get? d=some o):cQ d es ep h':=let ⟨o,e,x⟩:=r; ⟨o,k o e,x⟩
theorem pZ {Q:ς->Ω->Prop} (lo:(d==Fe)=false) (r:cQ d es ep s.heap)
  (q:Q (.ref s.heap.objs.size) { s with heap:=s.heap.push { cls:=.type "dict_keyiterator",data:=.fields #[.ref d,.int 0 0,.int es.size 0,.int ep 0] } }):EA (EH prog w) A (pyIter (.ref d)) Q E s:=by
 obtain ⟨ob,eo,xo,dto⟩:=id r;refine wpAny_pyIter_slot r.ty F.slot_dict_iter (HY F.slot_dict_iter r.ty F.entry_dict_iter ?g1 (F.args_dict_iter_1 _))
 case g1 =>
  unfold Gw.«dict.__iter__» Builtin.Dict.dictSlotNone;have sh:JB d=pure ():=by unfold JB; rw [lo]; rfl
  refine θ (θ (IY r.ty (show EA _ _ (pure (EB d)) _ _ s from A_ (show EA _ _ (JB d >>= _) _ _ s from ?g2))))
  case g2 =>
   rw [sh];refine θ (A_ (θ (II eo dto (θ (Lj eo dto (θ (HU (A_ ⟨_,rfl,"dict_keyiterator",_,⟨_,D4 _ rfl,rfl⟩,Gd.lookup,?g3⟩))))))))
   case g3=>simpa [HQ] using q
theorem wO:Builtin.Dict_items.ownsTuple "dict_keyiterator"=false:=by decide
theorem pY {e:LW} {Q:Option ς->Ω->Prop} (hit:s.heap.IsKeyIter it d i es.size ep) (r:cQ d es ep s.heap) (hx:es[i]?=some e)
  (q:∀ h',h'.IsKeyIter it d (i+1) es.size ep->F2 it s.heap h'->Q (some e.key) { s with heap:=h' }):EA (EH prog w) A (Ja (.ref it)) Q E s:=by
 obtain ⟨oi,ei,ci,di⟩:=id hit;obtain ⟨ob,eo,xo,dto⟩:=id r;obtain ⟨hlt,hxe⟩:=LB.mp hx;have nn:¬ ((i:Int)<0):=Int.not_lt.mpr (Int.natCast_nonneg i)
 have hn:(s.heap.update it (Lm (·.setIfInBounds 1 (HQ ((i:Int)+1))))).IsKeyIter it d (i+1) es.size ep :=
  ⟨_,GF _ ei (Obj.isFreed_of_fields (Obj.data_mapFields di _)),(Obj.cls_mapFields ..).trans ci,(Obj.data_mapFields di _).trans (by simp [HQ])⟩
 unfold Ja;refine θ (Hl (MY (name:=Gf "__next__") hit.typeIs Gd (HY Gd hit.typeIs LJ ?g1 (K9 _))))
 case g1 =>
  refine θ (A_ (θ (θ (θ (HG hit.typeIs (A_ (θ (wpAny_fieldsOf ei di ?g2))))))))
  case g2 =>
   simp only [wO,FI,if_false]
   (show EA _ _ (if (EB d==GR)=true then _ else _) _ _ s; rw [show (EB d==GR)=false from rfl,if_neg Ei])
   refine θ (A_ (θ (II eo dto ?g3)))
   case g3 =>
    rw [if_neg (by simp)];refine θ (A_ (θ (Lj eo dto ?g4)))
    case g4 =>
     rw [if_neg (by simp)];refine A_ ?g5
     case g5 =>
      simp only [nn,if_false,FQ,hx];refine θ (θ (HG hit.typeIs (A_ (θ (wpAny_isOneOf_keyiter hit.typeIs (show EA _ _ (L8 (.ref it) 1 (HQ ((i:Int)+1)) >>= _) _ _ s from θ (wpAny_setField ei di (by simp) (θ (FW (θ (wpAny_isOneOf_keyiter hn.typeIs ?g6)))))))))))
      case g6 =>
       show EA _ _ (pure e.key) _ _ _
       exact A_ (A_ ⟨_,rfl,A_ (q _ hn (Gs ..))⟩)
theorem tw {Q:Option ς->Ω->Prop} (hh:A.handled=none) (hit:s.heap.IsKeyIter it d es.size es.size ep) (r:cQ d es ep s.heap)
  (q:∀ h',Heap.ExtBut it s.heap h'->Q none { s with heap:=h' }):EA (EH prog w) A (Ja (.ref it)) Q E s:=by
 obtain ⟨oi,ei,ci,di⟩:=id hit;obtain ⟨ob,eo,xo,dto⟩:=id r;have nn:¬ ((es.size:Int)<0):=Int.not_lt.mpr (Int.natCast_nonneg _);have hx:es[es.size]?=none:=Array.getElem?_eq_none (Av _);unfold Ja;refine θ (Hl (MY (name:=Gf "__next__") hit.typeIs Gd (HY Gd hit.typeIs LJ ?g1 (K9 _))))
 case g1 =>
  refine θ (A_ (θ (θ (θ (HG hit.typeIs (A_ (θ (wpAny_fieldsOf ei di ?g2))))))))
  case g2 =>
   simp only [wO,FI,if_false]
   (show EA _ _ (if (EB d==GR)=true then _ else _) _ _ s; rw [show (EB d==GR)=false from rfl,if_neg Ei])
   refine θ (A_ (θ (II eo dto ?g3)))
   case g3 =>
    rw [if_neg (by simp)];refine θ (A_ (θ (Lj eo dto ?g4)))
    case g4 =>
     rw [if_neg (by simp)];refine A_ ?g5
     case g5 =>
      simp only [nn,if_false,FQ,hx];refine θ (θ (HG hit.typeIs (A_ (show EA _ _ (L8 (.ref it) 0 .none >>= _) _ _ s from θ (wpAny_setField ei di (by simp) (show EA _ _ (newExc (.type "StopIteration") [] >>= _) _ _ _ from θ ?g6))))))
      case g6 =>
       simp only [newExc,newTuple];refine θ (HU (θ (m:=firstArgMember _ _) (wpAny_of_eq (a:=GR) (by first | rfl | (simp only [firstArgMember]; rfl)) (HU ?g7 (by size_fits)))) (by size_fits))
       case g7 =>
        simp only [raiseNew];refine θ (wpAny_handled ?g8)
        case g8 =>
         (rw [show A.in1.handled=none from hh]; refine θ (A_ (wpAny_throw ?g9)))
         case g9=>exact θ (LN (T:="StopIteration") (b:=true) ⟨_,D4 _ rfl,rfl⟩ isSubtype_stop (A_ (q _ (((Gs ..).extBut.push _).push _))))
theorem zP (lo:(d==Fe)=false):KdlSrc prog w "dict" d d es.size (fun i v=>∃ e,es[i]?=some e/\v=e.key) (cQ d es ep) where
 type:=fun _ r=>r.ty
 there:=fun _ r=>⟨r.lt,r.lt⟩
 keep:=fun _ _ r k=>r.mv fun o e=>k d (.inl rfl) o e
 notList:=by decide
 notTuple:=by decide
 hint:=fun _ _ _ _ r q=>kdl_hint_dict r.ty q
 iter:=fun A s hh r=>by
  have ne:d≠s.heap.objs.size:=D5 r.lt;refine ⟨_,fun i h=>h.IsKeyIter s.heap.objs.size d i es.size ep/\cQ d es ep h,fun E Q q=>pZ lo r q,⟨fun b hb=>by simp at hb; simp [hb],fun i h h' st k=>⟨st.1.at fun o e=>k _ (by simp) o e,st.2.mv fun o e=>k d (by simp) o e⟩,fun i s1 Q E hi st q=>?_,fun s1 Q E st q=>?_,fun i s1 Q E st q=>wpAny_pyIter_keyiter st.1 q⟩,⟨_,D4 _ rfl,rfl,rfl⟩,r.mv fun o e=>χ _ e⟩
  ·have hx:es[i]?=some es[i]:=LL hi;exact pY st.1 st.2 hx fun h' hit' sb=>q _ h' s1.toks ⟨_,hx,rfl⟩ ⟨hit',st.2.mv fun o e=>sb.extBut d o ne e⟩ fun b o hb e=>sb.extBut b o (fun z=>hb (by simp [z])) e
  ·exact tw hh st.1 st.2 fun h' eb=>q h' s1.toks fun b o hb e=>eb b o (fun z=>hb (by simp [z])) e
end
end L2
namespace Fm
noncomputable abbrev jL:=List L2.Key
noncomputable abbrev Tie:=jL×jL×Int
inductive Con (F:List Tie):jL->jL->Prop
 | refl (a:jL):Con F a a
 | fwd {a b c:jL} {w:Int}:Con F a b->(b,c,w)∈F->Con F a c
 | bwd {a b c:jL} {w:Int}:Con F a b->(c,b,w)∈F->Con F a c
end Fm
namespace L2
open PySem PySem.Spec PyProof.Rows PySem.W
def AR (x y:V) (H:Hp) (Q:VK):Prop:=∃ a v,x=.ref a/\fz H a y (some v)/\Q v H
theorem zU {td ty:TE} {σ:St} {H:Hp} {Q:VK} (h:td σ H fun x H1=>ty σ H1 fun y H2=>AR x y H2 Q):Bb td ty σ H Q:=h
theorem xK {H:Hp} {Q:VK} {a b:Δ} {kvs:List (List Key×V)} {k:List Key} {v:V} (hd:H a=some (.dT kvs)) (hb:H b=some (.tup (k.map kV))) (e:aT kvs k=some v) (q:Q v H):AR (.ref a) (.ref b) H Q :=
 ⟨a,v,rfl,e ▸ fz.t hd hb,q⟩
theorem xN {σ:St} {H:Hp} {Q:VK} (h:∀ p,H p=none->Q (.ref p) (upd H p (.dK []))):yJ σ H Q:=h
def zL (x:V) (H:Hp) (q:Δ->Prop):Prop:=∃ a,x=.ref a/\IsD H a/\q a
theorem zZ {H:Hp} {a:Δ} {kvs:List (List Key×V)} {q:Δ->Prop} (h:H a=some (.dT kvs)) (k:q a):zL (.ref a) H q:=⟨a,rfl,.inr ⟨kvs,.inl h⟩,k⟩
theorem zY {H:Hp} {a:Δ} {kvs:List (Key×V)} {q:Δ->Prop} (h:H a=some (.dK kvs)) (k:q a):zL (.ref a) H q:=⟨a,rfl,.inl ⟨kvs,.inl h⟩,k⟩
theorem xI {td ty tx:TE} {σ:St} {H:Hp} {Q:VK} (h:td σ H fun x H1=>zL x H1 fun a=>ty σ H1 fun y H2=>tx σ H2 fun z H3=>∃ o,fz H3 a y o/\Q (o.getD z) H3):yI td ty tx σ H Q:=h
noncomputable def sx (i:Int):List Key:=[.inr "x",.inl i]
noncomputable def sy (i:Int):List Key:=[.inr "y",.inl i]
theorem qr {κ:Type} [DecidableEq κ] {kvs:List (κ×V)} {k:κ}:(aT kvs k).isSome=true↔k∈kvs.map (·.1):=by
 rw [<- dU,List.any_eq_true];constructor
 ·rintro ⟨p,hp,e⟩; exact EJ.mpr ⟨p,hp,of_decide_eq_true e⟩
 ·intro h;obtain ⟨p,hp,e⟩:=EJ.mp h;exact ⟨p,hp,decide_eq_true e⟩
def gA (S:List Δ) (H H':Hp):Prop:=∀ b o,H b=some o->b∉S->H' b=some o
theorem gA.refl (S:List Δ) (H:Hp):gA S H H:=fun _ _ e _=>e
theorem aj.butL {H H':Hp} (s:aj H H') (S:List Δ):gA S H H':=fun b o e _=>s b o e
theorem gA.trans {S:List Δ} {H H1 H2:Hp} (a:gA S H H1) (b:gA S H1 H2):gA S H H2:=fun c o e n=>b c o (a c o e n) n
theorem gA.upd {S:List Δ} {H H1:Hp} {p:Δ} {o:HO} (a:gA S H H1) (h:p∈S):gA S H (L2.upd H1 p o):=fun c o' e n=>by
 rw [ai (fun z=>n (by rw [z]; exact h))]; exact a c o' e n
end L2
namespace L2
open PySem PySem.Spec PyProof.Rows
end L2
namespace L2
open PySem PySem.Spec PyProof.Rows PySem.W
def yX (P:D_) (w:Eh) (d:Δ) (kvs:List (Key×V)) (vs:List (Key×ς)) (ep:Nat) (h:E5):Prop:=kvs.length<=D7/\(d==Fe)=false/\KV kvs vs/\h.DictAt (a7 P w) d vs ep
noncomputable def FzO (P:D_) (w:Eh) (d:Δ) (kvs:List (Key×V)) (vs:List (Key×ς)) (ep:Nat):HO:=.ext (yX P w d kvs vs ep)
def tR (P:D_) (w:Eh) (d:Δ) (kvs:List (Key×V)) (F:HO):Prop:=∃ vs ep,F=FzO P w d kvs vs ep
theorem tR.ext {P:D_} {w:Eh} {d:Δ} {kvs:List (Key×V)} {F:HO} (h:tR P w d kvs F):∃ φ,F=.ext φ:=let ⟨_,_,e⟩:=h; ⟨_,e⟩
section
variable {X:Cx} {pins:List (Δ×GN)} {σ:St} {H:Hp} {s:Ω} {d:Δ} {kvs:List (Key×V)} {vs:List (Key×ς)} {ep:Nat}
theorem Inv.freeze (I:Inv X pins σ H s) (hd:H d=some (.dK kvs)):∃ vs ep,Inv X pins σ (upd H d (FzO X.prog X.w d kvs vs ep)) s/\s.heap.DictAt (a7 X.prog X.w) d vs ep:=by
 obtain ⟨z,lo,vs,rel,dd⟩:=sG I.hok hd;obtain ⟨ep,at'⟩:=dd.dictAt;obtain ⟨o,es,ho,r⟩:=id at';exact ⟨vs,ep,I.write (e:=d) (t':=s.toks) (h':=s.heap) (by rw [hd]; trivial) (.inl rfl) (fun _ _ _ q=>q) ⟨o,ho⟩ ⟨⟨z,lo,rel,at'⟩,⟨o,ho⟩,fun h1 h2 ⟨a1,a2,a3,a4⟩ k=>⟨a1,a2,a3,a4.at' k⟩⟩,at'⟩
theorem Inv.thaw {F:HO} (I:Inv X pins σ H s) (hF:tR X.prog X.w d kvs F) (hd:H d=some F):Inv X pins σ (upd H d (.dK kvs)) s:=by
 obtain ⟨vs,ep,rfl⟩:=hF;obtain ⟨⟨z,lo,rel,at'⟩,⟨o,ho⟩,_⟩:=(show aY X.prog X.w H s.heap d (.ext (yX X.prog X.w d kvs vs ep)) from I.hok d _ hd)
 exact I.write (e:=d) (t':=s.toks) (h':=s.heap) (by rw [hd]; trivial) (.inl rfl) (fun _ _ _ q=>q) ⟨o,ho⟩ ⟨z,lo,vs,rel,at'.dictOf⟩
end
def CI (P:D_) (w:Eh) (H1 H2:Hp):Prop:=∃ d kvs F,tR P w d kvs F/\H1 d=some F/\H2=upd H1 d (.dK kvs)
def yR (P:D_) (w:Eh) (ts:TS):TS:=fun D σ H=>ts { D with nx:=fun σ1 H1=>∃ H2,CI P w H1 H2/\D.nx σ1 H2 } σ H
theorem zH {X:Cx} {st:Ie} {ts:TS} (h:PS X st ts):PS X st (yR X.prog X.w ts):=by
 intro pins s σ H D I q;refine E8 (h pins s σ H _ I q) (fun f s1 q1=>?_) fun _ _ z=>z
 cases f with
 | next =>
  obtain ⟨σ',H',I',H2,⟨d,kvs,F,hF,hd,rfl⟩,q2⟩:=q1;exact ⟨σ',_,I'.thaw hF hd,q2⟩
 | brk=>exact q1
 | cont=>exact q1
 | ret u=>exact q1
theorem x9 {P:D_} {w:Eh} {ts:TS} {D:cO} {σ:St} {H:Hp} (h:ts { D with nx:=fun σ1 H1=>∃ H2,CI P w H1 H2/\D.nx σ1 H2 } σ H):yR P w ts D σ H:=h
noncomputable def Iti (d:Δ) (F:HO) (kvs:List (Key×V)):It :=
 ⟨fun i H=>H d=some F/\i<kvs.length,fun i H x H'=>∃ b k v,kvs[i]?=some (k,v)/\x=.ref b/\H b=none/\H'=upd H b (.tup [kV k,v]),fun i H=>H d=some F/\kvs.length<=i⟩
theorem rT {P:D_} {w:Eh} {K:W.Frag} {elts:List FE} {kt:Nat} {pt:HV} (d it:Δ) (kvs:List (Key×V)) (vs:List (Key×ς)) (ep:Nat) :
    oF P w K (.Tuple elts kt pt) (Iti d (FzO P w d kvs vs ep) kvs) [it] it (fun i h=>∃ ok ov,IsItemIter h it d i vs.length ep ok ov) where
  mem:=by simp
  obj:=fun i h st b hb=>by
    have e:b=it:=by simpa using hb
    subst e;obtain ⟨ok,ov,e⟩:=st;exact ⟨_,e,fun v z=>by cases z⟩
  keep:=fun i h h' ⟨ok,ov,e⟩ k=>⟨ok,ov,k it (by simp) _ e⟩
  item:=by
    intro X hP hw hK hc i pins s σ H E I hf st hg;subst hP hw hK;obtain ⟨hd,hi⟩:=hg;obtain ⟨ok,ov,st⟩:=st;obtain ⟨⟨z,lo,rel,at'⟩,_,_⟩:=(show aY X.prog X.w H s.heap d (.ext (yX X.prog X.w d kvs vs ep)) from I.hok d _ hd)
    have hl:i<vs.length:=by rw [<- rel.length]; exact hi
    obtain ⟨⟨k,u⟩,hu⟩:∃ q,vs[i]?=some q:=⟨_,ξ hl⟩
    obtain ⟨x,hx,ru⟩:=v7 rel hu;have lti:it<s.heap.objs.size:=D0 st;refine wpAny_pyNext_items_item st at' hu fun key h' hkey ho hT hsz hk=>?_;refine ⟨_,rfl,wpAny_letOwnedTupleGo_items (s:={ s with heap:=h' }) ho fun h2 he2 hs=>?_⟩;have kk:∀ c o,c∉[it]->s.heap.get? c=some o->h2.get? c=some o:=fun c o hc e=>by
      rw [Ax] at hc;exact hs.extBut c o hc (hk c o hc e)
    have qT:=hs.extBut _ _ (FH (D5 lti)) hT;have I1:Inv X pins σ (upd H s.heap.objs.size (.tup [kV k,x])) { s with heap:=h2 }:=I.turnedL (t':=s.toks) (ch:=[it]) kk hf (fun c hc=>by
        rw [Ax] at hc;subst hc;exact ⟨_,he2⟩) (Av _) ⟨by show 2<=D7; decide,[key,u],.cons (zq hkey) (.cons ru .nil),_,qT,rfl,_,rfl⟩
    refine ⟨.ref s.heap.objs.size,_,I1,rfl,⟨_,k,x,hx,rfl,I.hok.fresh (Av _),rfl⟩,⟨_,_,he2⟩,fun c hc=>?_⟩;have ec:=Ax.mp hc;subst ec;rw [ai (D5 lti)];exact (hf c hc).1
  done:=by
    intro X hP hw hK hc i pins s σ H E I hf st hg;subst hP hw hK;obtain ⟨hd,hi⟩:=hg;obtain ⟨ok,ov,st⟩:=st;obtain ⟨⟨z,lo,rel,at'⟩,_,_⟩:=(show aY X.prog X.w H s.heap d (.ext (yX X.prog X.w d kvs vs ep)) from I.hok d _ hd)
    obtain ⟨f0,f1,f2,f3,f4,f5⟩:=hf it (by simp);exact wpAny_pyNext_items_end (I.ok.hd hc) st at' (FJ (by rw [<- rel.length]; exact hi)) fun h' eb=>⟨rfl,I.turned (t':=s.toks) (fun b o hb e=>eb b o hb e) f0 f1 f3 f4 f5⟩
  self:=fun _ _ _ _ _ ⟨_,_,st⟩ h=>kcp_self st h
def vV (P:D_) (w:Eh) (tl:TE):TI:=fun σ H R=>tl σ H fun x H1=>∃ v d kvs,x=.ref v/\H1 v=some (gX "dict_items" v d)/\H1 d=some (.dK kvs)/\∀ F,tR P w d kvs F->R (Iti d F kvs) (upd H1 d F)
theorem xg {X:Cx} {elts:List FE} {kt:Nat} {pt:HV} {l:FE} {tl:TE} (hl:PE X l tl):PI X (.Tuple elts kt pt) l (vV X.prog X.w tl):=by
 intro pins s σ H R I h;refine thn (hl pins s σ H _ I h) fun v s1 ⟨x,H1,I1,r1,q1⟩=>?_;obtain ⟨vw,d,kvs,e,hv,hd,q⟩:=q1;subst e
 cases r1;obtain ⟨vs,ep,I2,at'⟩:=I1.freeze hd;have vv:s1.heap.IsItemsView vw d:=(show aY X.prog X.w H1 s1.heap vw (.ext (vy "dict_items" vw d)) from I1.hok vw _ hv).1;refine wpAny_pyIter_items vv at' ?_;refine ⟨s1.heap.objs.size,[s1.heap.objs.size],_,_,_,rfl,I2.kept (t':=s1.toks) fun b o e=>χ _ e,rT d _ kvs vs ep,⟨_,_,D4 _ rfl⟩,fun b hb=>?_,q _ ⟨vs,ep,rfl⟩⟩;have e:b=s1.heap.objs.size:=by simpa using hb
 subst e;exact I2.fpOk (Av _) (I2.hok.fresh (Av _))
theorem uK {P:D_} {w:Eh} {tl:TE} {σ:St} {H:Hp} {R:It->Hp->Prop} (h:tl σ H fun x H1=>∃ v d kvs,x=.ref v/\H1 v=some (gX "dict_items" v d)/\H1 d=some (.dK kvs)/\∀ F,tR P w d kvs F->R (Iti d F kvs) (upd H1 d F)):vV P w tl σ H R:=h
theorem qI {σ:St} {H:Hp} {d:Δ} {F:HO} {kvs:List (Key×V)} {g:TG} {tb:TS} {D:cO} (Pv:Nat->St->Hp->Prop) (h0:Pv 0 σ H) (hl:∀ i σ H,i<=kvs.length->Pv i σ H->H d=some F)
  (hs:∀ i k v b σ H,kvs[i]?=some (k,v)->Pv i σ H->H b=none->g (.ref b) σ (upd H b (.tup [kV k,v])) fun σ2 H2=>tb { D with nx:=Pv (i+1),ct:=Pv (i+1),bk:=D.nx } σ2 H2) (hd:∀ σ H,Pv kvs.length σ H->D.nx σ H):tN (Iti d F kvs) g tb D σ H:=by
 refine ⟨fun i m σ H=>m=kvs.length - i/\i<=kvs.length/\Pv i σ H,⟨kvs.length,by simp,El _,h0⟩,?_⟩;rintro i m σ H ⟨rfl,hi,p⟩;have q:=hl i σ H hi p;by_cases hlt:i<kvs.length
 ·refine .inr ⟨⟨q,hlt⟩,Pv (i+1),fun σ' H' p'=>⟨kvs.length - (i+1),by omega,rfl,hlt,p'⟩,fun x H' y=>?_⟩;obtain ⟨b,k,v,hk,rfl,hb,rfl⟩:=y;exact hs i k v b σ _ hk p hb
 ·have e:i=kvs.length:=by omega
  subst e;exact .inl ⟨⟨q,Av _⟩,hd σ H p⟩
theorem nG {σ:St} {H:Hp} {ta:TA} {R:It->Hp->Prop} (h:ta σ H fun vs H1=>∃ i j:Int,vs=[.int i,.int j]/\(-(2 ^ 62)<=i/\i<2 ^ 62/\-(2 ^ 62)<=j/\j<2 ^ 62)/\R (Itr i (j - i).toNat) H1):AO ta σ H R:=h
end L2
namespace PySem
theorem gF {prog:D_} {w:Eh} {A:Eg} {E:ς->Ω->Prop} {s:Ω} {a:Δ} {o:GN} {xs:Array ς} {k:Nat} {name:Str} {Q:Option ς->Ω->Prop}
  (hx:s.heap.get? a=some o) (hc:o.cls=.type "list") (hdat:o.data=.seq xs k) (hd:o.dict=none) (hmiss:Jt (.type "list") name=pure none) (hname:(["__module__","__name__","__qualname__","__doc__","__annotations__"]:List Str).contains name=false) (hA:A.handled=none)
  (h:∀ h' tk,(∀ b ob,s.heap.get? b=some ob->h'.get? b=some ob)->Q none { s with heap:=h',toks:=tk }) (hsz:name.length+100<=sizeLine:=by size_fits) :
  EA (EH prog w) A (getAttr? (.ref a) name) Q E s:=by
 obtain ⟨c,dct,dat,sl⟩:=o;simp only at hc hdat hd
 subst hc hdat hd;obtain ⟨hp,g,d,tk,os⟩:=s;have hT:∀ tk',(⟨hp,g,d,tk',os⟩:Ω).TypeIs (.ref a) "list":=fun _=>⟨_,hx,rfl⟩
 have f1:=sub_AttributeError;have f3:=JT.lookup;have f4:=JT.bind (.ref a);have f5:=am_list_getattr_none;unfold getAttr? getAttrBy? getAttrBy
 repeat (any_goals (first | assumption | exact hT _ | ((with_reducible show EA _ _ (call (Value.builtin "list.__getattribute__") _ _) _ _ _); refine Kp JT (hT _) am_entry_list_getattribute (F.args_list_getattribute_2 _ _) (meets_getattribute_miss_list a xs k sl name _ hmiss hname hsz) ⟨hx,hA,fun h' tk' e hx'=>?_⟩) | wp_step))
 obtain ⟨t',u',he⟩:=hx'.there
 show EA _ _ (getattributeRaised _ _ _ _ _ _ _) _ _ _
 unfold getattributeRaised
 repeat (any_goals (first | assumption | wp_step))
 exact h _ _ hx'.keeps
end PySem
namespace PyProof.Rows
open PySem PySem.Spec
theorem lV:entryFor table "dict.update.loop"=some Gw.«dict.update.loop»:=entryFor_of_tree (by kernel_rfl)
theorem gc:plainId "dict.update.loop"=true:=by decide +kernel
end PyProof.Rows
namespace PySem
open PySem.Spec PyProof.Rows
section
variable {prog:D_} {w:Eh} {K:Type} [DecidableEq K] {knd:KeyKind prog w K} {A:Eg} {E:ς->Ω->Prop} {s:Ω}
theorem ui:Jt (.type "list") (Gf "keys")=pure none:=by rw [Lk,J6]; kernel_rfl
end
end PySem
namespace L2
open PySem PySem.Spec PyProof.Rows PySem.W
end L2
namespace L2
open PySem PySem.Spec PyProof.Rows
section
variable {K:W.Frag} {x qual:Str} {st:Ie} {f:Δ} {fd:FU}
theorem Fun.b1 {p0:Str} (F:Fun K x qual st f fd) (h:∀ (kV doc pm:ς) (an:Option Δ) (cdv ct a0:ς),IP (W.fnOf x qual (c9 st) (cj st) (ak st) .none kV doc pm an cdv ct) ⟨[a0],[]⟩=pure [(p0,a0)]):aI K fd [p0] [] :=
 F.binds fun kV doc pm an cdv ct us hl=>by obtain ⟨a0,rfl⟩:=DP hl; exact h kV doc pm an cdv ct a0
theorem Fun.b2 {p0 p1:Str} (F:Fun K x qual st f fd) (h:∀ (kV doc pm:ς) (an:Option Δ) (cdv ct a0 a1:ς),IP (W.fnOf x qual (c9 st) (cj st) (ak st) .none kV doc pm an cdv ct) ⟨[a0,a1],[]⟩=pure [(p0,a0),(p1,a1)]):aI K fd [p0,p1] [] :=
 F.binds fun kV doc pm an cdv ct us hl=>by obtain ⟨a0,a1,rfl⟩:=DQ hl; exact h kV doc pm an cdv ct a0 a1
theorem Fun.b3 {p0 p1 p2:Str} (F:Fun K x qual st f fd) (h:∀ (kV doc pm:ς) (an:Option Δ) (cdv ct a0 a1 a2:ς),IP (W.fnOf x qual (c9 st) (cj st) (ak st) .none kV doc pm an cdv ct) ⟨[a0,a1,a2],[]⟩=pure [(p0,a0),(p1,a1),(p2,a2)]):aI K fd [p0,p1,p2] [] :=
 F.binds fun kV doc pm an cdv ct us hl=>by obtain ⟨a0,a1,a2,rfl⟩:=DR hl; exact h kV doc pm an cdv ct a0 a1 a2
theorem Fun.b4 {p0 p1 p2 p3:Str} (F:Fun K x qual st f fd) (h:∀ (kV doc pm:ς) (an:Option Δ) (cdv ct a0 a1 a2 a3:ς),IP (W.fnOf x qual (c9 st) (cj st) (ak st) .none kV doc pm an cdv ct) ⟨[a0,a1,a2,a3],[]⟩=pure [(p0,a0),(p1,a1),(p2,a2),(p3,a3)]):aI K fd [p0,p1,p2,p3] [] :=
 F.binds fun kV doc pm an cdv ct us hl=>by obtain ⟨a0,a1,a2,a3,rfl⟩:=DT hl; exact h kV doc pm an cdv ct a0 a1 a2 a3
theorem Fun.b5 {p0 p1 p2 p3 p4:Str} (F:Fun K x qual st f fd) (h:∀ (kV doc pm:ς) (an:Option Δ) (cdv ct a0 a1 a2 a3 a4:ς),IP (W.fnOf x qual (c9 st) (cj st) (ak st) .none kV doc pm an cdv ct) ⟨[a0,a1,a2,a3,a4],[]⟩=pure [(p0,a0),(p1,a1),(p2,a2),(p3,a3),(p4,a4)]):aI K fd [p0,p1,p2,p3,p4] [] :=
 F.binds fun kV doc pm an cdv ct us hl=>by obtain ⟨a0,a1,a2,a3,a4,rfl⟩:=DU hl; exact h kV doc pm an cdv ct a0 a1 a2 a3 a4
theorem Fun.bl {p:Str} (F:Fun K x qual st f fd) (h:∀ (kV doc pm:ς) (an:Option Δ) (cdv ct a:ς),IP (W.fnOf x qual (c9 st) (cj st) (ak st) .none kV doc pm an cdv ct) ⟨[a],[]⟩=pure [(p,a)]) (s:Ω) (v:ς):L0 s fd ⟨[v],[]⟩ [(p,v)]:=by
 obtain ⟨_,_,kV,doc,pm,an,cdv,ct,_,rfl,_,_⟩:=F.ex;exact .of_eq (h kV doc pm an cdv ct v)
end
theorem aB.by {N P:List Str} {sc:Hq} (h1:sc.kind=.function:=by rfl) (h2:sc.isCoroutine=false:=by rfl) (h3:sc.isGenerator=false:=by rfl) (h4:N.Nodup:=by decide +kernel) (h5:N.take P.length=P:=by rfl) (h6:∀ x∈P,sc.names.lookup x=some .local\/sc.names.lookup x=some .cell:=by decide +kernel) (h7:∀ y∈sc.names,y.2≠.free:=by decide +kernel):aB N P sc:=⟨h1,h2,h3,h4,h5,h6,h7⟩
end L2
namespace L2
open PySem PySem.Spec PyProof.Rows PySem.W
section
variable {prog:D_} {w:Eh} {κ:Type} [DecidableEq κ] {knd:KeyKind prog w κ} {A:Eg} {E:ς->Ω->Prop} {s:Ω} {d:Δ} {kvs:List (κ×ς)} {k:κ} {key v:ς}
theorem Aq {Q:ς->Ω->Prop} (hkey:knd.is k key=true) (hm:s.heap.DictOf knd d kvs) (hz:kvs.length<=D7) (no:k∉kvs.map (·.1))
  (q:∀ h',h'.DictOf knd d (kvs++[(k,v)])->F2 d s.heap h'->Q v { s with heap:=h',toks:=s.toks+1 }):EA (EH prog w) A (IM d key v) Q E s:=by
 obtain ⟨o,es,ep,ho,hc,hd,hk,hp,hn⟩:=hm
 have se:es.size<=sizeLine:=by
  have:=hp.length
  rw [EC] at this;omega
 have nf:(es.findIdx? fun e=>knd.is k e.key)=none:=by
  have e1:(es.toList.findIdx? fun e=>knd.is k e.key)=kvs.findIdx? fun kv=>decide (kv.1=k):=hp.findIdx k;have e2:(es.findIdx? fun e=>knd.is k e.key)=es.toList.findIdx? fun e=>knd.is k e.key:=by obtain ⟨l⟩:=es; simp
  rw [e2,e1,List.findIdx?_eq_none_iff];intro kv hkv;exact decide_eq_false fun z=>no (EJ.mpr ⟨kv,hkv,z⟩)
 unfold IM
 (try with_reducible refine FW ?_)
 refine θ (knd.pyHash hkey (θ (wpAny_dictFind_of (s:={ s with toks:=s.toks+1 }) hkey ho hd hk ?_)));rw [nf];refine θ (GO (θ (wpAny_updateDictKeys (hz:=se) (s:={ s with toks:=s.toks+1 }) ho hd (A_ (q _ ⟨_,_,ep+1,GF _ ho (Ml (IX hd _)),hc.mapDictKeys _,IX hd _,hk.push hkey _,?_,?_⟩ (Gs ..))))))
 ·obtain ⟨l⟩:=es;simp only [List.push_toArray];exact hp.append hkey _ v
 ·rw [Ef,Ey];exact ⟨hn,by simp,fun x hx y hy z=>no (by rw [J9,Ax] at hy; rw [<- (show y=k from hy),<- z]; exact hx)⟩
theorem uV (hkey : knd.is k key = true) (hd : (d == Fe) = false) : MeetsIn prog w (Gw.«dict.setdefault» ⟨[.ref d, key, v], []⟩) (fun _ R s => ∃ kvs, s.heap.DictOf knd d kvs /\ kvs.length <= D7 /\
      (∀ u,JC kvs k=some u->R (.ok (.ret u)) { s with toks:=s.toks+1 }) /\
      (k∉kvs.map (·.1)->∀ h',h'.DictOf knd d (kvs++[(k,v)])->F2 d s.heap h'->R (.ok (.ret v)) { s with heap:=h',toks:=s.toks+1 })) :=
  .of_wp fun A R s ⟨kvs,hm,hz,h1,h2⟩=>by
    have ti:=hm.typeIs;unfold Gw.«dict.setdefault» KA
    (refine θ (θ (IY ti ?_)); show EA _ _ (pure (d,key,some v)) _ _ s; refine A_ ?_)
    (show EA _ _ (if (d==Fe)=true then _ else (IM d key v >>= _)) _ _ s; rw [if_neg (by rw [hd]; exact Ei)])
    by_cases hk:k∈kvs.map (·.1)
    · have hz':s.heap.DictLe d sizeLine:=by
        obtain ⟨o,es,ep,ho,_,hdd,_,hp,_⟩:=id hm;intro o' es' ep' ho' hd';rw [ho] at ho'
        cases ho';rw [hdd] at hd'
        cases hd';have:=hp.length
        rw [EC] at this;omega
      refine θ (wpAny_dictSetDefault_of (hz:=hz') hkey hm.mapOf (fun u hu=>A_ ⟨u,rfl,h1 u hu⟩) fun hn=>?_);exfalso
      unfold JC at hn;rw [Option.map_eq_none_iff,Mn] at hn;obtain ⟨kv,hkv,e⟩:=EJ.mp hk;exact hn kv hkv (decide_eq_true e)
    · exact θ (Aq hkey hm hz hk fun h' hm' hs'=>A_ ⟨v,rfl,h2 hk h' hm' hs'⟩)
end
theorem sQ {κ:Type} {k:κ} {z:V} {r:ς} (rz:aL z r):∀ {kvs:List (κ×V)} {vs:List (κ×ς)},KV kvs vs->KV (kvs++[(k,z)]) (vs++[(k,r)])
 | _,_,.nil=>.cons ⟨rfl,rz⟩ .nil
 | _,_,.cons a t=>.cons a (sQ rz t)
section
variable {X:Cx} {pins:List (Δ×GN)} {σ:St} {H:Hp} {s:Ω} {a:Δ} {z:V} {r u:ς} {A:Eg} {E:ς->Ω->Prop} {kvs:List (Key×V)} {k:Key}
theorem zf {Q:ς->Ω->Prop} (I:Inv X pins σ H s) (e:H a=some (.dK kvs)) (ry:aL (kV k) u) (hl:kvs.length<D7) (rz:aL z r)
    (h1:∀ v,aT kvs k=some v->∀ w' s',Inv X pins σ H s'->aL v w'->Q w' s') (h2:aT kvs k=none->∀ s',Inv X pins σ (upd H a (.dK (b7 kvs k z))) s'->Q r s') :
    EA (EH X.prog X.w) A (call (.builtin "dict.setdefault") [.ref a,u,r]) Q E s:=by
  obtain ⟨zl,hd,vs,rel,dd⟩:=sG I.hok e;have hl':(b7 kvs k z).length<=sizeLine:=by have:=cL kvs k z; omega
  have rv:=rel.val k;refine JD G7 dd.typeIs KP (KI _ _ _) (uV (knd:=a7 X.prog X.w) (l0 ry) hd)
    ⟨vs,dd,by rw [<- rel.length]; exact zl,fun p hp=>?_,fun hp h' dd' hs=>?_⟩
  · rw [hp] at rv
    cases hv:aT kvs k with
    | none=>rw [hv] at rv; exact absurd rv (by intro z; cases z)
    | some v =>
      rw [hv] at rv;exact h1 v hv _ _ (I.tok _) rv
  · have hv:aT kvs k=none:=by
      cases hv:aT kvs k with
      | none=>rfl
      | some v =>
        exfalso
        rw [hv] at rv
        cases hq:JC vs k with
        | none=>rw [hq] at rv; exact rv
        | some q =>
          unfold JC at hq;obtain ⟨kv,h3,_⟩:=G6.mp hq;have h4:=List.find?_some h3;exact hp (EJ.mpr ⟨kv,LU h3,of_decide_eq_true h4⟩)
    have he:∃ q,h'.get? a=some q:=let ⟨q,_,_,hq,_⟩:=dd'; ⟨q,hq⟩;have es:b7 kvs k z=kvs++[(k,z)]:=ko z hv;refine h2 hv _ (jo I (by rw [e]; exact Gk) hs he (vK hl' hd ?_ dd'));rw [es];exact sQ rz rel
end
def tH (td ty tx:TE):TE:=fun σ H Q=>td σ H fun x H1=>∃ a,x=.ref a/\IsD H1 a/\ty σ H1 fun y H2=>tx σ H2 fun z H3=>∃ kvs k,y=kV k/\H3 a=some (.dK kvs)/\kvs.length<D7 /\
 (∀ v,aT kvs k=some v->Q v H3)/\(aT kvs k=none->Q z (upd H3 a (.dK (b7 kvs k z))))
theorem uD {X:Cx} {o e f:FE} {apos cpos:HV} {td ty tx:TE} (ho:PE X o td) (he:PE X e ty) (hf:PE X f tx) (m:M2 X o "setdefault" apos e f cpos):PE X (.Call (.Attribute o "setdefault" apos) [e,f] [] cpos) (tH td ty tx):=by
 intro pins s σ H Q I h;refine Kz m.base m.few m.line HX G7 KZ (thn (ho pins s σ H _ I h) fun u s1 ⟨x,H1,I1,rx,a,ex,d,q1⟩=>?_);subst ex;obtain rfl:u=EB a:=rx
 obtain ⟨t1,t2,_⟩:=qO I1 d;refine ⟨t1,t2,?_⟩;rw [m.trees];refine G_ rfl (HK (Fj (thn (he pins s1 σ H1 _ I1 q1) fun iv s2 ⟨y,H2,I2,ry,q2⟩ =>
  Fj (thn (hf pins s2 σ H2 _ I2 q2) fun fv s3 ⟨z,H3,I3,rz,kvs,k,ey,e3,hl,k1,k2⟩=>GP ?_))))
 subst ey;exact zf I3 e3 ry hl rz (fun v hv w' s4 I4 rw'=>⟨v,H3,I4,rw',k1 v hv⟩) fun hv s4 I4=>⟨z,_,I4,rz,k2 hv⟩
theorem uJ {td ty tx:TE} {σ:St} {H:Hp} {Q:VK} (h:td σ H fun x H1=>zL x H1 fun a=>ty σ H1 fun y H2=>tx σ H2 fun z H3=>∃ kvs k,y=kV k/\H3 a=some (.dK kvs)/\kvs.length<D7 /\
 (∀ v,aT kvs k=some v->Q v H3)/\(aT kvs k=none->Q z (upd H3 a (.dK (b7 kvs k z))))):tH td ty tx σ H Q:=h
theorem tL {κ:Type} [DecidableEq κ]:∀ {kvs:List (κ×V)} {i:Nat} {k:κ} {v:V},(kvs.map (·.1)).Nodup->kvs[i]?=some (k,v)->aT kvs k=some v
 | [],i,k,v,_,h=>by simp at h
 | (k',v')::r,0,k,v,_,h=>by
  simp only [E3,FN,Jk] at h;obtain ⟨rfl,rfl⟩:=h;exact b9 rfl
 | (k',v')::r,i+1,k,v,nd,h=>by
  rw [EL,ER] at nd;have h:r[i]?=some (k,v):=by simpa using h
  rw [b8 (fun z=>nd.1 (by rw [z]; exact EJ.mpr ⟨_,EW h,rfl⟩))];exact tL nd.2 h
end L2
namespace Wn
noncomputable abbrev Pnt:=Int×Int
noncomputable def gt (M:List Pnt) (k:Nat):Pnt:=M.getD k (0,0)
noncomputable def pv (n k:Nat):Nat:=if k=0 then n - 1 else k - 1
noncomputable def vw (p q:Pnt):Option Pnt:=if p.1=q.1 then some (p.1,if q.2<p.2 then q.2 else p.2) else none
noncomputable def W (M:List Pnt):List Pnt:=(ED M.length).filterMap fun k=>vw (gt M (pv M.length k)) (gt M k)
noncomputable def rw (M:List Pnt) (y:Int):List Int:=((W M).filter fun p=>decide (p.2=y)).map (·.1)
noncomputable def ins (M:List Pnt) (q:Pnt):Bool:=decide (((rw M q.2).filter fun x=>decide (x<=q.1)).length%2=1)
def Adj (p q:Pnt):Prop:=(p.1=q.1/\(q.2=p.2+1\/p.2=q.2+1))\/(p.2=q.2/\(q.1=p.1+1\/p.1=q.1+1))
structure Cyc (M:List Pnt):Prop where
 nd:M.Nodup
 len:3<=M.length
 adj:∀ k,k<M.length->Adj (gt M (pv M.length k)) (gt M k)
theorem gt_eq {M:List Pnt} {k:Nat} {p:Pnt} (h:M[k]?=some p):gt M k=p:=by unfold gt; rw [Fb,h]; rfl
theorem gt_inj {M:List Pnt} (nd:M.Nodup) {i j:Nat} (hi:i<M.length) (hj:j<M.length) (h:gt M i=gt M j):i=j:=by
 rw [gt_eq (ξ hi),gt_eq (ξ hj)] at h;exact (JQ nd).mp h
theorem pv_lt {n k:Nat} (h:k<n):pv n k<n:=by unfold pv; split<;>omega
theorem oz {p q:Pnt} {x y:Int} (a:Adj p q) (h:vw p q=some (x,y)):(p=(x,y)/\q=(x,y+1))\/(p=(x,y+1)/\q=(x,y)):=by
 unfold vw at h;obtain ⟨p1,p2⟩:=p;obtain ⟨q1,q2⟩:=q;unfold Adj at a;dsimp only at a h;by_cases e:p1=q1
 ·rw [if_pos e] at h;simp only [FN,Jk] at h;obtain ⟨h1,h2⟩:=h;simp only [Jk];by_cases c:q2<p2
  ·rw [if_pos c] at h2; omega
  ·rw [if_neg c] at h2; omega
 ·rw [if_neg e] at h; cases h
theorem Cyc.wnd {M:List Pnt} (c:Cyc M):(W M).Nodup:=by
 unfold W LH;rw [List.pairwise_filterMap];refine KN (R:=fun a b=>a<b) (fun {i j} hi hj hij=>?_) JW;rw [Et] at hi hj;rintro ⟨x,y⟩ h1 ⟨x',y'⟩ h2 e
 cases e;have li:=pv_lt hi;have lj:=pv_lt hj;have l3:=c.len;have di:pv M.length i=if i=0 then M.length - 1 else i - 1:=rfl
 have dj:pv M.length j=if j=0 then M.length - 1 else j - 1:=rfl
 rcases oz (c.adj i hi) h1 with ⟨a1,a2⟩ | ⟨a1,a2⟩<;>rcases oz (c.adj j hj) h2 with ⟨b1,b2⟩ | ⟨b1,b2⟩
 ·have:=gt_inj c.nd hi hj (a2.trans b2.symm); omega
 ·have e1:=gt_inj c.nd li hj (a1.trans b2.symm);have e2:=gt_inj c.nd hi lj (a2.trans b1.symm);rw [di] at e1; rw [dj] at e2
  split at e1<;>split at e2<;>omega
 ·have e1:=gt_inj c.nd li hj (a1.trans b2.symm);have e2:=gt_inj c.nd hi lj (a2.trans b1.symm);rw [di] at e1; rw [dj] at e2
  split at e1<;>split at e2<;>omega
 ·have:=gt_inj c.nd hi hj (a2.trans b2.symm); omega
theorem Cyc.rnd {M:List Pnt} (c:Cyc M) (y:Int):(rw M y).Nodup:=by
 unfold rw LH;rw [Fd];refine KN (R:=fun a b=>a≠b) (fun {a b} ha hb h e=>h ?_) (GB _ c.wnd);have h1:=of_decide_eq_true (E7.mp ha).2;have h2:=of_decide_eq_true (E7.mp hb).2;exact GY e (h1.trans h2.symm)
theorem zv (f:Nat->Bool) (m:Nat):((ED m).filter fun k=>f k != f (k+1)).length%2=if f 0=f m then 0 else 1:=by
 induction m with
 | zero=>rw [if_pos rfl]; rfl
 | succ m ih =>
  rw [Fw,HC,DZ]
  cases h0:f 0<;>cases h1:f m<;>cases h2:f (m+1)<;>simp only [h0,h1,h2,Em,List.filter_nil,bne_self_eq_false,Bool.true_bne,Bool.false_bne,J8,Bool.not_false] at ih ⊢<;>simp at ih ⊢<;>omega
theorem cyc_par (f:Nat->Bool) {n:Nat} (hn:1<=n):((ED n).filter fun k=>f (pv n k) != f k).length%2=0:=by
 obtain ⟨m,rfl⟩:∃ m,n=m+1:=⟨n - 1,by omega⟩
 have h:=zv f m;rw [List.range_succ_eq_map,Em,List.filter_map,<- Ξ (f:=id)]
 have e:((ED m).filter ((fun k=>f (pv (m+1) k) != f k)∘Nat.succ))=(ED m).filter fun k=>f k != f (k+1):=by
  refine KS fun k _=>?_
  show (f (pv (m+1) (k+1)) != f (k+1))=_
  have:pv (m+1) (k+1)=k:=by unfold pv; rw [if_neg (by omega)]; omega
  rw [this]
 have e0:pv (m+1) 0=m:=by unfold pv; rw [if_pos rfl]; omega
 rw [e,e0];by_cases c:f 0=f m
 ·rw [if_pos c] at h;rw [if_neg (by rw [c]; simp)];simp only [MK,Ξ];exact h
 ·rw [if_neg c] at h;rw [if_pos (by rw [bne_iff_ne]; exact fun z=>c z.symm)];simp only [MK,Ξ,C_];omega
theorem fm_len {α β:Type} (g:α->Option β) (p:β->Bool):∀ l:List α,((l.filterMap g).filter p).length=(l.filter fun k=>(g k).any p).length
 | []=>rfl
 | a::l=>by
  have ih:=fm_len g p l;rw [G2,Em]
  cases h:g a with
  | none => simp only [Kl]; exact ih
  | some b =>
   simp only [Kh];rw [Em];by_cases hp:p b=true
   ·rw [if_pos hp,if_pos hp,C_,C_,ih]
   ·rw [if_neg hp,if_neg hp,ih]
theorem Cyc.even {M:List Pnt} (c:Cyc M) (y:Int):(rw M y).length%2=0:=by
 unfold rw W;rw [Ξ,fm_len];have h:=cyc_par (fun k=>decide ((gt M k).2<=y)) (n:=M.length) (by have:=c.len; omega);rw [<- h]
 congr 2
 refine KS fun k hk=>?_;rw [Et] at hk;have a:=c.adj k hk;generalize gt M (pv M.length k)=p at a;generalize gt M k=q at a;obtain ⟨p1,p2⟩:=p;obtain ⟨q1,q2⟩:=q;unfold Adj at a;unfold vw;dsimp only at a ⊢;by_cases e:p1=q1
 ·rw [if_pos e,Kh,GU,bne_iff_ne,decide_eq_true_eq,ne_eq,decide_eq_decide];dsimp only;by_cases d:q2<p2
  ·rw [if_pos d]; omega
  ·rw [if_neg d]; omega
 ·rw [if_neg e,Kl];have:p2=q2:=by omega
  rw [this]; simp
noncomputable def ft:List Int->Int->Bool
 | a::b::t,x=>(decide (a<=x)&&decide (x<b))||ft t x
 | _,_=>false
theorem jN {x:Int}:∀ {l:List Int},(∀ z∈l,x<z)->(l.filter fun z=>decide (z<=x)).length=0
 | [],_=>rfl
 | a::l,h=>by
  rw [Em,if_neg (by rw [decide_eq_true_eq]; have:=h a Θ; omega)];exact jN fun z hz=>h z (Au _ hz)
theorem kT:∀ {ms:List Int},ms.Pairwise (·<·)->ms.length%2=0->∀ x,ft ms x=decide ((ms.filter fun z=>decide (z<=x)).length%2=1)
 | [],_,_,x=>rfl
 | [a],_,h,x=>by simp at h
 | a::b::t,h,hl,x=>by
  rw [E6,E6] at h;obtain ⟨h1,h2,h3⟩:=h;have ih:=kT h3 (by rw [C_,C_] at hl; omega) x;have hab:=h1 b Θ;unfold ft;rw [ih,Em,Em];by_cases c1:a<=x
  ·rw [if_pos (decide_eq_true c1)];by_cases c2:b<=x
   ·rw [if_pos (decide_eq_true c2),decide_eq_false (show ¬ x<b by omega),Hw,JJ,C_,C_];exact decide_eq_decide.mpr (by omega)
   ·rw [if_neg (by rw [decide_eq_true_eq]; exact c2),decide_eq_true c1,decide_eq_true (show x<b by omega),C_,jN fun z hz=>by have:=h2 z hz; omega];rfl
  ·rw [if_neg (by rw [decide_eq_true_eq]; exact c1),if_neg (by rw [decide_eq_true_eq]; omega),decide_eq_false c1,Js,JJ]
noncomputable def span (a b:Int) (y:Int):List Pnt:=(ED (b - a).toNat).map fun i=>(a+((i:Nat):Int),y)
noncomputable def cl (y:Int):List Int->List Pnt
 | a::b::t=>span a b y++cl y t
 | _=>[]
theorem pH {a b y:Int} {q:Pnt}:q∈span a b y↔q.2=y/\a<=q.1/\q.1<b:=by
 unfold span;rw [EJ];constructor
 ·rintro ⟨i,hi,rfl⟩;rw [Et] at hi;exact ⟨rfl,by show a<=a+_; omega,by show a+((i:Nat):Int)<b; omega⟩
 ·rintro ⟨h1,h2,h3⟩;exact ⟨(q.1 - a).toNat,Et.mpr (by omega),GY (by show a+(((q.1 - a).toNat:Nat):Int)=q.1; omega) h1.symm⟩
theorem qU {y:Int} {q:Pnt}:∀ {ms:List Int},q∈cl y ms↔q.2=y/\ft ms q.1=true
 | []=>by simp [cl,ft]
 | [a]=>by simp [cl,ft]
 | a::b::t=>by
  unfold cl ft;rw [EE,pH,qU (ms:=t),HZ,Eu,decide_eq_true_eq,decide_eq_true_eq];constructor
  ·rintro (⟨h1,h2⟩ | ⟨h1,h2⟩)
   ·exact ⟨h1,.inl h2⟩
   ·exact ⟨h1,.inr h2⟩
  ·rintro ⟨h1,h2 | h2⟩
   ·exact .inl ⟨h1,h2⟩
   ·exact .inr ⟨h1,h2⟩
theorem mH {x:Int}:∀ {ms:List Int} {a:Int},(∀ z∈ms,a<z)->ft ms x=true->a<x
 | [],_,_,h=>by cases h
 | [_],_,_,h=>by cases h
 | b::c::t,a,h,hw=>by
  unfold ft at hw;rw [HZ,Eu,decide_eq_true_eq,decide_eq_true_eq] at hw;rcases hw with ⟨h1,_⟩ | h1
  ·have:=h b Θ; omega
  ·exact mH (fun z hz=>h z (Au _ (Au _ hz))) h1
theorem Ay (a b y:Int):(span a b y).Nodup:=by
 unfold span LH;rw [Fd];refine IW (fun {i j} (h:i<j) e=>?_) JW;have:a+((i:Nat):Int)=a+((j:Nat):Int):=congrArg Jl e
 omega
theorem cl_nd (y:Int):∀ {ms:List Int},ms.Pairwise (·<·)->(cl y ms).Nodup
 | [],_=>F0
 | [_],_=>F0
 | a::b::t,h=>by
  rw [E6,E6] at h;unfold cl;rw [Ey];refine ⟨Ay a b y,cl_nd y h.2.2,fun p hp q hq e=>?_⟩;subst e;have h1:=pH.mp hp;have h2:=mH h.2.1 (qU.mp hq).2;omega
theorem cl_take (y:Int):∀ (j:Nat) {ms:List Int} {a b:Int},ms[2*j]?=some a->ms[2*j+1]?=some b->cl y (ms.take (2*(j+1)))=cl y (ms.take (2*j))++span a b y
 | 0,c::d::t,a,b,h1,h2=>by
  simp only [Nat.mul_zero,E3,FN,ME,FL] at h1 h2;subst h1 h2
  show span c d y++cl y (t.take 0)=[]++span c d y
  simp [cl]
 | 0,[c],a,b,h1,h2=>by simp at h2
 | 0,[],a,b,h1,h2=>by simp at h1
 | j+1,c::d::t,a,b,h1,h2=>by
  have e1:2*(j+1)=2*j+1+1:=by omega
  rw [e1,FL,FL] at h1;rw [show 2*(j+1)+1=2*j+1+1+1 by omega,FL,FL] at h2;have ih:=cl_take y j h1 h2;rw [show 2*(j+1+1)=2*(j+1)+1+1 by omega,GZ,GZ,e1,GZ,GZ]
  show span c d y++cl y (t.take (2*(j+1)))=(span c d y++cl y (t.take (2*j)))++span a b y
  rw [ih,EF]
 | j+1,[c],a,b,h1,h2=>by simp at h1
 | j+1,[],a,b,h1,h2=>by simp at h1
theorem cl_pre (y:Int):∀ (j:Nat) (ms:List Int),∃ r,cl y ms=cl y (ms.take (2*j))++r
 | 0,ms=>⟨cl y ms,by simp [cl]⟩
 | j+1,[]=>⟨[],by simp [cl]⟩
 | j+1,[a]=>⟨[],by rw [show 2*(j+1)=2*j+1+1 by omega]; simp [cl]⟩
 | j+1,a::b::t=>by
  obtain ⟨r,e⟩:=cl_pre y j t;refine ⟨r,?_⟩;rw [show 2*(j+1)=2*j+1+1 by omega,GZ,GZ]
  show span a b y++cl y t=(span a b y++cl y (t.take (2*j)))++r
  rw [e,EF]
theorem Cyc.row {M:List Pnt} (c:Cyc M) {y:Int} {ms:List Int} (pm:ms.Perm (rw M y)) (pw:ms.Pairwise (·<=·)):ms.Pairwise (·<·)/\ms.length%2=0/\∀ q:Pnt,q∈cl y ms↔q.2=y/\ins M q=true:=by
 have nd:ms.Nodup:=pm.nodup_iff.mpr (c.rnd y)
 have lt:ms.Pairwise (·<·):=by
  have:=List.pairwise_and_iff.mpr ⟨pw,nd⟩
  exact IW (fun {a b} (h:a<=b/\a≠b)=>by omega) this
 have ev:ms.length%2=0:=by rw [pm.length_eq]; exact c.even y
 refine ⟨lt,ev,fun q=>?_⟩;rw [qU];refine and_congr_right fun e=>?_;rw [kT lt ev];unfold ins;rw [e,(pm.filter _).length_eq]
noncomputable def Wk (M:List Pnt) (k:Nat):List Pnt:=(ED k).filterMap fun k=>vw (gt M (pv M.length k)) (gt M k)
noncomputable def rwk (M:List Pnt) (k:Nat) (y:Int):List Int:=((Wk M k).filter fun p=>decide (p.2=y)).map (·.1)
theorem Wk_all (M:List Pnt):Wk M M.length=W M:=rfl
theorem rwk_all (M:List Pnt):rwk M M.length=rw M:=rfl
theorem Wk_none {M:List Pnt} {k:Nat} (h:vw (gt M (pv M.length k)) (gt M k)=none):Wk M (k+1)=Wk M k:=by
 unfold Wk;rw [Fw,Je];simp [h]
theorem Wk_some {M:List Pnt} {k:Nat} {q:Pnt} (h:vw (gt M (pv M.length k)) (gt M k)=some q):Wk M (k+1)=Wk M k++[q]:=by
 unfold Wk;rw [Fw,Je];simp [h]
theorem rwk_none {M:List Pnt} {k:Nat} (h:vw (gt M (pv M.length k)) (gt M k)=none):rwk M (k+1)=rwk M k:=by
 funext y; unfold rwk; rw [Wk_none h]
theorem rwk_some {M:List Pnt} {k:Nat} {x y:Int} (h:vw (gt M (pv M.length k)) (gt M k)=some (x,y)):rwk M (k+1)=fun z=>if z=y then rwk M k z++[x] else rwk M k z:=by
 funext z
 unfold rwk;rw [Wk_some h,HC,Ef,Em];by_cases e:z=y
 ·rw [if_pos e,if_pos (by subst e; exact decide_eq_true rfl)]; rfl
 ·rw [if_neg e,if_neg (by rw [decide_eq_true_eq]; exact fun q=>e q.symm)]; simp
theorem Wk_len (M:List Pnt) (k:Nat):(Wk M k).length<=k:=by
 unfold Wk;exact Ew (List.length_filterMap_le _ _) (by rw [Eo]; exact Av _)
theorem rwk_len (M:List Pnt) (k:Nat) (y:Int):(rwk M k y).length<=k:=by
 unfold rwk;rw [Ξ];exact Ew (Gq _ _) (Wk_len M k)
theorem Cyc.ends {M:List Pnt} (c:Cyc M) {x y:Int} (h:(x,y)∈W M):(x,y)∈M/\(x,y+1)∈M:=by
 unfold W at h;obtain ⟨k,hk,e⟩:=Hg.mp h;rw [Et] at hk;have m:∀ {i:Nat},i<M.length->gt M i∈M:=fun {i} hi=>by rw [gt_eq (ξ hi)]; exact Er hi
 have m1:=m hk;have m2:=m (pv_lt hk);rcases oz (c.adj k hk) e with ⟨a,b⟩ | ⟨a,b⟩
 ·rw [a] at m2; rw [b] at m1; exact ⟨m2,m1⟩
 ·rw [a] at m2; rw [b] at m1; exact ⟨m1,m2⟩
theorem mem_rw {M:List Pnt} {x y:Int}:x∈rw M y↔(x,y)∈W M:=by
 unfold rw;rw [EJ];constructor
 ·rintro ⟨p,hp,rfl⟩;rw [E7,decide_eq_true_eq] at hp;obtain ⟨h1,rfl⟩:=hp;exact h1
 ·intro h;exact ⟨(x,y),E7.mpr ⟨h,decide_eq_true rfl⟩,rfl⟩
theorem tW {x:Int} (l:List Int):(l.filter fun z=>decide (z<=x)).length+(l.filter fun z=>decide (x<z)).length=l.length:=by
 induction l with
 | nil=>rfl
 | cons a l ih =>
  rw [Em,Em,C_];by_cases h:a<=x
  ·rw [if_pos (decide_eq_true h),if_neg (by rw [decide_eq_true_eq]; omega),C_]; omega
  ·rw [if_neg (by rw [decide_eq_true_eq]; exact h),if_pos (decide_eq_true (by omega)),C_]; omega
theorem Cyc.between {M:List Pnt} (c:Cyc M) {q:Pnt} (h:ins M q=true):∃ a b,(a,q.2)∈W M/\(b,q.2)∈W M/\a<=q.1/\q.1<b:=by
 unfold ins at h;have h:=of_decide_eq_true h;have e:=c.even q.2;have sp:=tW (x:=q.1) (rw M q.2);obtain ⟨a,ha⟩:=Ku (l:=(rw M q.2).filter fun z=>decide (z<=q.1)) (by omega);obtain ⟨b,hb⟩:=Ku (l:=(rw M q.2).filter fun z=>decide (q.1<z)) (by omega);rw [E7,decide_eq_true_eq] at ha hb;exact ⟨a,b,mem_rw.mp ha.1,mem_rw.mp hb.1,ha.2,hb.2⟩
theorem vH {l:List Int} (nd:l.Nodup) (x:Int):(l.filter fun z=>decide (z<=x)).length=(l.filter fun z=>decide (z<=x - 1)).length+if x∈l then 1 else 0:=by
 induction l with
 | nil=>rfl
 | cons a l ih =>
  rw [ER] at nd;have ih:=ih nd.2;rw [Em,Em];by_cases e:a=x
  ·subst e;rw [if_neg nd.1] at ih;rw [if_pos (decide_eq_true (Int.le_refl a)),if_neg (by rw [decide_eq_true_eq]; omega),if_pos Θ,C_];omega
  ·have m:(x∈a::l)↔x∈l:=⟨fun h=>(B_.mp h).resolve_left fun z=>e z.symm,Au _⟩
   have e2:(if x∈a::l then 1 else 0)=(if x∈l then 1 else 0):=by
    by_cases hm:x∈l
    ·rw [if_pos hm,if_pos (m.mpr hm)]
    ·rw [if_neg hm,if_neg fun z=>hm (m.mp z)]
   rw [e2];by_cases h:a<=x - 1
   ·rw [if_pos (decide_eq_true (show a<=x by omega)),if_pos (decide_eq_true h),C_,C_]; omega
   ·rw [if_neg (by rw [decide_eq_true_eq]; omega),if_neg (by rw [decide_eq_true_eq]; exact h)]; exact ih
theorem Cyc.step {M:List Pnt} (c:Cyc M) (x y:Int):ins M (x,y)=(ins M (x - 1,y) != decide ((x,y)∈W M)):=by
 unfold ins;dsimp only;rw [vH (c.rnd y) x];by_cases h:x∈rw M y
 ·rw [if_pos h,decide_eq_true (mem_rw.mp h)];generalize ((rw M y).filter fun z=>decide (z<=x - 1)).length=n;by_cases z:n%2=1
  ·rw [decide_eq_true z,decide_eq_false (by omega)]; rfl
  ·rw [decide_eq_false z,decide_eq_true (by omega)]; rfl
 ·rw [if_neg h,decide_eq_false (fun z=>h (mem_rw.mpr z)),Kd];simp
theorem Cyc.left {M:List Pnt} (c:Cyc M) {a y:Int} (h:∀ p∈M,a<=p.1):ins M (a - 1,y)=false:=by
 unfold ins;dsimp only;rw [jN fun z hz=>by have:=h _ (c.ends (mem_rw.mp hz)).1; dsimp only at this; omega];rfl
noncomputable def rowc (M:List Pnt) (y a:Int) (n:Nat):List Pnt:=((ED n).map fun i=>(a+((i:Nat):Int),y)).filter (ins M)
theorem rowc_succ (M:List Pnt) (y a:Int) (n:Nat):rowc M y a (n+1)=rowc M y a n++if ins M (a+((n:Nat):Int),y)=true then [(a+((n:Nat):Int),y)] else []:=by
 unfold rowc;rw [Fw,Ef,HC]
 congr 1
 rw [J9,Em];rfl
theorem mem_rowc {M:List Pnt} {y a:Int} {n:Nat} {q:Pnt}:q∈rowc M y a n↔q.2=y/\a<=q.1/\q.1<a+((n:Nat):Int)/\ins M q=true:=by
 unfold rowc;rw [E7,EJ];constructor
 ·rintro ⟨⟨i,hi,rfl⟩,h⟩;rw [Et] at hi;exact ⟨rfl,by show a<=a+_; omega,by show a+_<_; omega,h⟩
 ·rintro ⟨h1,h2,h3,h4⟩;exact ⟨⟨(q.1 - a).toNat,Et.mpr (by omega),GY (by show a+(((q.1 - a).toNat:Nat):Int)=q.1; omega) h1.symm⟩,h4⟩
theorem rowc_nd (M:List Pnt) (y a:Int) (n:Nat):(rowc M y a n).Nodup:=by
 unfold rowc;refine GB _ ?_;rw [Fd];refine IW (fun {i j} (h:i<j) e=>?_) JW;have:a+((i:Nat):Int)=a+((j:Nat):Int):=congrArg Jl e
 omega
noncomputable def patc (M:List Pnt) (b a:Int) (w h:Nat):List Pnt:=(ED h).flatMap fun j=>rowc M (b+((j:Nat):Int)) a w
theorem patc_succ (M:List Pnt) (b a:Int) (w h:Nat):patc M b a w (h+1)=patc M b a w h++rowc M (b+((h:Nat):Int)) a w:=by
 unfold patc;rw [Fw,MT];simp
theorem mem_patc {M:List Pnt} {b a:Int} {w h:Nat} {q:Pnt}:q∈patc M b a w h↔(b<=q.2/\q.2<b+((h:Nat):Int))/\(a<=q.1/\q.1<a+((w:Nat):Int))/\ins M q=true:=by
 unfold patc;rw [IF];constructor
 ·rintro ⟨j,hj,h⟩;rw [Et] at hj;rw [mem_rowc] at h;exact ⟨⟨by omega,by omega⟩,⟨h.2.1,h.2.2.1⟩,h.2.2.2⟩
 ·rintro ⟨⟨h1,h2⟩,⟨h3,h4⟩,h5⟩;exact ⟨(q.2 - b).toNat,Et.mpr (by omega),mem_rowc.mpr ⟨by omega,h3,h4,h5⟩⟩
theorem patc_nd (M:List Pnt) (b a:Int) (w:Nat):∀ h,(patc M b a w h).Nodup
 | 0=>F0
 | h+1=>by
  rw [patc_succ,Ey];refine ⟨patc_nd M b a w h,rowc_nd _ _ _ _,fun p hp q hq e=>?_⟩;subst e;have h1:=mem_patc.mp hp;have h2:=mem_rowc.mp hq;omega
theorem Cyc.box {M:List Pnt} (c:Cyc M) {x0 x1 y0 y1:Int} (h:∀ p∈M,(x0<=p.1/\p.1<=x1)/\y0<=p.2/\p.2<=y1) {q:Pnt} (hq:ins M q=true):(x0<=q.1/\q.1<x1)/\y0<=q.2/\q.2<y1:=by
 obtain ⟨a,b,ha,hb,h1,h2⟩:=c.between hq;have e1:=h _ (c.ends ha).1;have e2:=h _ (c.ends ha).2;have e3:=h _ (c.ends hb).1;dsimp only at e1 e2 e3;omega
theorem nodup_few {l:List Pnt} (nd:l.Nodup) {n:Nat} (h:∀ q∈l,(0<=q.1/\q.1<(n:Nat))/\0<=q.2/\q.2<(n:Nat)):l.length<=n*n:=by
 have key:∀ (a b:List Pnt),a.Nodup->(∀ x∈a,x∈b)->a.length<=b.length:=by
  intro a
  induction a with
  | nil => intro b _ _; exact El _
  | cons x a ih =>
   intro b hn hs;rw [ER] at hn;have hx:=hs x Θ;have:=ih (b.erase x) hn.2 fun y hy=>(MJ (show y≠x from fun e=>hn.1 (by rw [<- e]; exact hy))).mpr (hs y (Au _ hy))
   rw [Lc hx] at this;have:=JX hx
   rw [C_];omega
 have:=key l ((ED n).flatMap fun i=>(ED n).map fun j=>(((i:Nat):Int),((j:Nat):Int))) nd fun q hq=>by
  obtain ⟨⟨a,b⟩,c,d⟩:=h q hq;exact IF.mpr ⟨q.1.toNat,Et.mpr (by omega),EJ.mpr ⟨q.2.toNat,Et.mpr (by omega),GY (by show ((q.1.toNat:Nat):Int)=q.1; omega) (by show ((q.2.toNat:Nat):Int)=q.2; omega)⟩⟩
 refine Ew this ?_;rw [List.length_flatMap];simp only [Ξ,Eo,List.map_const',List.sum_replicate_nat];exact Av _
theorem Cyc.wknd {M:List Pnt} (c:Cyc M) {k:Nat} (h:k<=M.length):(Wk M k).Nodup:=by
 have e:W M=Wk M k++((Jo k (M.length - k)).filterMap fun k=>vw (gt M (pv M.length k)) (gt M k)):=by
  unfold W Wk
  have er:Jo 0 k++Jo k (M.length - k)=Jo 0 M.length:=by
   have h0:=List.range'_append (s:=0) (m:=k) (n:=M.length - k) (step:=1);rw [show k+(M.length - k)=M.length by omega] at h0
   simpa using h0
  rw [<- Je,Jm,Jm,er]
 have:=c.wnd
 rw [e] at this;exact (Ey.mp this).1
theorem Cyc.fresh {M:List Pnt} (c:Cyc M) {k:Nat} (h:k<M.length) {q:Pnt} (e:vw (gt M (pv M.length k)) (gt M k)=some q):q∉Wk M k:=fun z=>by
 have:=c.wknd (k:=k+1) (by omega)
 rw [Wk_some e,Ey] at this;exact this.2.2 q z q (by simp) rfl
end Wn
namespace L2
open PySem PySem.Spec PyProof.Rows PySem.W
noncomputable def k2 (p:Int×Int):List Key:=[.inl p.1,.inl p.2]
noncomputable def ptG (H:Hp):V->Int×Int
 | .ref b=>match H b with
  | some (.tup [.int x, .int y]) => (x, y)
  | _ => (0, 0)
 | _=>(0,0)
theorem B3 {H:Hp} {b:Δ} {p:Int×Int} (h:H b=some (.tup [.int p.1,.int p.2])):ptG H (.ref b)=p:=by simp only [ptG,h]
def xC:List V->Hp->VK->Prop:=fun xs H Q=>∃ (d:Δ) (kvs:List (List Key×V)) (ps:List (Int×Int)),xs=[.ref d]/\H d=some (.dT kvs)/\kvs.map (·.1)=ps.map k2 /\
 ∀ (l:Δ) (ys:List V) (g:V->Int×Int),H l=none->(∀ v∈ys,PtV H v (g v))->(ys.map g).Perm ps->ys.Pairwise (fun x y=>Ts.ple (g x) (g y))->Q (.ref l) (upd H l (.lst ys))
theorem kN {h:E5} {a:Δ} {vs:List ς} {out:Array ς} (ho:h.get? a=some (Eb "list" vs.toArray 0)):∃ n,(JM h a vs out).get? a=some { cls:=.type "list",data:=.seq out n }:=by
 unfold JM;have h2:=F5 ho (fun _=>#[]);have h3:=χ (Eb "list" #[] 0) (χ (Eb "tuple" vs.toArray 0) h2);exact ⟨_,F5 h3 (fun _=>out)⟩
theorem qC {X:Cx} (hc:X.calm=true):bM X (.builtin "sorted") xC:=by
  intro pins s σ H xs us Q I r h;obtain ⟨d,kvs,ps,rfl,hd,hks,q⟩:=h;obtain ⟨u,rfl,rx⟩:=jj r
  cases rx;obtain ⟨z,lo,zs,rel,o,es,ep,eo,xo,dto,he,nd⟩:=I.hok d _ hd;have sz:es.size=kvs.length:=by rw [<- EC,he,Ξ,<- Paired.length rel]
  refine LK LZ K1 K4 (args_sorted1 _) ?_;unfold Gw.«sorted»;refine θ (m:=L_ "sorted" 1 1 _) (A_ ?_);refine θ (kdu_collect (zP (es:=es) (ep:=ep) lo) (I.ok.hd hc) ⟨o,eo,xo,dto⟩ (by rw [sz]; exact z) fun h1 tk acc kp it=>?_);have la:acc.toList.length=zs.length:=by rw [EC,it.1,<- EC,he,Ξ]
  have ea:acc.toList=(zs.map fun x=>EB x.2.1):=GS fun i=>by
    cases hv:acc.toList[i]? with
    | none =>
      rw [LV] at hv;rw [FJ (by rw [Ξ]; omega)]
    | some v =>
      obtain ⟨en,h1,h2⟩:=it.2 i v (by rw [<- Ex]; exact hv);rw [<- Ex,he,EU] at h1;obtain ⟨x,h3,rfl⟩:=G6.mp h1;rw [EU,h3,h2]; rfl
  rw [ea];have hz':(zs.map fun x=>EB x.2.1).length<=sizeLine:=by rw [Ξ,<- Paired.length rel]; exact z
  -- each key is a pair
  have gx:∀ x∈zs,∃ p:Int×Int,x.1=k2 p/\H x.2.1=some (.tup [.int p.1,.int p.2]):=by
    have key:∀ {kvs:List (List Key×V)} {zs:List (List Key×Δ×ς)} {ps:List (Int×Int)},Paired (fun (p:List Key×V) (q:List Key×Δ×ς)=>p.1=q.1/\H q.2.1=some (.tup (p.1.map kV))/\aL p.2 q.2.2) kvs zs->kvs.map (·.1)=ps.map k2->∀ x∈zs,∃ p:Int×Int,x.1=k2 p/\H x.2.1=some (.tup [.int p.1,.int p.2]):=by
      intro kvs zs ps rel
      induction rel generalizing ps with
      | nil=>intro _ x hx; cases hx
      | cons r t ih =>
        intro e x hx
        cases ps with
        | nil=>simp at e
        | cons p ps =>
          rw [EL,EL] at e;injection e with e1 e2;rcases B_.mp hx with rfl | hx
          · refine ⟨p,r.1.symm.trans e1,?_⟩
            have:=r.2.1
            rw [e1] at this;exact this
          · exact ih e2 x hx
    exact key rel hks
  obtain ⟨g,hg0⟩:∃ g,g=ptG H:=⟨_,rfl⟩
  have gd:∀ {b:Δ} {p:Int×Int},H b=some (.tup [.int p.1,.int p.2])->g (.ref b)=p:=fun {b p} hb=>by rw [hg0]; exact B3 hb
  have hmem:∀ u∈(zs.map fun x=>EB x.2.1),∃ (b:Δ) (p:Int×Int),u=.ref b/\H b=some (.tup [.int p.1,.int p.2]):=fun u hu=>by
    obtain ⟨x,hx,rfl⟩:=EJ.mp hu;obtain ⟨p,_,hp⟩:=gx x hx;exact ⟨_,p,rfl,hp⟩
  have I1:Inv X pins σ H { s with heap:=h1,toks:=tk }:=I.kept kp;have hlt:∀ {b:Δ} {p:Int×Int},H b=some (.tup [.int p.1,.int p.2])->b<h1.objs.size/\Ts.bV h1 (.ref b) p:=fun {b p} hb=>by
    obtain ⟨_,its2,r2,o,ho,hc,n,hd⟩:=I1.hok _ _ hb;refine ⟨D0 ho,?_⟩
    cases r2 with
    | cons q1 r2 =>
    obtain ⟨t1,rfl⟩:=q1
    cases r2 with
    | cons q2 r2 =>
    obtain ⟨t2,rfl⟩:=q2
    cases r2;exact ⟨b,o,t1,t2,n,rfl,ho,hc,hd⟩
  have pmz:((zs.map fun x=>EB x.2.1).map fun u=>g (toV u))=ps:=by
    have key:∀ {kvs:List (List Key×V)} {zs:List (List Key×Δ×ς)} {ps:List (Int×Int)},Paired (fun (p:List Key×V) (q:List Key×Δ×ς)=>p.1=q.1/\H q.2.1=some (.tup (p.1.map kV))/\aL p.2 q.2.2) kvs zs->kvs.map (·.1)=ps.map k2->((zs.map fun x=>EB x.2.1).map fun u=>g (toV u))=ps:=by
      intro kvs zs ps rel
      induction rel generalizing ps with
      | nil=>intro e; cases ps with | nil=>rfl | cons p ps=>simp at e
      | cons r t ih =>
        intro e
        cases ps with
        | nil=>simp at e
        | cons p ps =>
          rw [EL,EL] at e;injection e with e1 e2;rw [EL,EL,ih e2];have:=r.2.1
          rw [e1] at this;rw [show g (toV (EB _))=p from gd this]
    exact key rel hks
  generalize (zs.map fun x=>EB x.2.1)=its at hz' hmem pmz;refine θ (Hj ?_ hz');have hoL:(h1.push (Eb "list" its.toArray 0)).get? h1.objs.size=some (Eb "list" its.toArray 0):=D4 _ rfl;have keep:∀ b o,h1.get? b=some o->(h1.push (Eb "list" its.toArray 0)).get? b=some o:=fun b o q=>χ _ q
  have srt:Ts.oE X.prog X.w { s with heap:=h1.push (Eb "list" its.toArray 0),toks:=tk } h1.objs.size its (K0 true) (fun x=>x∈(IK its).toList) (fun x y=>Ts.plt (g (toV x.1)) (g (toV y.1))) :=
    Ts.ji (g:=fun u=>g (toV u)) fun u hu=>by
      obtain ⟨b,p,rfl,hb⟩:=hmem u hu;obtain ⟨h3,b',o,t1,t2,n,e,h4,h5,h6⟩:=hlt hb
      cases e;rw [show g (toV (EB b))=p from gd hb];exact ⟨⟨b,o,t1,t2,n,rfl,keep _ _ h4,h5,h6⟩,fun e=>by injection e with e; rw [e] at h3; exact absurd h3 (Fo _)⟩
  show EA _ _ _ _ _ { s with heap:=h1.push (Eb "list" its.toArray 0),toks:=tk }
  refine θ (FW (HY KD ⟨_,hoL,rfl⟩ J0 (Ts.qj (s:={ s with heap:=h1.push (Eb "list" its.toArray 0),toks:=tk }) (Ts.j0 fun u=>g (toV u)) hoL hz' srt (fun x hx=>hx) fun out hperm hs=>⟨_,rfl,?_⟩) (args_list_sort _)));refine A_ ⟨_,rfl,?_⟩;have hperm':out.toList.Perm (its.zip its):=by rw [<- IJ]; exact FZ.mp hperm
  have hmo:∀ p∈out.toList,p.1=p.2/\p.1∈its:=fun p hp'=>IL (hperm'.mem_iff.mp hp');have e2:(out.map (·.2)).toList=out.toList.map (·.1):=by rw [IE]; exact Ga fun p hp'=>(hmo p hp').1.symm
  have pm:(out.toList.map (·.1)).Perm its:=by
    have:=hperm'.map Jl
    rw [Km (Av _)] at this;exact this
  have hn:H h1.objs.size=none:=I1.hok.fresh (Av _);have refs:∀ u∈out.toList.map (·.1),∃ b,u=EB b:=fun u hu=>let ⟨b,_,e,_⟩:=hmem u (pm.mem_iff.mp hu); ⟨b,e⟩;have q':=q h1.objs.size ((out.toList.map (·.1)).map toV) g hn (fun v hv=>by
      obtain ⟨u,hu,rfl⟩:=EJ.mp hv;obtain ⟨b,p,rfl,hb⟩:=hmem u (pm.mem_iff.mp hu);exact ⟨b,rfl,by rw [show g (toV (EB b))=p from gd hb]; exact hb⟩) (by
      rw [Ez];have:=pm.map fun u=>g (toV u)
      rw [pmz] at this;exact this) (by
      rw [Ez,Fd];exact hs.imp fun {x y} hxy=>Ts.dO.mp hxy)
  have hnew:=kN (out:=out.map (·.2)) hoL;have kall:∀ b o,h1.get? b=some o->(JM (h1.push (Eb "list" its.toArray 0)) h1.objs.size its (out.map (·.2))).get? b=some o:=fun b o e=>by
    have hl:=D0 e;unfold JM;rw [Gb _ _ _ _ (D5 hl)];refine χ _ (χ _ ?_);rw [Gb _ _ _ _ (D5 hl)];exact keep _ _ e
  obtain ⟨n,hnew⟩:=hnew;refine ⟨.ref h1.objs.size,_,I1.laid (t':=tk) (o:=.lst ((out.toList.map (·.1)).map toV)) kall (Av _) ?_,rfl,q'⟩;refine ⟨by rw [Ξ,pm.length_eq]; exact hz',out.toList.map (·.1),n,gm refs,?_⟩;rw [hnew,<- e2,HL]
theorem xY {H:Hp} {Q:VK} {d:Δ} {kvs:List (List Key×V)} {ps:List (Int×Int)} (hd:H d=some (.dT kvs)) (e:kvs.map (·.1)=ps.map k2)
  (q:∀ (l:Δ) (ys:List V) (g:V->Int×Int),H l=none->(∀ v∈ys,PtV H v (g v))->(ys.map g).Perm ps->ys.Pairwise (fun x y=>Ts.ple (g x) (g y))->Q (.ref l) (upd H l (.lst ys))):xC [.ref d] H Q:=⟨d,kvs,ps,rfl,hd,e,q⟩
end L2
namespace PyProof.Rows
open PySem PySem.Spec
section
variable {prog:D_} {w:Eh} {A:Eg} {R:Kq->Ω->Prop} {I:Δ} {fp wr:List Δ} {G:Array K7->Array K7->Prop} {n:Nat} {P:Nat->ς->Prop} {St:Nat->Ω->Prop} {K:Type} [DecidableEq K] {kd:PySem.HeapKind prog w K}
noncomputable def gv (ks:Nat->K) (as:Nat->Δ) (xs:Nat->ς) (i:Nat):List (K×Δ×ς):=(ED i).map fun j=>(ks j,as j,xs j)
theorem oG {ks:Nat->K} {as:Nat->Δ} {xs:Nat->ς} {i:Nat} {x:K×Δ×ς} (h:x∈gv ks as xs i):∃ j,j<i/\x=(ks j,as j,xs j):=by
 obtain ⟨j,hj,e⟩:=EJ.mp h;exact ⟨j,Et.mp hj,e.symm⟩
theorem dX (W:WalksS prog w A.in1 I fp wr G n P St) (D:Δ) (hDf:D∉fp) (h0:E5) (ks:Nat->K) (as:Nat->Δ) (xs:Nat->ς) (hu:kd.room A.in1)
  (hP:∀ i v,P i v->∃ T o m,v=.ref T/\h0.get? T=some o/\o.cls=.type "tuple"/\o.data=.seq #[.ref (as i),xs i] m/\T∉D::wr)
  (hK:∀ i,i<n->∀ h:E5,(∀ b o,b∉D::wr->h0.get? b=some o->h.get? b=some o)->kd.is h (ks i) (as i)) (hn:∀ i j,i<n->j<n->ks i=ks j->i=j) (hz:n<=D7) :
  ∀ (k i:Nat) (j:Int) (tj:Tok) (s:Ω),n - i=k->i<=n->St i s->(∀ b o,b∉D::wr->h0.get? b=some o->s.heap.get? b=some o)->s.heap.DictOfH kd D (gv ks as xs i) ->
   (∀ s',Moved (D::wr) G s s'->s'.heap.DictOfH kd D (gv ks as xs n)->R (.ok (.ret .none)) s') ->
   HA (EH prog w) A (.builtin "dict.update.loop" ⟨[.ref D,.ref I,.int j tj,.none],[]⟩) R s:=by
 have hDw:D∉wr:=fun h=>hDf (W.sub _ h);have hsub:∀ b∈wr,b∈D::wr:=fun b hb=>Au _ hb;have mv:∀ {i:Nat} {s s':Ω},i<=n->s.heap.DictOfH kd D (gv ks as xs i)->Moved wr G s s'->(∀ b o,b∉D::wr->h0.get? b=some o->s.heap.get? b=some o)->s'.heap.DictOfH kd D (gv ks as xs i):=fun {i s s'} hi hS hm hh0=>by
  obtain ⟨o,es,ep,ho,h1,h2,h3,_,h5⟩:=hS;refine ⟨o,es,ep,hm.heap D _ hDw ho,h1,h2,h3,fun x hx=>?_,h5⟩;obtain ⟨j,hj,rfl⟩:=oG hx;exact hK j (by omega) _ fun b o hb e=>hm.heap b _ (fun z=>hb (hsub _ z)) (hh0 b o hb e)
 intro k
 induction k with
 | zero =>
  intro i j tj s hk hi hst hh0 hS hR;have hin:i=n:=by omega
  subst hin;refine Gz lV ?_;rw [GJ gc _]
  show EA _ A.in1 (Ja (.ref I) >>= _) _ _ s
  refine θ (W.done s _ _ hst fun s' hm=>?_);refine θ (A_ ?_)
  show EA _ A.in1 (ret GR) _ _ s'
  exact A_ (hR s' (hm.mono hsub) (mv (Av _) hS hm hh0))
 | succ k ih =>
  intro i j tj s hk hi hst hh0 hS hR;have hlt:i<n:=by omega
  refine Gz lV ?_;rw [GJ gc _]
  show EA _ A.in1 (Ja (.ref I) >>= _) _ _ s
  refine θ (W.item i s _ _ hlt hst fun v s' hPv hst' hm=>?_);obtain ⟨T,o,m,rfl,hT0,hTc,hTd,hTn⟩:=hP i v hPv;have hTw:T∉wr:=fun z=>hTn (hsub _ z);have hT':s'.heap.get? T=some o:=hm.heap T _ hTw (hh0 _ _ hTn hT0);have hh1:∀ b o,b∉D::wr->h0.get? b=some o->s'.heap.get? b=some o:=fun b o hb e=>hm.heap b _ (fun z=>hb (hsub _ z)) (hh0 b o hb e);have hS':=mv hi hS hm hh0;have hTy:s'.TypeIs (.ref T) "tuple":=⟨_,hT',hTc⟩
  show EA _ A.in1 (Jv [EB T] _ >>= _) _ _ s'
  refine θ (FW ?_);refine θ (JK ?_);unfold Builtin.Dict.pairItems;refine θ (wpAny_typeOf hTy ?_);rw [if_pos (by decide)];refine θ (JL hT' hTd ?_);refine A_ ?_
  show EA _ A.in1 (Jv [.ref (as i),xs i] (dictSet D (.ref (as i)) (xs i))) _ _ s'
  refine FW ?_;have hno:J1 (gv ks as xs i) (ks i)=none:=atKey_none_of_get fun j p e=>by
   obtain ⟨j',hj',e'⟩:=oG (EW e);injection e' with e1 e2;have:=hn i j' hlt (by omega) e1
   omega
  refine wpAny_dictSet_heap hu (hK i hlt _ hh1) hS' (fun h' hd' hsb=>?_) (by unfold gv; rw [Ξ,Eo]; omega);rw [storedH_new hno,show gv ks as xs i++[(ks i,as i,xs i)]=gv ks as xs (i+1) by unfold gv; rw [Fw,Ef]; rfl] at hd';refine A_ ⟨HN gc _,ih (i+1) _ _ _ (by omega) hlt (W.frame _ s' _ _ hst' (Fp _ _) fun b hb o e=>?_) (fun b o hb e=>?_) hd' fun s'' hm'' hS''=>?_⟩
  ·rw [hsb.2 b (fun h:b=D=>hDf (by rw [<- h]; exact hb))]; exact e
  ·rw [hsb.2 b (fun h:b=D=>hb (by rw [h]; exact Θ))];exact hh1 b o hb e
  ·refine hR s'' (Moved.trans W.gtrans ((hm.mono hsub).then_heap (Fp _ _) fun b o hb e=>?_) hm'') hS'';rw [hsb.2 b (fun h:b=D=>hb (by rw [h]; exact Θ))]; exact e
end
end PyProof.Rows
namespace PySem
open PySem.Spec PyProof.Rows
section
variable {prog:D_} {w:Eh} {K:Type} [DecidableEq K] {kd:HeapKind prog w K} {A:Eg} {E:ς->Ω->Prop} {s:Ω}
theorem iQ {l:Δ} {items:Array ς} {nl:Nat} {ks:Nat->K} {as:Nat->Δ} {xs:Nat->ς} {Q:ς->Ω->Prop} (hh:A.handled=none) (hu:kd.room A.in1.in1) (hl:s.heap.get? l=some { cls:=.type "list",data:=.seq items nl })
  (hP:∀ (i:Nat) v,items[i]?=some v->∃ T o m,v=.ref T/\s.heap.get? T=some o/\o.cls=.type "tuple"/\o.data=.seq #[.ref (as i),xs i] m)
  (hK:∀ i,i<items.size->∀ h:E5,(∀ b o,s.heap.get? b=some o->h.get? b=some o)->kd.is h (ks i) (as i)) (hn:∀ i j,i<items.size->j<items.size->ks i=ks j->i=j) (hz:items.size<=D7)
  (h:∀ h' tk,h'.DictOfH kd s.heap.objs.size (gv ks as xs items.size)->(∀ b o,s.heap.get? b=some o->h'.get? b=some o)->Q (.ref s.heap.objs.size) { s with heap:=h',toks:=tk }) :
  EA (EH prog w) A (call (.type "dict") [.ref l]) Q E s:=by
 refine callType_codes (Q₁:=fun obj s₁=>obj=.ref s.heap.objs.size/\s₁={ s with heap:=s.heap.push { cls:=.type "dict",data:=.dict #[] } }) F.kt_called_dict (F.kt_typeCall_dict_1 _) F.entry_dict_init (kt_code_dict_new _ ⟨rfl,rfl⟩) ?_;rintro obj s₁ ⟨rfl,rfl⟩;have hnew:(s.heap.push { cls:=.type "dict",data:=.dict #[] }).DictOf (intKind prog w) s.heap.objs.size []:=Ly s.heap;have hl1:(s.heap.push { cls:=.type "dict",data:=.dict #[] }).get? l=some { cls:=.type "list",data:=.seq items nl }:=χ _ hl;have lt:l<s.heap.objs.size:=D0 hl;refine ⟨hnew.typeIs,F.args_dict_init_2 _ _,?_⟩;unfold Gw.«dict.__init__»;refine θ ?_;unfold Builtin.Dict.selfAndRest;refine θ (IY hnew.typeIs ?_)
 show EA _ _ (pure (s.heap.objs.size,[EB l])) _ _ _
 refine A_ ?_
 show EA _ _ (Ke "dict.__init__" s.heap.objs.size (.ref l) [] .none) _ _ _
 unfold Ke;refine θ (wpAny_typeOf (T:="list") ⟨_,hl1,rfl⟩ ?_);rw [if_pos (by decide)];have hh2:A.in1.in1.handled=none:=by simp [hh]
 refine θ (gF (name:=Gf "keys") hl1 rfl rfl rfl ui (by decide +kernel) hh2 fun h2 tk2 kp2=>?_);rw [if_pos (show (none:Option ς).isNone=true from rfl)];refine θ (GO ?_);have hl2:=kp2 _ _ hl1;have sz2:s.heap.objs.size<h2.objs.size:=D0 (kp2 _ _ (D4 _ rfl));have ltl:l<h2.objs.size:=D0 hl2;refine θ (JU (s:={ s with heap:=h2,toks:=tk2 }) ⟨_,hl2,rfl,nl,rfl⟩ ?_);have kp3:∀ b o,s.heap.get? b=some o->(h2.push { cls:=.type "list_iterator",data:=.fields #[.ref l,.int 0 0] }).get? b=some o:=fun b o e=>χ _ (kp2 _ _ (χ _ e));have nD:∀ b o,s.heap.get? b=some o->b∉s.heap.objs.size::[h2.objs.size]:=fun b o e z=>by
  have:=D0 e
  simp only [B_,Ek,or_false] at z;rcases z with z | z
  ·rw [z] at this; exact absurd this (Fo _)
  ·rw [z] at this; exact absurd (Nat.lt_trans this sz2) (Fo _)
 refine A_ ⟨HN gc _,?_⟩;refine dX (kd:=kd) ((K6 hh2 h2.objs.size l (D5 ltl) items).toS) s.heap.objs.size (by simp only [B_,Ek,or_false,not_or]; exact ⟨D5 sz2,Kc lt⟩) s.heap ks as xs hu (fun i v hv=>?_) (fun i hi h' hk=>hK i hi h' fun b o e=>hk b o (nD b o e) e) hn hz (items.size - 0) 0 _ _ _ rfl (El _) ⟨⟨_,D4 _ rfl,rfl,rfl⟩,⟨_,χ _ hl2,rfl,nl,rfl⟩⟩ (fun b o _ e=>kp3 b o e) ?_ fun s' hm hS'=>?_
 ·obtain ⟨T,o,m,e,hT,hc,hd⟩:=hP i v hv;exact ⟨T,o,m,e,hT,hc,hd,nD _ _ hT⟩
 ·obtain ⟨o,es,ep,ho,h1,h2,_⟩:=hnew;have ho':=ho;rw [D4 _ rfl] at ho'
  cases ho'
  cases h2;exact ⟨_,_,_,χ _ (kp2 _ _ ho),h1,rfl,rfl,fun x hx=>(nomatch hx),F0⟩
 ·obtain ⟨h',g',d',tk',os'⟩:=s';have eg:g'=s.gens:=hm.gens;have ed:d'=s.drawn:=hm.drawn;have eo:os'=s.os:=hm.os;subst eg ed eo;exact ⟨rfl,h h' tk' hS' fun b o e=>hm.heap b o (nD b o e) (kp3 b o e)⟩
end
end PySem
namespace L2
open PySem PySem.Spec PyProof.Rows PySem.W
def CH (H:Hp) (ys:List V) (ps:List (List Key×V)):Prop:=ys.length=ps.length/\∀ (i:Nat) y p,ys[i]?=some y->ps[i]?=some p->∃ b c,y=.ref b/\H b=some (.tup [.ref c,p.2])/\H c=some (.tup (p.1.map kV))
theorem j7 {α β:Type} {R:α->β->Prop}:∀ {xs xs':List α} {ys ys':List β},Paired R xs ys->Paired R xs' ys'->Paired R (xs++xs') (ys++ys')
 | _,_,_,_,.nil,h=>h
 | _,_,_,_,.cons r t,h=>.cons r (j7 t h)
def xy:List V->Hp->VK->Prop:=fun xs H Q=>∃ (l:Δ) (ys:List V) (ps:List (List Key×V)),xs=[.ref l]/\H l=some (.lst ys)/\CH H ys ps/\(ps.map (·.1)).Nodup/\ps.length<=5000/\∀ d,H d=none->Q (.ref d) (upd H d (.dT ps))
theorem vC {X:Cx} (hc:X.calm=true) (hu:X.A.units+64<Ho):bM X (.type "dict") xy:=by
 intro pins s σ H xs us Q I r h;obtain ⟨l,ys,ps,rfl,hl,pw,nd,hz,q⟩:=h;obtain ⟨u,rfl,rx⟩:=jj r
 cases rx;obtain ⟨z,its,n,rv,hlen,e⟩:=I.lstM hl;have li:its.length=ps.length:=by rw [<- hlen,pw.1]
 have it:∀ i,i<its.length->∃ q:Δ×ς,∃ (p:List Key×V) (T:Δ) (o:GN) (m:Nat),ps[i]?=some p/\its[i]?=some (.ref T)/\s.heap.get? T=some o/\o.cls=.type "tuple"/\o.data=.seq #[.ref q.1,q.2] m/\aL p.2 q.2/\H q.1=some (.tup (p.1.map kV)):=fun i hi=>by
  have hy:i<ys.length:=by omega
  have hp:i<ps.length:=by omega
  obtain ⟨b,c,e1,h1,h2⟩:=pw.2 i _ _ (ξ hy) (ξ hp);obtain ⟨u,hu',ru⟩:=rv.get (ξ hy);rw [e1] at ru
  cases (show u=EB b from ru)
  obtain ⟨_,its2,r2,o,ho,hc,m,hd⟩:=(show aY X.prog X.w H s.heap b (.tup [.ref c,ps[i].2]) from I.hok b _ h1)
  obtain ⟨u1,r1,rfl⟩:∃ u1 r1,its2=u1::r1:=by cases r2 with | cons a b=>exact ⟨_,_,rfl⟩
  obtain ⟨ra,rb⟩:aL (.ref c) u1/\Vals [ps[i].2] r1:=by cases r2 with | cons a b=>exact ⟨a,b⟩
  obtain ⟨u2,rfl,ru2⟩:=jj rb
  cases (show u1=EB c from ra)
  exact ⟨(c,u2),ps[i],b,o,m,ξ hp,hu',ho,hc,hd,ru2,h2⟩
 classical
 let kf:Nat->List Key:=fun i=>((ps[i]?).map (·.1)).getD []
 let qf:Nat->Δ×Value:=fun i=>if hi:i<its.length then (it i hi).choose else (0,.none)
 let af:Nat->Addr:=fun i=>(qf i).1
 let xf:Nat->Value:=fun i=>(qf i).2
 have fx:∀ i,i<its.length->∃ (p:List Key×V) (T:Δ) (o:GN) (m:Nat),ps[i]?=some p/\kf i=p.1/\its[i]?=some (.ref T)/\s.heap.get? T=some o/\o.cls=.type "tuple"/\o.data=.seq #[.ref (af i),xf i] m/\aL p.2 (xf i)/\H (af i)=some (.tup (p.1.map kV)):=fun i hi=>by
  have hs:=(it i hi).choose_spec;have ea:qf i=(it i hi).choose:=dif_pos hi;rw [<- ea] at hs;obtain ⟨p,T,o,m,h1,h2,h3,h4,h5,h6,h7⟩:=hs;refine ⟨_,_,_,_,h1,?_,h2,h3,h4,h5,h6,h7⟩
  show ((ps[i]?).map (·.1)).getD []=_
  rw [h1]; rfl
 have es:its.toArray.size=its.length:=D8 ..;refine iQ (kd:=HM (a7 X.prog X.w)) (items:=its.toArray) (nl:=n) (ks:=kf) (as:=af) (xs:=xf) (I.ok.hd hc) (show X.A.units+1+1<Ho by omega) e (fun i v hv=>?_) (fun i hi h' kp=>?_) (fun i j hi hj ek=>?_) ?_ fun h' tk hd kp=>?_
 ·have hv':its[i]?=some v:=by simpa using hv
  obtain ⟨p,T,o,m,_,_,h2,h3,h4,h5,_⟩:=fx i (Aw.mp hv').1;rw [h2] at hv'
  cases hv';exact ⟨T,o,m,rfl,h3,h4,h5⟩
 ·obtain ⟨p,T,o,m,_,e1,_,_,_,_,_,h7⟩:=fx i (by omega);rw [e1];exact gH (I.hok.kept kp) h7
 ·obtain ⟨p,_,_,_,h1,e1,_⟩:=fx i (by omega);obtain ⟨p',_,_,_,h1',e1',_⟩:=fx j (by omega);rw [e1,e1'] at ek;have l1:=(Aw.mp h1)
  have l2:=(Aw.mp h1')
  obtain ⟨a1,b1⟩:=l1;obtain ⟨a2,b2⟩:=l2;exact (JQ (h₀:=by rw [Ξ]; exact a1) (h₁:=by rw [Ξ]; exact a2) nd).mp (by rw [List.getElem_map,List.getElem_map,b1,b2,ek])
 ·rw [es,li]; exact Ew hz (by decide)
 ·rw [es] at hd
  have lo:(s.heap.objs.size==Fe)=false:=by
   have:=I.big
   rw [beq_eq_false_iff_ne];exact fun z=>absurd (by rw [z] at this; exact this) (Fo _)
  have nH:H s.heap.objs.size=none:=I.hok.fresh (Av _)
  have prd:Paired (fun (p:List Key×V) (q:List Key×Δ×ς)=>p.1=q.1/\upd H s.heap.objs.size (.dT ps) q.2.1=some (.tup (p.1.map kV))/\aL p.2 q.2.2) ps (gv kf af xf its.length):=by
   have key:∀ (m:Nat),m<=ps.length->Paired (fun (p:List Key×V) (q:List Key×Δ×ς)=>p.1=q.1/\upd H s.heap.objs.size (.dT ps) q.2.1=some (.tup (p.1.map kV))/\aL p.2 q.2.2) (ps.take m) (gv kf af xf m):=by
    intro m
    induction m with
    | zero=>intro _; rw [Gm]; exact .nil
    | succ m ih =>
     intro hm;obtain ⟨p,T,o,m',h1,e1,_,_,_,_,h6,h7⟩:=fx m (by omega);have ea:gv kf af xf (m+1)=gv kf af xf m++[(kf m,af m,xf m)]:=by unfold gv; rw [Fw,Ef]; rfl
     rw [Ft,h1,ea];exact j7 (ih (by omega)) (.cons ⟨e1.symm,by rw [ai (aC h7 nH)]; exact h7,h6⟩ .nil)
   have:=key ps.length (Av _)
   rw [EN (Av _)] at this;rw [li]; exact this
  obtain ⟨o,es',ep,ho,hx,hd',he,_,hnd⟩:=hd;exact ⟨.ref s.heap.objs.size,_,I.laid (a:=s.heap.objs.size) (o:=.dT ps) (t':=tk) (fun b u hb=>kp b u hb) (Av _) ⟨Ew hz (by decide),lo,_,prd,o,es',ep,ho,hx,hd',he,hnd⟩,rfl,q _ nH⟩
theorem xM {H:Hp} {Q:VK} {l:Δ} {ys:List V} {ps:List (List Key×V)} (hl:H l=some (.lst ys)) (pw:CH H ys ps) (nd:(ps.map (·.1)).Nodup) (hz:ps.length<=5000) (q:∀ d,H d=none->Q (.ref d) (upd H d (.dT ps))):xy [.ref l] H Q:=⟨l,ys,ps,rfl,hl,pw,nd,hz,q⟩
def yY (P:D_) (w:Eh) (H0:Hp) (d:Δ) (kvs:List (List Key×V)) (F:HO):Prop:=∃ es ep zs,F=.ext (cQ d es ep)/\kvs.length<=D7/\(d==Fe)=false /\
 Paired (fun (p:List Key×V) (q:List Key×Δ×ς)=>p.1=q.1/\H0 q.2.1=some (.tup (p.1.map kV))/\aL p.2 q.2.2) kvs zs/\es.toList=zs.map (Jw (HM (a7 P w)))/\(zs.map (·.1)).Nodup
section
variable {X:Cx} {pins:List (Δ×GN)} {σ:St} {H H0:Hp} {s:Ω} {d:Δ} {kvs:List (List Key×V)}
theorem Inv.freezeT (I:Inv X pins σ H s) (hd:H d=some (.dT kvs)):∃ es ep zs,Inv X pins σ (upd H d (.ext (cQ d es ep))) s/\cQ d es ep s.heap/\(d==Fe)=false/\kvs.length<=D7 /\
  Paired (fun (p:List Key×V) (q:List Key×Δ×ς)=>p.1=q.1/\H q.2.1=some (.tup (p.1.map kV))/\aL p.2 q.2.2) kvs zs/\es.toList=zs.map (Jw (HM (a7 X.prog X.w)))/\(zs.map (·.1)).Nodup:=by
 obtain ⟨z,lo,zs,rel,o,es,ep,eo,xo,dto,he,nd⟩:=(show aY X.prog X.w H s.heap d (.dT kvs) from I.hok d _ hd)
 exact ⟨es,ep,zs,I.write (e:=d) (t':=s.toks) (h':=s.heap) (by rw [hd]; trivial) (.inl rfl) (fun _ _ _ q=>q) ⟨o,eo⟩ ⟨⟨o,eo,xo,dto⟩,⟨o,eo⟩,fun h1 h2 a k=>a.mv k⟩,⟨o,eo,xo,dto⟩,lo,z,rel,he,nd⟩
theorem j8 {α β:Type} {R S:α->β->Prop} (f:∀ a b,R a b->S a b):∀ {xs:List α} {ys:List β},Paired R xs ys->Paired S xs ys
 | _,_,.nil=>.nil
 | _,_,.cons r t=>.cons (f _ _ r) (j8 f t)
theorem Inv.thawT {F:HO} (I:Inv X pins σ H s) (hF:yY X.prog X.w H0 d kvs F) (ht:∀ b xs,H0 b=some (.tup xs)->H b=some (.tup xs)) (hd:H d=some F):Inv X pins σ (upd H d (.dT kvs)) s:=by
 obtain ⟨es,ep,zs,rfl,z,lo,rel,he,nd⟩:=hF;obtain ⟨⟨o,eo,xo,dto⟩,_,_⟩:=(show aY X.prog X.w H s.heap d (.ext (cQ d es ep)) from I.hok d _ hd)
 refine I.write (e:=d) (t':=s.toks) (h':=s.heap) (by rw [hd]; trivial) (.inl rfl) (fun _ _ _ q=>q) ⟨o,eo⟩ ⟨z,lo,zs,j8 (fun p q h=>⟨h.1,?_,h.2.2⟩) rel,o,es,ep,eo,xo,dto,he,nd⟩;have:=ht _ _ h.2.1
 rw [ai (aZ this hd (by intro z; cases z))];exact this
end
def AK (P:D_) (w:Eh) (H1 H2:Hp):Prop:=∃ H0 d kvs F,yY P w H0 d kvs F/\(∀ b xs,H0 b=some (.tup xs)->H1 b=some (.tup xs))/\H1 d=some F/\H2=upd H1 d (.dT kvs)
def yS (P:D_) (w:Eh) (te:TE):TE:=fun σ H Q=>te σ H fun v H1=>∃ H2,AK P w H1 H2/\Q v H2
theorem xc {X:Cx} {e:FE} {te:TE} (P:D_) (w:Eh) (hP:X.prog=P) (hw:X.w=w) (h:PE X e te):PE X e (yS P w te):=by
 subst hP hw;intro pins s σ H Q I q;refine E8 (h pins s σ H _ I q) (fun v s1 ⟨x,H1,I1,r,q1⟩=>?_) fun _ _ z=>z;obtain ⟨H2,⟨H0,d,kvs,F,hF,ht,hd,rfl⟩,q2⟩:=q1;exact ⟨x,_,I1.thawT hF ht hd,r,q2⟩
theorem ya {P:D_} {w:Eh} {te:TE} {σ:St} {H:Hp} {Q:VK} (h:te σ H fun v H1=>∃ H2,AK P w H1 H2/\Q v H2):yS P w te σ H Q:=h
noncomputable def yZ (H0:Hp) (d:Δ) (F:HO) (kvs:List (List Key×V)):It :=
 ⟨fun i H=>H d=some F/\i<kvs.length,fun i H x H'=>H'=H/\∃ k v b,kvs[i]?=some (k,v)/\x=.ref b/\H0 b=some (.tup (k.map kV)),fun i H=>H d=some F/\i=kvs.length⟩
theorem mq {α β:Type} {R:α->β->Prop}:∀ {xs:List α} {ys:List β} {i:Nat} {y:β},Paired R xs ys->ys[i]?=some y->∃ x,xs[i]?=some x/\R x y
 | _,_,_,_,.nil,e=>by simp at e
 | _,_,0,_,.cons r _,e=>by simp at e; subst e; exact ⟨_,rfl,r⟩
 | _,_,i+1,_,.cons _ t,e=>by simpa using mq (i:=i) t (by simpa using e)
theorem rV {P:D_} {w:Eh} {K:W.Frag} {tg:FE} (H0:Hp) (d it:Δ) (kvs:List (List Key×V)) (es:Array LW) (ep:Nat) (zs:List (List Key×Δ×ς))
  (rel:Paired (fun (p:List Key×V) (q:List Key×Δ×ς)=>p.1=q.1/\H0 q.2.1=some (.tup (p.1.map kV))/\aL p.2 q.2.2) kvs zs) (he:es.toList=zs.map (Jw (HM (a7 P w)))) :
  oF P w K tg (yZ H0 d (.ext (cQ d es ep)) kvs) [it] it (fun i h=>h.IsKeyIter it d i es.size ep) where
 mem:=by simp
 obj:=fun i h st b hb=>by
  have e:b=it:=by simpa using hb
  subst e;obtain ⟨o,e,c,d⟩:=st;exact ⟨o,e,fun v z=>by rw [d] at z; cases z⟩
 keep:=fun i h h' st k=>st.at fun o e=>k it (by simp) o e
 item:=by
  intro X hP hw hK hc i pins s σ H E I hf st hg;subst hP hw hK;obtain ⟨hd,hi⟩:=hg;obtain ⟨at',_,_⟩:=(show aY X.prog X.w H s.heap d (.ext (cQ d es ep)) from I.hok d _ hd)
  have sz:es.size=zs.length:=by rw [<- EC,he,Ξ]
  have hl:i<zs.length:=by rw [<- Paired.length rel]; exact hi
  obtain ⟨p,hp,r⟩:=mq rel (ξ hl);have hx:es[i]?=some (Jw (HM (a7 X.prog X.w)) zs[i]):=by rw [<- Ex,he,EU,ξ hl]; rfl
  obtain ⟨f0,f1,f2,f3,f4,f5⟩:=hf it (by simp);refine pY st at' hx fun h' st' sb=>?_;have I1:Inv X pins σ H { s with heap:=h' }:=I.turned (t':=s.toks) (fun b o hb e=>(sb.2 b hb).trans e) f0 f1 f3 f4 f5;obtain ⟨o,e,c,dd⟩:=id st';exact ⟨_,rfl,sL (s:={ s with heap:=h' }) e c dd (by decide) ⟨.ref zs[i].2.1,H,I1,rfl,⟨rfl,p.1,p.2,zs[i].2.1,hp,rfl,r.2.1⟩,st',fun b hb=>(hf b hb).1⟩⟩
 done:=by
  intro X hP hw hK hc i pins s σ H E I hf st hg;subst hP hw hK;obtain ⟨hd,hi⟩:=hg;obtain ⟨at',_,_⟩:=(show aY X.prog X.w H s.heap d (.ext (cQ d es ep)) from I.hok d _ hd)
  obtain ⟨f0,f1,f2,f3,f4,f5⟩:=hf it (by simp);have sz:es.size=zs.length:=by rw [<- EC,he,Ξ]
  have ei:i=es.size:=by rw [sz,<- Paired.length rel]; exact hi
  subst ei;exact tw (I.ok.hd hc) st at' fun h' eb=>⟨rfl,I.turned (t':=s.toks) (fun b o hb e=>eb b o hb e) f0 f1 f3 f4 f5⟩
 self:=fun _ _ _ _ _ st h=>wpAny_pyIter_keyiter st h
def vW (P:D_) (w:Eh) (tl:TE):TI:=fun σ H R=>tl σ H fun x H1=>∃ d kvs,x=.ref d/\H1 d=some (.dT kvs)/\∀ F,yY P w H1 d kvs F->R (yZ H1 d F kvs) (upd H1 d F)
theorem uL {P:D_} {w:Eh} {tl:TE} {σ:St} {H:Hp} {R:It->Hp->Prop} (h:tl σ H fun x H1=>∃ d kvs,x=.ref d/\H1 d=some (.dT kvs)/\∀ F,yY P w H1 d kvs F->R (yZ H1 d F kvs) (upd H1 d F)):vW P w tl σ H R:=h
theorem xh {X:Cx} {tg l:FE} {tl:TE} (P:D_) (w:Eh) (hP:X.prog=P) (hw:X.w=w) (hl:PE X l tl):PI X tg l (vW P w tl):=by
 subst hP hw;intro pins s σ H R I h;refine thn (hl pins s σ H _ I h) fun v s1 ⟨x,H1,I1,r1,q1⟩=>?_;obtain ⟨d,kvs,e,hd,q⟩:=q1;subst e
 cases r1;obtain ⟨es,ep,zs,I2,at',lo,z,rel,he,nd⟩:=I1.freezeT hd;refine pZ lo at' ?_;refine ⟨s1.heap.objs.size,[s1.heap.objs.size],_,_,_,rfl,I2.kept (t':=s1.toks) fun b o e=>χ _ e,rV H1 d _ kvs es ep zs rel he,⟨_,D4 _ rfl,rfl,rfl⟩,fun b hb=>?_,q _ ⟨es,ep,zs,rfl,z,lo,rel,he,nd⟩⟩;have e:b=s1.heap.objs.size:=by simpa using hb
 subst e;exact I2.fpOk (Av _) (I2.hok.fresh (Av _))
theorem oX {σ:St} {H H0:Hp} {Q:VK} {te:TE} {cap:List (Option Nat)} {l d:Δ} {F:HO} {kvs:List (List Key×V)} (g:List Key->Bool) (hF:H d=some F) (hz:kvs.length<=5000) (hl:H l=none)
  (step:∀ (i:Nat) k v b o H' (Q':VK),kvs[i]?=some (k,v)->H0 b=some (.tup (k.map kV))->aj H H'->(∀ H5,aj H' H5->Q' (.bl (g k)) H5)->te (((cT (none::cap) σ).set 0 o).set 0 (some (.ref b))) H' Q')
  (fin:∀ H',aj H H'->H' l=some (.lst (kvs.map fun kv=>.bl (g kv.1)))->Q (.ref l) H'):fu (yZ H0 d F kvs) (cR 0) fX te (none::cap) l σ H Q:=by
 refine ⟨kvs.length,fun i ys σ' H'=>ys=(kvs.take i).map (fun kv=>V.bl (g kv.1))/\(∃ o,σ'=(cT (none::cap) σ).set 0 o)/\aj H H'/\H' l=some (.lst ys),⟨rfl,⟨none,rfl⟩,aj.new hl,ag⟩,?_,?_⟩
 ·rintro i ys σ' H' hi ⟨rfl,⟨o,rfl⟩,s,e⟩;refine ⟨⟨s _ _ hF,hi⟩,fun x H2 y=>?_⟩;obtain ⟨e2,k,v,b,hk,rfl,hb⟩:=y;subst e2;refine bY (da (jW ?_));refine step i k v b o H2 _ hk hb s fun H5 s5=>⟨s5 _ _ e,?_,?_,⟨_,HB ..⟩,(s.trans s5).later hl,ag⟩
  ·rw [Ξ,FP];exact Ej (show min i kvs.length<=5000 by omega) (by decide)
  ·rw [Ft,hk,Ef]; rfl
 ·rintro ys σ' H' ⟨rfl,_,s,e⟩;rw [EN (Av _)] at e;exact ⟨⟨s _ _ hF,rfl⟩,fin H' s e⟩
end L2
namespace L2
open PySem PySem.Spec PyProof.Rows PySem.W Builtin Builtin.ObjectAttr Builtin.Getset_descriptor
end L2
namespace L2
open PySem PySem.Spec PyProof.Rows PySem.W
end L2
namespace Fc
noncomputable def it:Nat->Nat->Nat
 | 0,x=>x
 | n+1,x=>it n (5*x+1)
noncomputable def lp (M:Nat):Nat->Nat×Nat->Nat×Nat
 | 0,q=>q
 | r+1,q=>lp M r ((q.1*5+1+q.2 / 32)%M,q.2 / 32)
end Fc
namespace Fc
open PySem PySem.SetTable
noncomputable def st (mask:Nat) (q:Nat×Nat):Probe:={ j:=q.1,more:=runEnd mask q.1 - q.1,i:=q.1,perturb:=q.2,dummy:=none }
noncomputable def pr (t:SetTable) (h:Int):Nat->Probe
 | 0=>t.probeStart h
 | m+1=>t.advance (pr t h m)
end Fc
namespace Fc
open PySem PySem.SetTable PyProof.Rows
section
variable {prog:D_} {w:Eh} {A:Eg} {E:ς->Ω->Prop} {s:Ω}
abbrev TK (prog:D_) (w:Eh) (h:E5) (q:List Int) (b:Δ):Prop:=IsTupleKey (intKind prog w) h q b
end
end Fc
namespace Fc
open PySem PySem.SetTable PyProof.Rows
section
variable {prog:D_} {w:Eh} {A:Eg} {E:ς->Ω->Prop} {s:Ω}
def Els (prog:D_) (w:Eh) (h:E5) (es:Array (Int×ς)) (ks:List (List Int)):Prop:=∀ e∈es.toList,∃ q∈ks,∃ b,e.2=.ref b/\TK prog w h q b
end
end Fc
namespace Fc
open PySem PySem.SetTable PyProof.Rows
end Fc
namespace Fc
open PySem PySem.SetTable PyProof.Rows
section
variable {prog:D_} {w:Eh} {A:Eg} {E:ς->Ω->Prop} {s:Ω}
def DI (prog:D_) (w:Eh) (h:E5) (a:Δ) (ks:List (List Int)):Prop:=∃ o es ep t k,h.get? a=some o/\o.ExactSet/\o.data=.set es ep t/\t.mask+1=2 ^ k/\3<=k/\k<=13/\t.dummies=#[]/\t.place.size=es.size/\es.size=ks.length/\es.size*5<t.mask*3/\Els prog w h es ks
end
end Fc
namespace Fc
open PySem PySem.SetTable PyProof.Rows
end Fc
namespace L2
open PySem PySem.Spec PyProof.Rows PySem.W
end L2
namespace L2
open PySem PySem.Spec PyProof.Rows
open Builtin Builtin.Str
end L2
namespace L2
open PySem PySem.Spec PyProof.Rows PySem.W
end L2
namespace L2
open PySem PySem.Spec PyProof.Rows
end L2
namespace L2
open PySem PySem.Spec PyProof.Rows PySem.W
open Builtin Builtin.Str
open PySem.NumText
end L2
namespace L2
open PySem PySem.Spec PyProof.Rows
end L2
namespace L2
open PySem PySem.Spec PyProof.Rows PySem.W
noncomputable def nT (n:Nat):Str:=(toString ((n:Nat):Int):String)
end L2
namespace L2
open PySem PySem.Spec PyProof.Rows
theorem rmo {j k:Nat} {A:Eg} (r:bF k A) (h:j<=k:=by first | decide | omega):bF j A:=r.mono h
section
variable {X:Cx}
theorem aO (i:Nat) {x:Str} {e:FE} {te:TE} {pos pos':HV} (hN:X.N.Nodup) (he:PE X e te) (hi:X.N[i]?=some x:=by rfl) (hx:Loc X.env.scope x:=by exact E_ rfl) (hs:KO e (some (.Name x pos')) pos.line X.env=pure false:=by rfl) (hf:X.fn x=true\/X.env.scope.names.lookup x=some .local:=by first | exact .inl rfl | exact .inr rfl | assumption) :
  PS X (.Assign [.Name x pos'] e pos) (AA te (cR i)):=fg hN hi hx he hs hf
theorem aF {r:R2} {a b:FE} {ta tb:TE} {pos:HV} (hr:IxR X r) (ha:PE X a ta) (hb:PE X b tb) (hs:r9 b:=by exact fun _ _=>rfl):PE X (.Subscript a b pos) (tOp r ta tb):=C2 hr ha hb hs
theorem ka {op:Lg} {r:R2} {a b:FE} {ta tb:TE} {pos:HV} (ho:OpR X (F8 op) r) (ha:PE X a ta) (hb:PE X b tb) (hm:HP op b=false:=by first | exact wy _ | rfl):PE X (.Compare a [op] [b] pos) (tOp r ta tb):=zD ho ha hb hm
theorem bU {op:Lg} {r:R2} {a b:FE} {ta tb:TE} {pos:HV} (ho:OpR X (F8 op) r) (ha:PE X a ta) (hb:PE X b tb) (hm:HP op b=false:=by first | exact wy _ | rfl):PT X (.Compare a [op] [b] pos) (tJ (tOp r ta tb)):=zI ho ha hb hm
end
section
variable {σ:L2.St} {H:Hp} {Q:VK}
abbrev NwT (xs:List V) (H:Hp) (Q:VK):Prop:=xs.length<=D7/\∀ p,H p=none->Q (.ref p) (upd H p (.tup xs))
abbrev NwL (xs:List V) (H:Hp) (Q:VK):Prop:=xs.length<=D7/\∀ p,H p=none->Q (.ref p) (upd H p (.lst xs))
theorem Am {t:TA} (h:t σ H fun xs H1=>NwT xs H1 Q):DA t σ H Q:=h
theorem z8 {t:TA} (h:t σ H fun xs H1=>NwL xs H1 Q):Dw t σ H Q:=h
theorem vO {xs:List V} (z:(xs.drop 99).isEmpty=true):xs.length<=sizeLine:=by
 have:xs.drop 99=[]:=List.isEmpty_iff.mp z
 have:=List.drop_eq_nil_iff.mp this
 exact Ew this (by decide)
theorem nwT {xs:List V} (q:∀ p H1,aj H H1->H p=none->H1 p=some (.tup xs)->Q (.ref p) H1) (z:(xs.drop 99).isEmpty=true:=by rfl):NwT xs H Q:=⟨vO z,fun p n=>q p _ (aj.new n) n ag⟩
theorem nwL {xs:List V} (q:∀ p H1,aj H H1->H p=none->H1 p=some (.lst xs)->Q (.ref p) H1) (z:(xs.drop 99).isEmpty=true:=by rfl):NwL xs H Q:=⟨vO z,fun p n=>q p _ (aj.new n) n ag⟩
theorem bC {p:Prop} [d:Decidable p] (h:p):decide p=true:=decide_eq_true h
theorem cx {p:Prop} [d:Decidable p] (h:¬ p):decide p=false:=decide_eq_false h
end
end L2
namespace My
open PySem PySem.Spec PyProof.Rows L2
noncomputable def top (i:Nat):Stmt:=PySem.Challenge.pw_sashiko_k15_seams_around.main.body.getD i (.Pass ⟨0,0,0,0⟩)
noncomputable abbrev s_av:Stmt:=(top 10)
noncomputable abbrev s_aj:Stmt:=(top 11)
noncomputable abbrev s_aN:Stmt:=(top 12)
noncomputable abbrev s_ax:Stmt:=(top 13)
noncomputable abbrev s_aG:Stmt:=(top 14)
noncomputable abbrev s_al:Stmt:=(top 15)
noncomputable abbrev s_aq:Stmt:=(eZ (top 34) 0)
noncomputable abbrev s_ak:Stmt:=(eZ (top 35) 0)
noncomputable abbrev s_ah:Stmt:=(eZ (top 34) 1)
noncomputable abbrev s_ag:Stmt:=(eZ (top 34) 2)
noncomputable abbrev s_ac:Stmt:=(eZ (top 34) 5)
noncomputable abbrev s_ar:Stmt:=(eZ (top 34) 6)
noncomputable abbrev s_ab:Stmt:=(eZ (top 34) 7)
noncomputable abbrev s_am:Stmt:=(top 17)
noncomputable abbrev s_aI:Stmt:=(top 18)
noncomputable abbrev s_ao:Stmt:=(top 19)
noncomputable abbrev s_aQ:Stmt:=(top 20)
noncomputable abbrev s_ap:Stmt:=(top 21)
noncomputable abbrev s_au:Stmt:=(top 22)
noncomputable abbrev s_aW:Stmt:=(top 23)
noncomputable abbrev s_an:Stmt:=(top 24)
noncomputable abbrev s_aK:Stmt:=(top 25)
noncomputable abbrev s_at:Stmt:=(top 26)
noncomputable abbrev s_aO:Stmt:=(top 28)
noncomputable abbrev s_aF:Stmt:=(top 29)
noncomputable abbrev s_aa:Stmt:=(top 30)
noncomputable abbrev s_aH:Stmt:=(top 31)
noncomputable abbrev s_as:Stmt:=(top 32)
noncomputable abbrev s_aB:Stmt:=(top 38)
noncomputable abbrev s_aP:Stmt:=(top 39)
noncomputable abbrev s_aV:Stmt:=(top 40)
noncomputable abbrev s_aT:Stmt:=(top 41)
noncomputable abbrev s_aU:Stmt:=(top 42)
noncomputable abbrev s_ay:Stmt:=(top 43)
noncomputable abbrev s_aE:Stmt:=(top 44)
noncomputable abbrev s_aM:Stmt:=(top 37)
noncomputable abbrev s_aX:Stmt:=(top 45)
noncomputable abbrev s_aD:Stmt:=(top 46)
noncomputable abbrev s_aS:Stmt:=(top 47)
noncomputable abbrev s_ad:Stmt:=(top 48)
noncomputable abbrev yk:Stmt:=(top 49)
theorem sc_av:aB ["value"] ["value"] (ak s_av):=.by
theorem sc_aj:aB ["value","bound"] ["value","bound"] (ak s_aj):=.by
theorem sc_aN:aB ["value"] ["value"] (ak s_aN):=.by
theorem sc_ax:aB ["values"] ["values"] (ak s_ax):=.by
theorem sc_aG:aB ["count"] ["count"] (ak s_aG):=.by
theorem sc_al:aB ["board","x","y"] ["board","x","y"] (ak s_al):=.by
theorem sc_aq:aB ["self","wide","tall","cols","rows"] ["self","wide","tall","cols","rows"] (ak s_aq):=.by
theorem sc_ak:aB ["self","shade","cols","rows"] ["self","shade","cols","rows"] (ak s_ak):=.by
theorem sc_ah:aB ["self"] ["self"] (ak s_ah):=.by
theorem sc_ag:aB ["self"] ["self"] (ak s_ag):=.by
theorem sc_ac:aB ["self","way"] ["self","way"] (ak s_ac):=.by
theorem sc_ar:aB ["self","way","k","bits"] ["self","way","k"] (ak s_ar):=.by
theorem sc_ab:aB ["self","way","k","step","line_bit","steps"] ["self","way","k","step"] (ak s_ab):=.by
theorem sc_am:aB ["cloth","x","y"] ["cloth","x","y"] (ak s_am):=.by
theorem sc_aI:aB ["cloth","x","y"] ["cloth","x","y"] (ak s_aI):=.by
theorem sc_ao:aB ["cloth","point","x","y","found"] ["cloth","point"] (ak s_ao):=.by
theorem sc_aQ:aB ["cloth","start","onward","line","here","behind","ways"] ["cloth","start","onward"] (ak s_aQ):=.by
theorem sc_ap:aB ["cloth","line","least"] ["cloth","line"] (ak s_ap):=.by
theorem sc_au:aB ["cloth","end","line"] ["cloth","end"] (ak s_au):=.by
theorem sc_aW:aB ["cloth","point","ways","line"] ["cloth","point"] (ak s_aW):=.by
theorem sc_an:aB ["told"] ["told"] (ak s_an):=.by
theorem sc_aK:aB ["cloth","found","seen","x","y","told","point"] ["cloth"] (ak s_aK):=.by
theorem sc_at:aB ["cloth"] ["cloth"] (ak s_at):=.by
theorem sc_aO:aB ["line","found","k","one","other"] ["line"] (ak s_aO):=.by
theorem sc_aF:aB ["line","found","y","places","marks","k"] ["line"] (ak s_aF):=.by
theorem sc_aa:aB ["lines","insides","found","number","cell"] ["lines"] (ak s_aa):=.by
theorem sc_aH:aB ["cloth","lines","by_cell","found","number","line","numbers","place"] ["cloth"] (ak s_aH):=.by
theorem sc_as:aB ["cloth","x","y"] ["cloth","x","y"] (ak s_as):=.by
theorem sc_aB:aB ["_law_script","_law_many","_law_rows","_law_mix","_law_cell","_law_rest"] ["_law_script","_law_many"] (ak s_aB):=.by
theorem sc_aP:aB ["_law_number","_law_many","_law_row_here","_law_k"] ["_law_number","_law_many"] (ak s_aP):=.by
theorem sc_aV:aB ["_law_some","_law_many","_law_raw","_law_row_here"] ["_law_some","_law_many"] (ak s_aV):=.by
theorem sc_aT:aB ["_law_some","_law_wide","_law_tall"] ["_law_some"] (ak s_aT):=.by
theorem sc_aU:aB ["_law_plan_here"] ["_law_plan_here"] (ak s_aU):=.by
theorem sc_ay:aB ["_law_line","_law_left","_law_right","_law_low","_law_high","_law_shuts","_law_at","_law_found","_law_y","_law_within","_law_x"] ["_law_line"] (ak s_ay):=.by
theorem sc_aE:aB ["_law_told","_law_due_here"] ["_law_told","_law_due_here"] (ak s_aE):=.by
theorem sc_aM:aB ["_law_e"] ["_law_e"] (ak s_aM):=.by
theorem sc_aX:aB ["_law_word","_law_words"] ["_law_word"] (ak s_aX):=.by
theorem sc_aD:aB ["_law_patches","_law_cell"] ["_law_patches","_law_cell"] (ak s_aD):=.by
theorem sc_aS:aB ["_law_patches","_law_at","_law_size","_law_other"] ["_law_patches","_law_at"] (ak s_aS):=.by
theorem sc_ad:aB ["_law_cloth","_law_x","_law_y","_law_marks_here","_law_e"] ["_law_cloth","_law_x","_law_y"] (ak s_ad):=.by
theorem cE:aB ["_law_script","_law_some","_law_plan_here","_law_cloth","_law_wide","_law_tall","_law_patches","_law_due_here","_law_found","_law_line","_law_cells","_law_cell","_law_turn","_law_x","_law_y"] ["_law_script"] (ak yk):=.by
abbrev QNs (K:W.Frag) (x:Str) (C:Δ):Prop:=W.nsIn K F7 x=some (some (.ref C))
abbrev QNn (K:W.Frag) (x:Str):Prop:=W.nsIn K F7 x=some none
abbrev QFi (K:W.Frag) (C:Δ) (x:Str) (f:Δ):Prop:=W.findIn K (.ref C) x=some (some (.ref f))
abbrev QFn (K:W.Frag) (C:Δ) (x:Str):Prop:=W.findIn K (.ref C) x=some none
abbrev QIf (K:W.Frag) (f:Δ):Prop:=W.isFn K (.ref f)=true
abbrev QKt (K:W.Frag) (C D:Δ) (b:Bool):Prop:=W.kitOne K (.ref C) (.ref D)=some b
abbrev QXc (K:W.Frag) (C:Δ):Prop:=W.excIn K C [.type "ValueError",.type "Exception",.type "BaseException",.type "object"] "ValueError.__new__"=true
abbrev QXg (K:W.Frag) (C:Δ):Prop:=W.findIn K (.ref C) "__getattribute__"=some (some (.builtin "BaseException.__getattribute__"))/\W.findIn K (.ref C) "__getattr__"=some none/\W.findIn K (.ref C) "__class__"=some (some (.builtin "object.__class__"))/\W.mroIn K C (.type "object")=some true/\W.mroIn K C (.type "BaseException")=some true
set_option genInjectivity false in
set_option genSizeOf false in
structure Ad where
 (a_a0 a_af f_av f_aj f_aN f_ax f_aG f_al f_aq f_ak f_ah f_ag:Δ)
 (f_ac f_ar f_ab f_am f_aI f_ao f_aQ f_ap f_au f_aW f_an f_aK:Δ)
 (f_at f_aO f_aF f_aa f_aH f_as f_aB f_aP f_aV f_aT f_aU f_ay:Δ)
 (f_aE f_aM f_aX f_aD f_aS f_ad f_law a_aR a_aw a_aA a_ae a_aC:Δ)
 (a_aJ a_az cd_numbersaround tp_numbersaround:Δ)
 (d_av d_aj d_aN d_ax d_aG d_al d_aq d_ak d_ah d_ag d_ac d_ar:FU)
 (d_ab d_am d_aI d_ao d_aQ d_ap d_au d_aW d_an d_aK d_at d_aO:FU)
 (d_aF d_aa d_aH d_as d_aB d_aP d_aV d_aT d_aU d_ay d_aE d_aM:FU)
 (d_aX d_aD d_aS d_ad d_law:FU)
 (tk_LONGEST_SIDE:Tok)
structure Txt (K:W.Frag) (mg:Str->Option ς) (t:Ad):Prop where
 mg_a0:mg "Board"=some (.ref t.a_a0)
 mg_af:mg "Cloth"=some (.ref t.a_af)
 cl_af:Cls K t.a_af
 mk_af:Mk K t.a_af t.f_ak
 na_columns_count:cI K t.a_af "columns_count"
 na_rows_count:cI K t.a_af "rows_count"
 na_col_bits:cI K t.a_af "col_bits"
 na_row_bits:cI K t.a_af "row_bits"
 na_first_colour:cI K t.a_af "first_colour"
 F_av:Fun K "is_number" "is_number" s_av t.f_av t.d_av
 b_av:aI K t.d_av ["value"] []
 mg_av:mg "is_number"=some (.ref t.f_av)
 F_aj:Fun K "is_below" "is_below" s_aj t.f_aj t.d_aj
 b_aj:aI K t.d_aj ["value","bound"] []
 mg_aj:mg "is_below"=some (.ref t.f_aj)
 F_aN:Fun K "is_bit" "is_bit" s_aN t.f_aN t.d_aN
 b_aN:aI K t.d_aN ["value"] []
 mg_aN:mg "is_bit"=some (.ref t.f_aN)
 F_ax:Fun K "all_bits" "all_bits" s_ax t.f_ax t.d_ax
 b_ax:aI K t.d_ax ["values"] []
 mg_ax:mg "all_bits"=some (.ref t.f_ax)
 F_aG:Fun K "is_side" "is_side" s_aG t.f_aG t.d_aG
 b_aG:aI K t.d_aG ["count"] []
 mg_aG:mg "is_side"=some (.ref t.f_aG)
 F_al:Fun K "need_cell" "need_cell" s_al t.f_al t.d_al
 b_al:aI K t.d_al ["board","x","y"] []
 mg_al:mg "need_cell"=some (.ref t.f_al)
 F_aq:Fun K "__init__" "Board.__init__" s_aq t.f_aq t.d_aq
 b_aq:aI K t.d_aq ["self","wide","tall","cols","rows"] []
 cf_aq:AI K t.a_a0 "__init__" t.f_aq
 F_ak:Fun K "__init__" "Cloth.__init__" s_ak t.f_ak t.d_ak
 b_ak:aI K t.d_ak ["self","shade","cols","rows"] []
 F_ah:Fun K "wide" "Board.wide" s_ah t.f_ah t.d_ah
 b_ah:aI K t.d_ah ["self"] []
 m_ah:oC K t.a_af "wide" t.f_ah
 F_ag:Fun K "tall" "Board.tall" s_ag t.f_ag t.d_ag
 b_ag:aI K t.d_ag ["self"] []
 m_ag:oC K t.a_af "tall" t.f_ag
 F_ac:Fun K "bits_along" "Board.bits_along" s_ac t.f_ac t.d_ac
 b_ac:aI K t.d_ac ["self","way"] []
 m_ac:oC K t.a_af "bits_along" t.f_ac
 F_ar:Fun K "bit" "Board.bit" s_ar t.f_ar t.d_ar
 b_ar:aI K t.d_ar ["self","way","k"] []
 m_ar:oC K t.a_af "bit" t.f_ar
 F_ab:Fun K "stitched" "Board.stitched" s_ab t.f_ab t.d_ab
 b_ab:aI K t.d_ab ["self","way","k","step"] []
 m_ab:oC K t.a_af "stitched" t.f_ab
 F_am:Fun K "sewn_right" "sewn_right" s_am t.f_am t.d_am
 b_am:aI K t.d_am ["cloth","x","y"] []
 mg_am:mg "sewn_right"=some (.ref t.f_am)
 F_aI:Fun K "sewn_up" "sewn_up" s_aI t.f_aI t.d_aI
 b_aI:aI K t.d_aI ["cloth","x","y"] []
 mg_aI:mg "sewn_up"=some (.ref t.f_aI)
 F_ao:Fun K "joined" "joined" s_ao t.f_ao t.d_ao
 b_ao:aI K t.d_ao ["cloth","point"] []
 mg_ao:mg "joined"=some (.ref t.f_ao)
 F_aQ:Fun K "walk" "walk" s_aQ t.f_aQ t.d_aQ
 b_aQ:aI K t.d_aQ ["cloth","start","onward"] []
 mg_aQ:mg "walk"=some (.ref t.f_aQ)
 F_ap:Fun K "told_round" "told_round" s_ap t.f_ap t.d_ap
 b_ap:aI K t.d_ap ["cloth","line"] []
 mg_ap:mg "told_round"=some (.ref t.f_ap)
 F_au:Fun K "told_open" "told_open" s_au t.f_au t.d_au
 b_au:aI K t.d_au ["cloth","end"] []
 mg_au:mg "told_open"=some (.ref t.f_au)
 F_aW:Fun K "seam" "seam" s_aW t.f_aW t.d_aW
 b_aW:aI K t.d_aW ["cloth","point"] []
 mg_aW:mg "seam"=some (.ref t.f_aW)
 F_an:Fun K "first_point" "first_point" s_an t.f_an t.d_an
 b_an:aI K t.d_an ["told"] []
 mg_an:mg "first_point"=some (.ref t.f_an)
 F_aK:Fun K "seams" "seams" s_aK t.f_aK t.d_aK
 b_aK:aI K t.d_aK ["cloth"] []
 mg_aK:mg "seams"=some (.ref t.f_aK)
 F_at:Fun K "rounds" "rounds" s_at t.f_at t.d_at
 b_at:aI K t.d_at ["cloth"] []
 mg_at:mg "rounds"=some (.ref t.f_at)
 F_aO:Fun K "walls" "walls" s_aO t.f_aO t.d_aO
 b_aO:aI K t.d_aO ["line"] []
 mg_aO:mg "walls"=some (.ref t.f_aO)
 F_aF:Fun K "inside" "inside" s_aF t.f_aF t.d_aF
 b_aF:aI K t.d_aF ["line"] []
 mg_aF:mg "inside"=some (.ref t.f_aF)
 F_aa:Fun K "numbers_around" "numbers_around" s_aa t.f_aa t.d_aa
 b_aa:aI K t.d_aa ["lines"] []
 mg_aa:mg "numbers_around"=some (.ref t.f_aa)
 F_aH:Fun K "nests" "nests" s_aH t.f_aH t.d_aH
 b_aH:aI K t.d_aH ["cloth"] []
 mg_aH:mg "nests"=some (.ref t.f_aH)
 F_as:Fun K "around" "around" s_as t.f_as t.d_as
 b_as:aI K t.d_as ["cloth","x","y"] []
 mg_as:mg "around"=some (.ref t.f_as)
 F_aB:Fun K "_law_draws" "_law_draws" s_aB t.f_aB t.d_aB
 b_aB:aI K t.d_aB ["_law_script","_law_many"] []
 mg_aB:mg "_law_draws"=some (.ref t.f_aB)
 F_aP:Fun K "_law_bits" "_law_bits" s_aP t.f_aP t.d_aP
 b_aP:aI K t.d_aP ["_law_number","_law_many"] []
 mg_aP:mg "_law_bits"=some (.ref t.f_aP)
 F_aV:Fun K "_law_row" "_law_row" s_aV t.f_aV t.d_aV
 b_aV:aI K t.d_aV ["_law_some","_law_many"] []
 mg_aV:mg "_law_row"=some (.ref t.f_aV)
 F_aT:Fun K "_law_plan" "_law_plan" s_aT t.f_aT t.d_aT
 b_aT:aI K t.d_aT ["_law_some"] []
 mg_aT:mg "_law_plan"=some (.ref t.f_aT)
 F_aU:Fun K "_law_made" "_law_made" s_aU t.f_aU t.d_aU
 b_aU:aI K t.d_aU ["_law_plan_here"] []
 mg_aU:mg "_law_made"=some (.ref t.f_aU)
 F_ay:Fun K "_law_patch" "_law_patch" s_ay t.f_ay t.d_ay
 b_ay:aI K t.d_ay ["_law_line"] []
 mg_ay:mg "_law_patch"=some (.ref t.f_ay)
 F_aE:Fun K "_law_same" "_law_same" s_aE t.f_aE t.d_aE
 b_aE:aI K t.d_aE ["_law_told","_law_due_here"] []
 mg_aE:mg "_law_same"=some (.ref t.f_aE)
 F_aM:Fun K "_law_marks" "_law_marks" s_aM t.f_aM t.d_aM
 b_aM:aI K t.d_aM ["_law_e"] []
 mg_aM:mg "_law_marks"=some (.ref t.f_aM)
 F_aX:Fun K "_law_due" "_law_due" s_aX t.f_aX t.d_aX
 b_aX:aI K t.d_aX ["_law_word"] []
 mg_aX:mg "_law_due"=some (.ref t.f_aX)
 F_aD:Fun K "_law_around" "_law_around" s_aD t.f_aD t.d_aD
 b_aD:aI K t.d_aD ["_law_patches","_law_cell"] []
 mg_aD:mg "_law_around"=some (.ref t.f_aD)
 F_aS:Fun K "_law_next" "_law_next" s_aS t.f_aS t.d_aS
 b_aS:aI K t.d_aS ["_law_patches","_law_at"] []
 mg_aS:mg "_law_next"=some (.ref t.f_aS)
 F_ad:Fun K "_law_around_refused" "_law_around_refused" s_ad t.f_ad t.d_ad
 b_ad:aI K t.d_ad ["_law_cloth","_law_x","_law_y"] []
 mg_ad:mg "_law_around_refused"=some (.ref t.f_ad)
 F_law:Fun K "law" "law" yk t.f_law t.d_law
 b_law:aI K t.d_law ["_law_script"] []
 mg_law:mg "law"=some (.ref t.f_law)
 mg_aR:mg "SewError"=some (.ref t.a_aR)
 mg_aw:mg "BadSize"=some (.ref t.a_aw)
 mg_aA:mg "BadBit"=some (.ref t.a_aA)
 mg_ae:mg "NoCell"=some (.ref t.a_ae)
 mg_aC:mg "NoLine"=some (.ref t.a_aC)
 mg_aJ:mg "NoStep"=some (.ref t.a_aJ)
 mg_az:mg "NoPoint"=some (.ref t.a_az)
 x_aw:QXc K t.a_aw
 xi_aw:eI K t.a_aw
 cat_aw:W.exmOne K (.ref t.a_aw) (.ref t.a_aR)=some true
 x_aA:QXc K t.a_aA
 xi_aA:eI K t.a_aA
 cat_aA:W.exmOne K (.ref t.a_aA) (.ref t.a_aR)=some true
 x_ae:QXc K t.a_ae
 xi_ae:eI K t.a_ae
 cat_ae:W.exmOne K (.ref t.a_ae) (.ref t.a_aR)=some true
 kt_ae_aw:QKt K t.a_ae t.a_aw false
 kt_ae_aA:QKt K t.a_ae t.a_aA false
 kt_ae_ae:QKt K t.a_ae t.a_ae true
 kt_ae_aC:QKt K t.a_ae t.a_aC false
 kt_ae_aJ:QKt K t.a_ae t.a_aJ false
 kt_ae_az:QKt K t.a_ae t.a_az false
 kv_ae:W.kitOne K (.ref t.a_ae) (.type "ValueError")=some true
 x_aC:QXc K t.a_aC
 xi_aC:eI K t.a_aC
 cat_aC:W.exmOne K (.ref t.a_aC) (.ref t.a_aR)=some true
 x_aJ:QXc K t.a_aJ
 xi_aJ:eI K t.a_aJ
 cat_aJ:W.exmOne K (.ref t.a_aJ) (.ref t.a_aR)=some true
 x_az:QXc K t.a_az
 xi_az:eI K t.a_az
 cat_az:W.exmOne K (.ref t.a_az) (.ref t.a_aR)=some true
 mg_LONGEST_SIDE:mg "LONGEST_SIDE"=some (.int 40 t.tk_LONGEST_SIDE)
 no_aL:mg "isinstance"=none
 no_int:mg "int"=none
 no_bool:mg "bool"=none
 no_all:mg "all"=none
 no_len:mg "len"=none
 no_aZ:mg "tuple"=none
 no_list:mg "list"=none
 no_ai:mg "range"=none
 no_abs:mg "abs"=none
 no_str:mg "str"=none
 no_zip:mg "zip"=none
 no_aY:mg "ValueError"=none
 no_sorted:mg "sorted"=none
 no_min:mg "min"=none
 no_max:mg "max"=none
 no_reversed:mg "reversed"=none
 no_a1:mg "enumerate"=none
 no_dict:mg "dict"=none
 tb_numbersaround:W.tabIn K "numbers_around"=some (t.cd_numbersaround,t.tp_numbersaround)
 th_numbersaround:W.codeHdIn K t.cd_numbersaround t.tp_numbersaround=true
 tl_numbersaround:K.lookup t.tp_numbersaround=none
 tc_numbersaround:t.d_aa.code=.ref t.cd_numbersaround
theorem txt_mk {K:W.Frag} {h:E5} {mg:Str->Option ς} (X:K.In h) (G:h.Ns F7 mg) {C_a0 C_af f_av f_aj f_aN f_ax f_aG f_al f_aq f_ak f_ah f_ag:Δ} {f_ac f_ar f_ab f_am f_aI f_ao f_aQ f_ap f_au f_aW f_an f_aK:Δ} {f_at f_aO f_aF f_aa f_aH f_as f_aB f_aP f_aV f_aT f_aU f_ay:Δ} {f_aE f_aM f_aX f_aD f_aS f_ad f_law C_aR C_aw C_aA C_ae C_aC:Δ} {C_aJ C_az cd_numbersaround tp_numbersaround:Δ} {d_av d_aj d_aN d_ax d_aG d_al d_aq d_ak d_ah d_ag d_ac d_ar:FU} {d_ab d_am d_aI d_ao d_aQ d_ap d_au d_aW d_an d_aK d_at d_aO:FU} {d_aF d_aa d_aH d_as d_aB d_aP d_aV d_aT d_aU d_ay d_aE d_aM:FU} {d_aX d_aD d_aS d_ad d_law:FU} {tk_LONGEST_SIDE:Tok}
  (aC_a0:QNs K "Board" C_a0)
  (ga_a0:W.specialIn K (.ref C_a0) "__getattribute__"=some (some (.builtin "type.__getattribute__")))
  (rd_a0:W.readsIn K C_a0 (.type "type")=true)
  (aC_af:QNs K "Cloth" C_af)
  (pg_af:W.plainGet K C_af Str.empty=true)
  (hd_af:W.hasDictIn K C_af=true)
  (po_af:W.plainOver K C_af=true)
  (sa_af:W.findIn K (.ref C_af) "__setattr__"=some (some (.builtin "object.__setattr__")))
  (mk_af:W.makesIn K C_af=true)
  (kc_af:W.keepIn K (.ref C_af)=true)
  (na_columns_count:QFn K C_af "columns_count")
  (na_rows_count:QFn K C_af "rows_count")
  (na_col_bits:QFn K C_af "col_bits")
  (na_row_bits:QFn K C_af "row_bits")
  (na_first_colour:QFn K C_af "first_colour")
  (a_av:QNs K "is_number" f_av)
  (F_av:Fun K "is_number" "is_number" s_av f_av d_av)
  (a_aj:QNs K "is_below" f_aj)
  (F_aj:Fun K "is_below" "is_below" s_aj f_aj d_aj)
  (a_aN:QNs K "is_bit" f_aN)
  (F_aN:Fun K "is_bit" "is_bit" s_aN f_aN d_aN)
  (a_ax:QNs K "all_bits" f_ax)
  (F_ax:Fun K "all_bits" "all_bits" s_ax f_ax d_ax)
  (a_aG:QNs K "is_side" f_aG)
  (F_aG:Fun K "is_side" "is_side" s_aG f_aG d_aG)
  (a_al:QNs K "need_cell" f_al)
  (F_al:Fun K "need_cell" "need_cell" s_al f_al d_al)
  (fc_aq:W.findCls K (.ref C_a0) (.type "type") "__init__"=some (.val (.ref f_aq)))
  (F_aq:Fun K "__init__" "Board.__init__" s_aq f_aq d_aq)
  (a_ak:QFi K C_af "__init__" f_ak)
  (i_ak:QIf K f_ak)
  (F_ak:Fun K "__init__" "Cloth.__init__" s_ak f_ak d_ak)
  (a_ah:QFi K C_af "wide" f_ah)
  (i_ah:QIf K f_ah)
  (F_ah:Fun K "wide" "Board.wide" s_ah f_ah d_ah)
  (a_ag:QFi K C_af "tall" f_ag)
  (i_ag:QIf K f_ag)
  (F_ag:Fun K "tall" "Board.tall" s_ag f_ag d_ag)
  (a_ac:QFi K C_af "bits_along" f_ac)
  (i_ac:QIf K f_ac)
  (F_ac:Fun K "bits_along" "Board.bits_along" s_ac f_ac d_ac)
  (a_ar:QFi K C_af "bit" f_ar)
  (i_ar:QIf K f_ar)
  (F_ar:Fun K "bit" "Board.bit" s_ar f_ar d_ar)
  (a_ab:QFi K C_af "stitched" f_ab)
  (i_ab:QIf K f_ab)
  (F_ab:Fun K "stitched" "Board.stitched" s_ab f_ab d_ab)
  (a_am:QNs K "sewn_right" f_am)
  (F_am:Fun K "sewn_right" "sewn_right" s_am f_am d_am)
  (a_aI:QNs K "sewn_up" f_aI)
  (F_aI:Fun K "sewn_up" "sewn_up" s_aI f_aI d_aI)
  (a_ao:QNs K "joined" f_ao)
  (F_ao:Fun K "joined" "joined" s_ao f_ao d_ao)
  (a_aQ:QNs K "walk" f_aQ)
  (F_aQ:Fun K "walk" "walk" s_aQ f_aQ d_aQ)
  (a_ap:QNs K "told_round" f_ap)
  (F_ap:Fun K "told_round" "told_round" s_ap f_ap d_ap)
  (a_au:QNs K "told_open" f_au)
  (F_au:Fun K "told_open" "told_open" s_au f_au d_au)
  (a_aW:QNs K "seam" f_aW)
  (F_aW:Fun K "seam" "seam" s_aW f_aW d_aW)
  (a_an:QNs K "first_point" f_an)
  (F_an:Fun K "first_point" "first_point" s_an f_an d_an)
  (a_aK:QNs K "seams" f_aK)
  (F_aK:Fun K "seams" "seams" s_aK f_aK d_aK)
  (a_at:QNs K "rounds" f_at)
  (F_at:Fun K "rounds" "rounds" s_at f_at d_at)
  (a_aO:QNs K "walls" f_aO)
  (F_aO:Fun K "walls" "walls" s_aO f_aO d_aO)
  (a_aF:QNs K "inside" f_aF)
  (F_aF:Fun K "inside" "inside" s_aF f_aF d_aF)
  (a_aa:QNs K "numbers_around" f_aa)
  (F_aa:Fun K "numbers_around" "numbers_around" s_aa f_aa d_aa)
  (a_aH:QNs K "nests" f_aH)
  (F_aH:Fun K "nests" "nests" s_aH f_aH d_aH)
  (a_as:QNs K "around" f_as)
  (F_as:Fun K "around" "around" s_as f_as d_as)
  (a_aB:QNs K "_law_draws" f_aB)
  (F_aB:Fun K "_law_draws" "_law_draws" s_aB f_aB d_aB)
  (a_aP:QNs K "_law_bits" f_aP)
  (F_aP:Fun K "_law_bits" "_law_bits" s_aP f_aP d_aP)
  (a_aV:QNs K "_law_row" f_aV)
  (F_aV:Fun K "_law_row" "_law_row" s_aV f_aV d_aV)
  (a_aT:QNs K "_law_plan" f_aT)
  (F_aT:Fun K "_law_plan" "_law_plan" s_aT f_aT d_aT)
  (a_aU:QNs K "_law_made" f_aU)
  (F_aU:Fun K "_law_made" "_law_made" s_aU f_aU d_aU)
  (a_ay:QNs K "_law_patch" f_ay)
  (F_ay:Fun K "_law_patch" "_law_patch" s_ay f_ay d_ay)
  (a_aE:QNs K "_law_same" f_aE)
  (F_aE:Fun K "_law_same" "_law_same" s_aE f_aE d_aE)
  (a_aM:QNs K "_law_marks" f_aM)
  (F_aM:Fun K "_law_marks" "_law_marks" s_aM f_aM d_aM)
  (a_aX:QNs K "_law_due" f_aX)
  (F_aX:Fun K "_law_due" "_law_due" s_aX f_aX d_aX)
  (a_aD:QNs K "_law_around" f_aD)
  (F_aD:Fun K "_law_around" "_law_around" s_aD f_aD d_aD)
  (a_aS:QNs K "_law_next" f_aS)
  (F_aS:Fun K "_law_next" "_law_next" s_aS f_aS d_aS)
  (a_ad:QNs K "_law_around_refused" f_ad)
  (F_ad:Fun K "_law_around_refused" "_law_around_refused" s_ad f_ad d_ad)
  (a_law:QNs K "law" f_law)
  (F_law:Fun K "law" "law" yk f_law d_law)
  (aX_aR:QNs K "SewError" C_aR)
  (aX_aw:QNs K "BadSize" C_aw)
  (aX_aA:QNs K "BadBit" C_aA)
  (aX_ae:QNs K "NoCell" C_ae)
  (aX_aC:QNs K "NoLine" C_aC)
  (aX_aJ:QNs K "NoStep" C_aJ)
  (aX_az:QNs K "NoPoint" C_az)
  (bb:W.subIn K (.ref C_aR) (.type "BaseException")=some true)
  (bm:W.mroIn K C_aR (.type "object")=some true)
  (bt:W.typeIn K (.ref C_aR)=some (.type "type"))
  (ogs:W.specialIn K (.builtin "object.__class__") "__get__"=some (some (.builtin "getset_descriptor.__get__")))
  (otk:W.takesIn K (.builtin "object.__class__")=some true)
  (x_aw:QXc K C_aw)
  (xg_BadSize:QXg K C_aw)
  (sb_aw:W.subIn K (.ref C_aw) (.ref C_aR)=some true)
  (x_aA:QXc K C_aA)
  (xg_BadBit:QXg K C_aA)
  (sb_aA:W.subIn K (.ref C_aA) (.ref C_aR)=some true)
  (x_ae:QXc K C_ae)
  (xg_NoCell:QXg K C_ae)
  (sb_ae:W.subIn K (.ref C_ae) (.ref C_aR)=some true)
  (kt_ae_aw:QKt K C_ae C_aw false)
  (kt_ae_aA:QKt K C_ae C_aA false)
  (kt_ae_ae:QKt K C_ae C_ae true)
  (kt_ae_aC:QKt K C_ae C_aC false)
  (kt_ae_aJ:QKt K C_ae C_aJ false)
  (kt_ae_az:QKt K C_ae C_az false)
  (kv_ae:W.kitOne K (.ref C_ae) (.type "ValueError")=some true)
  (x_aC:QXc K C_aC)
  (xg_NoLine:QXg K C_aC)
  (sb_aC:W.subIn K (.ref C_aC) (.ref C_aR)=some true)
  (x_aJ:QXc K C_aJ)
  (xg_NoStep:QXg K C_aJ)
  (sb_aJ:W.subIn K (.ref C_aJ) (.ref C_aR)=some true)
  (x_az:QXc K C_az)
  (xg_NoPoint:QXg K C_az)
  (sb_az:W.subIn K (.ref C_az) (.ref C_aR)=some true)
  (v_LONGEST_SIDE:W.nsIn K F7 "LONGEST_SIDE"=some (some (.int 40 tk_LONGEST_SIDE)))
  (z_aL:QNn K "isinstance")
  (z_int:QNn K "int")
  (z_bool:QNn K "bool")
  (z_all:QNn K "all")
  (z_len:QNn K "len")
  (z_aZ:QNn K "tuple")
  (z_list:QNn K "list")
  (z_ai:QNn K "range")
  (z_abs:QNn K "abs")
  (z_str:QNn K "str")
  (z_zip:QNn K "zip")
  (z_aY:QNn K "ValueError")
  (z_sorted:QNn K "sorted")
  (z_min:QNn K "min")
  (z_max:QNn K "max")
  (z_reversed:QNn K "reversed")
  (z_a1:QNn K "enumerate")
  (z_dict:QNn K "dict")
  (tb_numbersaround:W.tabIn K "numbers_around"=some (cd_numbersaround,tp_numbersaround))
  (th_numbersaround:W.codeHdIn K cd_numbersaround tp_numbersaround=true)
  (tl_numbersaround:K.lookup tp_numbersaround=none)
  (tc_numbersaround:d_aa.code=.ref cd_numbersaround):∃ t:Ad,Txt K mg t :=
 ⟨{ a_a0:=C_a0,a_af:=C_af,f_av:=f_av,d_av:=d_av,f_aj:=f_aj,d_aj:=d_aj,f_aN:=f_aN,d_aN:=d_aN,f_ax:=f_ax,d_ax:=d_ax,f_aG:=f_aG,d_aG:=d_aG,f_al:=f_al,d_al:=d_al,f_aq:=f_aq,d_aq:=d_aq,f_ak:=f_ak,d_ak:=d_ak,f_ah:=f_ah,d_ah:=d_ah,f_ag:=f_ag,d_ag:=d_ag,f_ac:=f_ac,d_ac:=d_ac,f_ar:=f_ar,d_ar:=d_ar,f_ab:=f_ab,d_ab:=d_ab,f_am:=f_am,d_am:=d_am,f_aI:=f_aI,d_aI:=d_aI,f_ao:=f_ao,d_ao:=d_ao,f_aQ:=f_aQ,d_aQ:=d_aQ,f_ap:=f_ap,d_ap:=d_ap,f_au:=f_au,d_au:=d_au,f_aW:=f_aW,d_aW:=d_aW,f_an:=f_an,d_an:=d_an,f_aK:=f_aK,d_aK:=d_aK,f_at:=f_at,d_at:=d_at,f_aO:=f_aO,d_aO:=d_aO,f_aF:=f_aF,d_aF:=d_aF,f_aa:=f_aa,d_aa:=d_aa,f_aH:=f_aH,d_aH:=d_aH,f_as:=f_as,d_as:=d_as,f_aB:=f_aB,d_aB:=d_aB,f_aP:=f_aP,d_aP:=d_aP,f_aV:=f_aV,d_aV:=d_aV,f_aT:=f_aT,d_aT:=d_aT,f_aU:=f_aU,d_aU:=d_aU,f_ay:=f_ay,d_ay:=d_ay,f_aE:=f_aE,d_aE:=d_aE,f_aM:=f_aM,d_aM:=d_aM,f_aX:=f_aX,d_aX:=d_aX,f_aD:=f_aD,d_aD:=d_aD,f_aS:=f_aS,d_aS:=d_aS,f_ad:=f_ad,d_ad:=d_ad,f_law:=f_law,d_law:=d_law,a_aR:=C_aR,a_aw:=C_aw,a_aA:=C_aA,a_ae:=C_ae,a_aC:=C_aC,a_aJ:=C_aJ,a_az:=C_az,tk_LONGEST_SIDE:=tk_LONGEST_SIDE,cd_numbersaround:=cd_numbersaround,tp_numbersaround:=tp_numbersaround },⟨W.mg_of X G aC_a0,W.mg_of X G aC_af,⟨pg_af,hd_af,po_af,sa_af⟩,⟨mk_af,a_ak,i_ak,kc_af⟩,na_columns_count,na_rows_count,na_col_bits,na_row_bits,na_first_colour,F_av,F_av.b1 fun _ _ _ _ _ _ _=>rfl,W.mg_of X G a_av,F_aj,F_aj.b2 fun _ _ _ _ _ _ _ _=>rfl,W.mg_of X G a_aj,F_aN,F_aN.b1 fun _ _ _ _ _ _ _=>rfl,W.mg_of X G a_aN,F_ax,F_ax.b1 fun _ _ _ _ _ _ _=>rfl,W.mg_of X G a_ax,F_aG,F_aG.b1 fun _ _ _ _ _ _ _=>rfl,W.mg_of X G a_aG,F_al,F_al.b3 fun _ _ _ _ _ _ _ _ _=>rfl,W.mg_of X G a_al,F_aq,F_aq.b5 fun _ _ _ _ _ _ _ _ _ _ _=>rfl,⟨ga_a0,rd_a0,fc_aq,F_aq.kp⟩,F_ak,F_ak.b4 fun _ _ _ _ _ _ _ _ _ _=>rfl,F_ah,F_ah.b1 fun _ _ _ _ _ _ _=>rfl,⟨a_ah,i_ah,F_ah.kp⟩,F_ag,F_ag.b1 fun _ _ _ _ _ _ _=>rfl,⟨a_ag,i_ag,F_ag.kp⟩,F_ac,F_ac.b2 fun _ _ _ _ _ _ _ _=>rfl,⟨a_ac,i_ac,F_ac.kp⟩,F_ar,F_ar.b3 fun _ _ _ _ _ _ _ _ _=>rfl,⟨a_ar,i_ar,F_ar.kp⟩,F_ab,F_ab.b4 fun _ _ _ _ _ _ _ _ _ _=>rfl,⟨a_ab,i_ab,F_ab.kp⟩,F_am,F_am.b3 fun _ _ _ _ _ _ _ _ _=>rfl,W.mg_of X G a_am,F_aI,F_aI.b3 fun _ _ _ _ _ _ _ _ _=>rfl,W.mg_of X G a_aI,F_ao,F_ao.b2 fun _ _ _ _ _ _ _ _=>rfl,W.mg_of X G a_ao,F_aQ,F_aQ.b3 fun _ _ _ _ _ _ _ _ _=>rfl,W.mg_of X G a_aQ,F_ap,F_ap.b2 fun _ _ _ _ _ _ _ _=>rfl,W.mg_of X G a_ap,F_au,F_au.b2 fun _ _ _ _ _ _ _ _=>rfl,W.mg_of X G a_au,F_aW,F_aW.b2 fun _ _ _ _ _ _ _ _=>rfl,W.mg_of X G a_aW,F_an,F_an.b1 fun _ _ _ _ _ _ _=>rfl,W.mg_of X G a_an,F_aK,F_aK.b1 fun _ _ _ _ _ _ _=>rfl,W.mg_of X G a_aK,F_at,F_at.b1 fun _ _ _ _ _ _ _=>rfl,W.mg_of X G a_at,F_aO,F_aO.b1 fun _ _ _ _ _ _ _=>rfl,W.mg_of X G a_aO,F_aF,F_aF.b1 fun _ _ _ _ _ _ _=>rfl,W.mg_of X G a_aF,F_aa,F_aa.b1 fun _ _ _ _ _ _ _=>rfl,W.mg_of X G a_aa,F_aH,F_aH.b1 fun _ _ _ _ _ _ _=>rfl,W.mg_of X G a_aH,F_as,F_as.b3 fun _ _ _ _ _ _ _ _ _=>rfl,W.mg_of X G a_as,F_aB,F_aB.b2 fun _ _ _ _ _ _ _ _=>rfl,W.mg_of X G a_aB,F_aP,F_aP.b2 fun _ _ _ _ _ _ _ _=>rfl,W.mg_of X G a_aP,F_aV,F_aV.b2 fun _ _ _ _ _ _ _ _=>rfl,W.mg_of X G a_aV,F_aT,F_aT.b1 fun _ _ _ _ _ _ _=>rfl,W.mg_of X G a_aT,F_aU,F_aU.b1 fun _ _ _ _ _ _ _=>rfl,W.mg_of X G a_aU,F_ay,F_ay.b1 fun _ _ _ _ _ _ _=>rfl,W.mg_of X G a_ay,F_aE,F_aE.b2 fun _ _ _ _ _ _ _ _=>rfl,W.mg_of X G a_aE,F_aM,F_aM.b1 fun _ _ _ _ _ _ _=>rfl,W.mg_of X G a_aM,F_aX,F_aX.b1 fun _ _ _ _ _ _ _=>rfl,W.mg_of X G a_aX,F_aD,F_aD.b2 fun _ _ _ _ _ _ _ _=>rfl,W.mg_of X G a_aD,F_aS,F_aS.b2 fun _ _ _ _ _ _ _ _=>rfl,W.mg_of X G a_aS,F_ad,F_ad.b3 fun _ _ _ _ _ _ _ _ _=>rfl,W.mg_of X G a_ad,F_law,F_law.b1 fun _ _ _ _ _ _ _=>rfl,W.mg_of X G a_law,W.mg_of X G aX_aR,W.mg_of X G aX_aw,W.mg_of X G aX_aA,W.mg_of X G aX_ae,W.mg_of X G aX_aC,W.mg_of X G aX_aJ,W.mg_of X G aX_az,x_aw,⟨xg_BadSize.1,xg_BadSize.2.1,xg_BadSize.2.2.1,ogs,otk,xg_BadSize.2.2.2.1,xg_BadSize.2.2.2.2⟩,iS bb bm bt sb_aw,x_aA,⟨xg_BadBit.1,xg_BadBit.2.1,xg_BadBit.2.2.1,ogs,otk,xg_BadBit.2.2.2.1,xg_BadBit.2.2.2.2⟩,iS bb bm bt sb_aA,x_ae,⟨xg_NoCell.1,xg_NoCell.2.1,xg_NoCell.2.2.1,ogs,otk,xg_NoCell.2.2.2.1,xg_NoCell.2.2.2.2⟩,iS bb bm bt sb_ae,kt_ae_aw,kt_ae_aA,kt_ae_ae,kt_ae_aC,kt_ae_aJ,kt_ae_az,kv_ae,x_aC,⟨xg_NoLine.1,xg_NoLine.2.1,xg_NoLine.2.2.1,ogs,otk,xg_NoLine.2.2.2.1,xg_NoLine.2.2.2.2⟩,iS bb bm bt sb_aC,x_aJ,⟨xg_NoStep.1,xg_NoStep.2.1,xg_NoStep.2.2.1,ogs,otk,xg_NoStep.2.2.2.1,xg_NoStep.2.2.2.2⟩,iS bb bm bt sb_aJ,x_az,⟨xg_NoPoint.1,xg_NoPoint.2.1,xg_NoPoint.2.2.1,ogs,otk,xg_NoPoint.2.2.2.1,xg_NoPoint.2.2.2.2⟩,iS bb bm bt sb_az,W.mg_of X G v_LONGEST_SIDE,W.mg_none_of X G z_aL,W.mg_none_of X G z_int,W.mg_none_of X G z_bool,W.mg_none_of X G z_all,W.mg_none_of X G z_len,W.mg_none_of X G z_aZ,W.mg_none_of X G z_list,W.mg_none_of X G z_ai,W.mg_none_of X G z_abs,W.mg_none_of X G z_str,W.mg_none_of X G z_zip,W.mg_none_of X G z_aY,W.mg_none_of X G z_sorted,W.mg_none_of X G z_min,W.mg_none_of X G z_max,W.mg_none_of X G z_reversed,W.mg_none_of X G z_a1,W.mg_none_of X G z_dict,tb_numbersaround,th_numbersaround,tl_numbersaround,tc_numbersaround⟩⟩
local macro_rules | `(tactic| walk_at "rd1") => `(tactic| first
  | ((with_reducible refine' Cv (v:=?kv) ?ke ?kh); (case ke=>exact rfl)) | (with_reducible refine Ak fun _ _=>?_) | (with_reducible refine B9 ?_) | (with_reducible refine bY ?_) | (with_reducible refine Cr ?_) | (with_reducible refine zW ?_) | (with_reducible refine Ck ?_) | (with_reducible refine Dk ?_) | (with_reducible refine x8 ?_) | (with_reducible refine zX ?_) | (with_reducible refine DW ?_) | (with_reducible refine Dg ?_) | (with_reducible refine Dl ?_) | (with_reducible refine zQ ?_) | (with_reducible refine Af ?_) | (with_reducible refine B8 ?_) | (with_reducible refine Di ?_) | (with_reducible refine Cq ?_) | (with_reducible refine da ?_) | (with_reducible refine Dd ?_) | (with_reducible refine DV ?_) | (with_reducible refine Cf ?_) | (with_reducible refine Co ?_) | (with_reducible refine Cg ?_) | (with_reducible refine Ce ?_) | (with_reducible refine Cn ?_) | (with_reducible refine xG ?_) | (with_reducible refine zR ?_) | (with_reducible refine Cp ?_) | (with_reducible refine zT ?_) | (with_reducible refine Dc ?_) | (with_reducible refine Am ?_) | (with_reducible refine z8 ?_) | (with_reducible refine Ae ?_) | (with_reducible refine x9 ?_) | (with_reducible refine uK ?_) | (with_reducible refine dR ?_) | (with_reducible refine jA ?_) | (with_reducible refine Al ?_) | (with_reducible refine yd ?_) | (with_reducible refine zS ?_) | (with_reducible refine Ci ?_) | (with_reducible refine Aa ?_) | (with_reducible refine z9 ?_) | (with_reducible refine xW ?_) | (with_reducible refine Cu ?_) | (with_reducible refine xE ?_) | (with_reducible refine De ?_) | (with_reducible refine Ca ?_) | (with_reducible refine Dj ?_) | (with_reducible refine uN ?_) | (with_reducible refine Ag ?_) | (with_reducible refine xQ ?_) | (with_reducible refine xR ?_) | (with_reducible refine Df ?_) | (with_reducible refine zV ?_) | (with_reducible refine Cd ?_) | (with_reducible refine xO ?_) | (with_reducible refine xN ?_) | (with_reducible refine zU ?_) | (with_reducible refine xI ?_) | (with_reducible refine Aj ?_) | (with_reducible refine xS ?_) | (with_reducible refine B7 ?_) | (with_reducible refine Ab ?_) | (with_reducible refine Cj ?_) | (with_reducible refine Ai ?_) | (with_reducible refine xT ?_) | (with_reducible refine jW ?_) | (with_reducible refine DM ?_) | (with_reducible refine CT ?_) | (with_reducible refine CU ?_) | ((with_reducible refine' Cc (r:=?kr) ?ke ?kh); (case ke=>assumption)) | (dsimp only))
local macro_rules | `(tactic| walk_at "") => `(tactic| repeat walk_at "rd1")
local macro_rules | `(tactic| walk_at "l") => `(tactic| ((intro vs H Q E h); (iterate 40 (try (obtain ⟨_, h⟩ := h))); (all_goals (subst_vars; rfl))))
local macro_rules | `(tactic| symm at $h:ident) => `(tactic| simp only [List.mem_cons,List.not_mem_nil,or_false] at $h:ident)
local macro_rules | `(tactic| left) => `(tactic| walk_at "")
local macro_rules | `(tactic| apply $e) => `(tactic| (walk_at ""; refine $e))
section
variable {P:D_} {w:Eh} {K:W.Frag} {mg:Str->Option ς} {base:E5} {t:Ad}
noncomputable def df (i:Int):Bool:=decide (0<=i)&&decide (i<2)
def sp_av:Sp:=fun vs H Q _=>∃ i,vs=[.int i]/\Q (.bl true) H
theorem ok_av (T:Txt K mg t):aW P w K mg base CX0 1 t.f_av t.d_av ["value"] sp_av:=by
 refine T.F_av.ok sc_av (by walk_at "l") (fun _ _ _ s H vs Q E hr h=>?_)
 ·obtain ⟨i,rfl,k⟩:=h;refine ⟨_,(ao (aD (j9 (aq (bg K rfl) rfl T.no_aL (by rfl) (aa (pv 0) (aa (bW (v:=.ty "int") rfl T.no_int (by rfl:FA "int"=some (.type "int")) rfl) ae))) (ki (BY (aq (bg K rfl) rfl T.no_aL (by rfl) (aa (pv 0) (aa (bW (v:=.ty "bool") rfl T.no_bool (by rfl:FA "bool"=some (.type "bool")) rfl) ae)))))))),?_⟩;apply cS (.int i) BK ?_;apply cS (.int i) BJ ?_;left;exact k
def sp_aj:Sp:=fun vs H Q _=>∃ i b,vs=[.int i,.int b]/\Q (.bl (decide (0<=i)&&decide (i<b))) H
theorem ok_aj (T:Txt K mg t):aW P w K mg base CX0 2 t.f_aj t.d_aj ["value","bound"] sp_aj:=by
 refine T.F_aj.ok sc_aj (by walk_at "l") (fun _ _ _ s H vs Q E hr h=>?_)
 ·obtain ⟨i,b,rfl,k⟩:=h;refine ⟨_,(ao (aD (j9 (au (ok_av T) (rmo hr) rfl T.mg_av T.F_av.kp T.b_av .nil aS (aa (pv 0) ae)) (ki (wW wL fL ah (pv 0) (pv 1)))))),?_⟩;apply ⟨i,rfl,?_⟩;apply jV (fun h0=>?_) (fun h0=>?_)
  ·left;rw [h0] at k;exact k
  ·rw [Bool.not_eq_true] at h0;rw [h0] at k;exact k
def sp_aN:Sp:=fun vs H Q _=>∃ i,vs=[.int i]/\Q (.bl (df i)) H
theorem ok_aN (T:Txt K mg t):aW P w K mg base CX0 3 t.f_aN t.d_aN ["value"] sp_aN:=by
 refine T.F_aN.ok sc_aN (by walk_at "l") (fun _ _ _ s H vs Q E hr h=>?_)
 ·obtain ⟨i,rfl,k⟩:=h;refine ⟨_,(ao (aD (au (ok_aj T) (rmo hr) rfl T.mg_aj T.F_aj.kp T.b_aj .nil aS (aa (pv 0) (aa ah ae))))),?_⟩;left;exact ⟨i,2,rfl,k⟩
noncomputable def gG (n:Int):Bool:=decide (0<n)&&decide (n<41)
def sp_aG:Sp:=fun vs H Q _=>∃ i,vs=[.int i]/\Q (.bl (gG i)) H
theorem ok_aG (T:Txt K mg t):aW P w K mg base CX0 3 t.f_aG t.d_aG ["count"] sp_aG:=by
  refine T.F_aG.ok sc_aG (fun vs H Q E h=>?_) (fun cdv A outer s H vs Q E hr h=>?_)
  · obtain ⟨i,rfl,_⟩:=h; rfl
  · obtain ⟨i,rfl,k⟩:=h
    refine ⟨_,(ao (aD (j9 (au (ok_aj T) (rmo hr) rfl T.mg_aj T.F_aj.kp T.b_aj .nil aS (aa (pv 0) (aa (aE bB (eD (v:=.int 40) rfl T.mg_LONGEST_SIDE ⟨_,rfl⟩) ah) ae))) (ki (ka wK (pv 0) ah))))),?_⟩;apply ⟨i,_,rfl,?_⟩;apply jV (fun h0=>?_) (fun h0=>?_)
    · left
      have e:gG i=decide (0<i):=by
        rw [Eu,decide_eq_true_eq,decide_eq_true_eq] at h0;unfold gG;rw [bC (by omega:i<41),Bool.and_true]
      rw [e] at k;exact k
    · have e:gG i=false:=by
        rw [Eu,decide_eq_true_eq,decide_eq_true_eq] at h0;unfold gG;by_cases hi:0<i
        · rw [cx (by omega:¬ i<41),Hw]
        · rw [cx hi,Js]
      rw [e] at k;exact k
theorem qe {n:Nat}:gG ((n:Int)+1)=decide (n<=39):=by
 unfold gG;rw [bC (by omega:(0:Int)<(n:Int)+1),J7];exact decide_eq_decide.mpr (by omega)
def sp_ax:Sp:=fun vs H Q _=>∃ (p:Δ) (ns:List Int),vs=[.ref p]/\H p=some (.lst (ns.map V.int))/\ns.length<=1000/\∀ H',aj H H'->Q (.bl (ns.all df)) H'
theorem ok_ax (T:Txt K mg t):aW P w K mg base CX0 4 t.f_ax t.d_ax ["values"] sp_ax:=by
 refine T.F_ax.ok sc_ax (by walk_at "l") (fun _ _ _ s H vs Q E hr h=>?_)
 ·obtain ⟨p,ns,rfl,hp,hl,k⟩:=h;refine ⟨_,(ao (aD (aq (mO K rfl rfl) rfl T.no_all (by rfl) (aa (bK (N:=["value"]) (cap:=[none]) rfl ⟨rfl,rfl,rfl,rfl,rfl,rfl⟩ (bz (pv 0)) (fun _ _ _=>(aw (i:=0) (show (["value"]:List Str).Nodup by decide +kernel) rfl (E_ rfl))) (fun _ _ _=>bL) (fun _ _ _=>(au (ok_aN T) (rmo hr) rfl T.mg_aN T.F_aN.kp T.b_aN .nil aS (aa (pv 0) ae)))) ae)))),?_⟩;apply ⟨⟨_,SqL.of hp⟩,fun l hn=>?_⟩;refine jP (fun v=>match v with | .int i=>.bl (df i) | _=>.non) (SqL.of hp) (by rw [Ξ]; exact hl) hn (fun x o H' Q' hx s1 q=>?_) (fun H' s1 e=>?_)
  ·obtain ⟨i,_,rfl⟩:=EJ.mp hx;left;exact ⟨i,rfl,q H' (aj.refl _)⟩
  ·left;have e':H' l=some (.lst ((ns.map df).map V.bl)):=by rw [e,Ez,Ez]; rfl
   refine ri e' ?_;rw [List.all_map];exact k H' s1
noncomputable def bfl (a b:Δ) (w h:Int):List (Str×V):=dQ "row_bits" (.ref b) (dQ "col_bits" (.ref a) (dQ "rows_count" (.int h) (dQ "columns_count" (.int w) [])))
noncomputable def cfl (s:Int) (a b:Δ) (w h:Int):List (Str×V):=dQ "first_colour" (.int s) (bfl a b w h)
abbrev NoF (m:Str):Prop:=((¬ m="first_colour")/\¬ m="col_bits")/\(¬ m="row_bits")/\(¬ m="columns_count")/\¬ m="rows_count"
theorem CM {w h:Int} (a b:Δ):(bfl a b w h).lookup ("columns_count":Str)=some (.int w):=by
 unfold bfl; rw [aG,if_neg (by decide +kernel),aG,if_neg (by decide +kernel),aG,if_neg (by decide +kernel),aG,if_pos rfl]
theorem CK {w h:Int} (a b:Δ):(bfl a b w h).lookup ("rows_count":Str)=some (.int h):=by
 unfold bfl; rw [aG,if_neg (by decide +kernel),aG,if_neg (by decide +kernel),aG,if_pos rfl]
theorem CJ {w h:Int} (a b:Δ):(bfl a b w h).lookup ("col_bits":Str)=some (.ref a):=by
 unfold bfl; rw [aG,if_neg (by decide +kernel),aG,if_pos rfl]
theorem CL {w h:Int} (a b:Δ):(bfl a b w h).lookup ("row_bits":Str)=some (.ref b):=by
 unfold bfl; rw [aG,if_pos rfl]
theorem Bq {w h:Int} (a b:Δ) {m:Str} (n:NoF m):(bfl a b w h).lookup m=none:=by
 obtain ⟨⟨n1,n2⟩,n3,n4,n5⟩:=n;unfold bfl; rw [aG,if_neg n3,aG,if_neg n2,aG,if_neg n5,aG,if_neg n4]; rfl
theorem CQ {w h:Int} (s:Int) (a b:Δ):(cfl s a b w h).lookup ("columns_count":Str)=some (.int w):=by
 unfold cfl; rw [aG,if_neg (by decide +kernel),CM]
theorem CO {w h:Int} (s:Int) (a b:Δ):(cfl s a b w h).lookup ("rows_count":Str)=some (.int h):=by
 unfold cfl; rw [aG,if_neg (by decide +kernel),CK]
theorem CN {w h:Int} (s:Int) (a b:Δ):(cfl s a b w h).lookup ("col_bits":Str)=some (.ref a):=by
 unfold cfl; rw [aG,if_neg (by decide +kernel),CJ]
theorem CP {w h:Int} (s:Int) (a b:Δ):(cfl s a b w h).lookup ("row_bits":Str)=some (.ref b):=by
 unfold cfl; rw [aG,if_neg (by decide +kernel),CL]
theorem gE {w h:Int} (s:Int) (a b:Δ) {m:Str} (n:NoF m):(cfl s a b w h).lookup m=none:=by
 unfold cfl; rw [aG,if_neg n.1.1,Bq _ _ n]
structure rZ (C:Δ) (H:Hp) (p:Δ) (w h:Int) (cs rs:List Int):Prop where
 ob:∃ dx a b,H p=some (.ins C dx (bfl a b w h))/\H a=some (.tup (cs.map V.int))/\H b=some (.tup (rs.map V.int))
structure aP (C:Δ) (H:Hp) (p:Δ) (s:Int) (cs rs:List Int):Prop where
 ob:∃ dx a b,H p=some (.ins C dx (cfl s a b ((cs.length:Int)+1) ((rs.length:Int)+1)))/\H a=some (.tup (cs.map V.int))/\H b=some (.tup (rs.map V.int))
theorem aP.mono {C:Δ} {H H':Hp} {p:Δ} {s:Int} {cs rs:List Int} (e:aj H H') (c:aP C H p s cs rs):aP C H' p s cs rs:=by
 obtain ⟨dx,a,b,h1,h2,h3⟩:=c.ob;exact ⟨dx,a,b,e _ _ h1,e _ _ h2,e _ _ h3⟩
def kW (l:List Int):Prop:=l.length<=39/\∀ z∈l,z=0\/z=1
theorem kW.all {l:List Int} (h:kW l):l.all df=true:=by
 rw [Fy];intro z hz;rcases h.2 z hz with rfl | rfl<;>rfl
def jI (H:Hp) (p:Δ) (H':Hp):Prop:=∀ b o,H b=some o->b≠p->H' b=some o
noncomputable def eG (s:Int) (cs rs:List Int):Bool:=df s&&(cs.all df&&rs.all df)
theorem kW.ok {s:Int} {cs rs:List Int} (hs:s=0\/s=1) (bc:kW cs) (br:kW rs):eG s cs rs=true:=by
 unfold eG;rw [bc.all,br.all];rcases hs with rfl | rfl<;>rfl
def lI (C BB:Δ):Sp:=fun vs H Q E=>∃ (p dx c r:Δ) (w h:Int) (cs rs:List Int),vs=[.ref p,.int w,.int h,.ref c,.ref r]/\H p=some (.ins C dx [])/\H c=some (.lst (cs.map V.int))/\H r=some (.lst (rs.map V.int)) /\
 cs.length<=1000/\rs.length<=1000/\(((cs.all df&&rs.all df)=false/\∀ H',aj H H'->E (.ref BB) none H') \/
  ((cs.all df&&rs.all df)=true/\∀ H',jI H p H'->rZ C H' p w h cs rs->Q .non H'))
theorem okx_aq (T:Txt K mg t):aW P w K mg base (CX1 P w) 5 t.f_aq t.d_aq ["self","wide","tall","cols","rows"] (lI t.a_af t.a_aA):=by
 refine T.F_aq.ok1 sc_aq (by walk_at "l") (fun _ _ _ s H vs Q E hr h=>?_)
 ·obtain ⟨p,dx,c,r,wd,ht,cs,rs,rfl,hp,hc,hr',lc,lr,k⟩:=h;refine aN (bD (cY (PW.pt (fN (bO (au (ok_ax T).up (rmo hr) rfl T.mg_ax T.F_ax.kp T.b_ax .nil bZ (aa (pv 3) ae))) (fi (bO (au (ok_ax T).up (rmo hr) rfl T.mg_ax T.F_ax.kp T.b_ax .nil bZ (aa (pv 4) ae))))))) (ao (cM T.mg_aA T.x_aA FY rfl rfl (fun _ _ _ _ _ _ _ _ I m q=>fZ I m q) (aa bS ae))) aM) fun _ _=>aN (kl (pv 0) (pv 1) rfl) fun _ _=>aN (kl (pv 0) (pv 2) rfl) fun _ _=>aN (kl (pv 0) (eQ (lR K rfl) rfl T.no_aZ (by rfl) (aa (pv 3) ae)) rfl) fun _ _=>dY (kl (pv 0) (eQ (lR K rfl) rfl T.no_aZ (by rfl) (aa (pv 4) ae)) rfl) fun _ _=>?_;apply ⟨c,cs,rfl,hc,lc,fun H1 s1=>?_⟩
  cases b2:cs.all df with
  | false =>
   apply ⟨by show 1<=D7; decide,?_⟩;rcases k with ⟨_,e⟩ | ⟨y,_⟩
   ·exact e _ s1
   ·rw [b2] at y; cases y
  | true =>
   apply ⟨r,rs,rfl,s1 _ _ hr',lr,fun H2 s2=>?_⟩;have s12:=s1.trans s2
   cases b3:rs.all df with
   | false =>
    apply ⟨by show 1<=D7; decide,?_⟩;rcases k with ⟨_,e⟩ | ⟨y,_⟩
    ·exact e _ s12
    ·rw [b2,b3] at y; cases y
   | true =>
    left
    have k:∀ H',jI H p H'->rZ t.a_af H' p wd ht cs rs->Q .non H':=by
     rcases k with ⟨y,_⟩ | ⟨_,z⟩
     ·rw [b2,b3] at y; cases y
     ·exact z
    have npc:c≠p:=aZ hc hp (by intro z; cases z);have npr:r≠p:=aZ hr' hp (by intro z; cases z);refine fO (s12 _ _ hp) T.cl_af T.na_columns_count (by show 0<1000; decide) ?_;apply fO ag T.cl_af T.na_rows_count (Ej (bh _ _ _) (by show 1<1000; decide)) ?_;rw [AB];apply mz (by rw [ai npc]; exact s12 _ _ hc) fun a ha=>?_;have pa:p≠a:=by intro z; subst z; rw [ag] at ha; cases ha
    apply fO (by rw [ai pa,ag]) T.cl_af T.na_col_bits (Ej (bh _ _ _) (Ej (F6 (bh _ _ _)) (by show 2<1000; decide))) ?_;left;have ra:r≠a:=by intro z; subst z; rw [ai npr,s12 _ _ hr'] at ha; cases ha
    refine mz (by rw [ai npr,ai ra,ai npr]; exact s12 _ _ hr') fun b hb=>?_;have pb:p≠b:=by intro z; subst z; rw [ag] at hb; cases hb
    have ab:a≠b:=by intro z; subst z; rw [ai pa.symm,ag] at hb; cases hb
    apply fO (by rw [ai pb,ag]) T.cl_af T.na_row_bits (Ej (bh _ _ _) (Ej (F6 (bh _ _ _)) (Ej (F6 (F6 (bh _ _ _))) (by show 3<1000; decide)))) ?_;apply k _ (fun x o e hx=>?_) ⟨⟨dx,a,b,ag,?_,?_⟩⟩
    ·have e2:=s12 _ _ e;have xa:x≠a:=by intro z; subst z; rw [ai hx,e2] at ha; cases ha
     have xb:x≠b:=by intro z; subst z; rw [ai hx,ai xa,ai hx,e2] at hb; cases hb
     rw [ai hx,ai xb,ai hx,ai xa,ai hx];exact e2
    ·rw [ai pa.symm,ai ab,ai pa.symm,ag]
    ·rw [ai pb.symm,ag]
def lJ (C BS BB:Δ):Sp:=fun vs H Q E=>∃ (p dx c r:Δ) (s:Int) (cs rs:List Int),vs=[.ref p,.int s,.ref c,.ref r]/\H p=some (.ins C dx [])/\H c=some (.lst (cs.map V.int))/\H r=some (.lst (rs.map V.int)) /\
 cs.length<=1000/\rs.length<=1000/\((¬ (cs.length<=39/\rs.length<=39)/\E (.ref BS) none H)\/((cs.length<=39/\rs.length<=39)/\eG s cs rs=false/\∀ H',jI H p H'->E (.ref BB) none H') \/
  ((cs.length<=39/\rs.length<=39)/\eG s cs rs=true/\∀ H',jI H p H'->aP C H' p s cs rs->Q .non H'))
theorem okx_ak (T:Txt K mg t):aW P w K mg base (CX1 P w) 6 t.f_ak t.d_ak ["self","shade","cols","rows"] (lJ t.a_af t.a_aw t.a_aA):=by
 refine T.F_ak.ok1 sc_ak (by walk_at "l") (fun _ _ _ s H vs Q E hr h=>?_)
 ·obtain ⟨p,dx,c,r,s,cs,rs,rfl,hp,hc,hr',lc,lr,k⟩:=h;refine aN (bD (cY (PW.pt (fN (bO (au (ok_aG T).up (rmo hr) rfl T.mg_aG T.F_aG.kp T.b_aG .nil bZ (aa (aE bB (aq (bu K rfl) rfl T.no_len (by rfl) (aa (pv 2) ae)) ah) ae))) (fi (bO (au (ok_aG T).up (rmo hr) rfl T.mg_aG T.F_aG.kp T.b_aG .nil bZ (aa (aE bB (aq (bu K rfl) rfl T.no_len (by rfl) (aa (pv 3) ae)) ah) ae))))))) (ao (cM T.mg_aw T.x_aw FY rfl rfl (fun _ _ _ _ _ _ _ _ I m q=>fZ I m q) (aa bS ae))) aM) fun _ _=>aN (bD (cY (bO (au (ok_aN T).up (rmo hr) rfl T.mg_aN T.F_aN.kp T.b_aN .nil bZ (aa (pv 1) ae)))) (ao (cM T.mg_aA T.x_aA FY rfl rfl (fun _ _ _ _ _ _ _ _ I m q=>fZ I m q) (aa bS ae))) aM) fun _ _=>aN (bo (wR rfl T.mg_a0 T.cf_aq (okx_aq T) (rmo hr) T.b_aq .nil bZ (aa (pv 0) (aa (aE bB (aq (bu K rfl) rfl T.no_len (by rfl) (aa (pv 2) ae)) ah) (aa (aE bB (aq (bu K rfl) rfl T.no_len (by rfl) (aa (pv 3) ae)) ah) (aa (pv 2) (aa (pv 3) ae))))))) fun _ _=>dY (kl (pv 0) (pv 1) rfl) fun _ _=>?_;apply bA hc ?_;apply ⟨_,rfl,?_⟩;rw [Ξ,qe];have sz:(¬ (cs.length<=39/\rs.length<=39)->E (.ref t.a_aw) none H):=fun n=>by
   rcases k with ⟨_,e⟩ | ⟨z,_⟩ | ⟨z,_⟩
   ·exact e
   ·exact absurd z n
   ·exact absurd z n
  by_cases c1:cs.length<=39
  ·rw [bC c1];apply bA hr' ?_;apply ⟨_,rfl,?_⟩;rw [Ξ,qe];by_cases c2:rs.length<=39
   ·rw [bC c2];left
    have k:(eG s cs rs=false/\∀ H',jI H p H'->E (.ref t.a_aA) none H')\/(eG s cs rs=true/\∀ H',jI H p H'->aP t.a_af H' p s cs rs->Q .non H'):=by
     rcases k with ⟨z,_⟩ | ⟨_,z⟩ | ⟨_,z⟩
     ·exact absurd ⟨c1,c2⟩ z
     ·exact .inl z
     ·exact .inr z
    have bad:∀ H',eG s cs rs=false->aj H H'->E (.ref t.a_aA) none H':=fun H' z sm=>by
     rcases k with ⟨_,e⟩ | ⟨y,_⟩
     ·exact e H' fun b o eb _=>sm b o eb
     ·rw [z] at y; cases y
    refine ⟨s,rfl,?_⟩
    cases b1:df s with
    | false =>
     apply ⟨by show 1<=D7; decide,?_⟩;exact bad _ (by unfold eG; rw [b1]; rfl) (aj.refl _)
    | true =>
     apply bA hc ?_;apply bA hr' ?_;left;rw [Ξ,Ξ];refine ⟨p,dx,c,r,_,_,cs,rs,rfl,hp,hc,hr',lc,lr,?_⟩
     cases b2:(cs.all df&&rs.all df) with
     | false=>exact .inl ⟨rfl,fun H' s1=>bad _ (by unfold eG; rw [b2,Hw]) s1⟩
     | true =>
      refine .inr ⟨rfl,fun H' kp ⟨dx',a,b,h1,h2,h3⟩=>?_⟩
      have k:∀ H',jI H p H'->aP t.a_af H' p s cs rs->Q .non H':=by
       rcases k with ⟨y,_⟩ | ⟨_,z⟩
       ·unfold eG at y; rw [b1,b2] at y; cases y
       ·exact z
      apply fO h1 T.cl_af T.na_first_colour (by unfold bfl; exact Ej (bh _ _ _) (Ej (F6 (bh _ _ _)) (Ej (F6 (F6 (bh _ _ _))) (Ej (F6 (F6 (F6 (bh _ _ _)))) (by show 4<1000; decide))))) ?_;left;have pa:a≠p:=aZ h2 h1 (by intro z; cases z);have pb:b≠p:=aZ h3 h1 (by intro z; cases z);refine k _ (fun x o e hx=>?_) ⟨⟨dx',a,b,ag,?_,?_⟩⟩
      ·rw [ai hx]; exact kp x o e hx
      ·rw [ai pa]; exact h2
      ·rw [ai pb]; exact h3
   ·rw [cx c2];left;exact ⟨by show 1<=D7; decide,sz fun z=>c2 z.2⟩
  ·rw [cx c1];left;exact ⟨by show 1<=D7; decide,sz fun z=>c1 z.1⟩
def sp_ak (C:Δ):Sp:=fun vs H Q _=>∃ (p dx c r:Δ) (s:Int) (cs rs:List Int),vs=[.ref p,.int s,.ref c,.ref r]/\H p=some (.ins C dx [])/\H c=some (.lst (cs.map V.int))/\H r=some (.lst (rs.map V.int)) /\
 (s=0\/s=1)/\kW cs/\kW rs/\∀ H',(∀ b o,H b=some o->b≠p->H' b=some o)->aP C H' p s cs rs->Q .non H'
theorem ok_ak (T:Txt K mg t):aW P w K mg base CX0 6 t.f_ak t.d_ak ["self","shade","cols","rows"] (sp_ak t.a_af) :=
 (okx_ak T).down fun vs H Q E hh=>by
  obtain ⟨p,dx,c,r,s,cs,rs,e,hp,hc,hr,hs,bc,br,k⟩:=hh;exact ⟨p,dx,c,r,s,cs,rs,e,hp,hc,hr,by have:=bc.1; omega,by have:=br.1; omega,.inr (.inr ⟨⟨bc.1,br.1⟩,kW.ok hs bc br,k⟩)⟩
def sp_ah (C:Δ):Sp:=fun vs H Q _=>∃ (p:Δ) (s:Int) (cs rs:List Int),vs=[.ref p]/\aP C H p s cs rs/\Q (.int ((cs.length:Int)+1)) H
theorem ok_ah (T:Txt K mg t):aW P w K mg base CX0 1 t.f_ah t.d_ah ["self"] (sp_ah t.a_af):=by
 refine T.F_ah.ok sc_ah (by walk_at "l") (fun _ _ _ s H vs Q E hr h=>?_)
 ·obtain ⟨p,s,cs,rs,rfl,⟨dx,a,b,h1,h2,h3⟩,k⟩:=h;refine ⟨_,(ao (aD (jv K rfl (pv 0) rfl))),?_⟩;apply jz h1 T.cl_af T.na_columns_count (CQ _ _ _) ?_;left;exact k
def sp_ag (C:Δ):Sp:=fun vs H Q _=>∃ (p:Δ) (s:Int) (cs rs:List Int),vs=[.ref p]/\aP C H p s cs rs/\Q (.int ((rs.length:Int)+1)) H
theorem ok_ag (T:Txt K mg t):aW P w K mg base CX0 1 t.f_ag t.d_ag ["self"] (sp_ag t.a_af):=by
 refine T.F_ag.ok sc_ag (by walk_at "l") (fun _ _ _ s H vs Q E hr h=>?_)
 ·obtain ⟨p,s,cs,rs,rfl,⟨dx,a,b,h1,h2,h3⟩,k⟩:=h;refine ⟨_,(ao (aD (jv K rfl (pv 0) rfl))),?_⟩;apply jz h1 T.cl_af T.na_rows_count (CO _ _ _) ?_;left;exact k
def gV (w:Str) (cs rs bs:List Int):Prop:=(w="col"/\bs=cs)\/(w="row"/\bs=rs)
theorem xD:¬ (("row":Str)="col"):=by decide +kernel
def gP (C NL:Δ):Sp:=fun vs H Q E=>∃ (p:Δ) (w:Str) (s:Int) (cs rs:List Int),vs=[.ref p,.str w]/\aP C H p s cs rs /\
 ((∃ bs,gV w cs rs bs/\∀ a,H a=some (.tup (bs.map V.int))->Q (.ref a) H)\/(¬ w="col"/\¬ w="row"/\E (.ref NL) none H))
theorem okx_ac (T:Txt K mg t):aW P w K mg base (CX1 P w) 1 t.f_ac t.d_ac ["self","way"] (gP t.a_af t.a_aC):=by
 refine T.F_ac.ok1 sc_ac (by walk_at "l") (fun _ _ _ s H vs Q E hr h=>?_)
 ·obtain ⟨p,w,s,cs,rs,rfl,⟨dx,a,b,h1,h2,h3⟩,hw⟩:=h;refine aN (bD (bU et (pv 1) bS) (ao (aD (jv K rfl (pv 0) rfl))) aM) fun _ _=>aN (bD (bU et (pv 1) bS) (ao (aD (jv K rfl (pv 0) rfl))) aM) fun _ _=>dY (cM T.mg_aC T.x_aC FY rfl rfl (fun _ _ _ _ _ _ _ _ I m q=>fZ I m q) (aa bS ae)) fun _ _=>?_;left;rcases hw with ⟨bs,⟨rfl,rfl⟩ | ⟨rfl,rfl⟩,k⟩ | ⟨n1,n2,k⟩
  ·rw [bC (rfl:("col":Str)="col")];apply jz h1 T.cl_af T.na_col_bits (CN _ _ _) ?_;left;exact k a h2
  ·rw [cx xD];left;rw [bC (rfl:("row":Str)="row")];apply jz h1 T.cl_af T.na_row_bits (CP _ _ _) ?_;left;exact k b h3
  ·rw [cx n1];left;rw [cx n2];left;exact ⟨by show 1<=D7; decide,k⟩
def CF (w:Str) (k:Int) (cs rs:List Int):Prop:=(¬ w="col"/\¬ w="row")\/∃ bs,gV w cs rs bs/\¬ (0<=k/\k<bs.length)
def ow (C NL:Δ):Sp:=fun vs H Q E=>∃ (p:Δ) (w:Str) (k s:Int) (cs rs:List Int),vs=[.ref p,.str w,.int k]/\aP C H p s cs rs /\
 ((∃ bs,gV w cs rs bs/\0<=k/\k<bs.length/\Q (.int (bs.getD k.toNat 0)) H)\/(CF w k cs rs/\E (.ref NL) none H))
theorem okx_ar (T:Txt K mg t):aW P w K mg base (CX1 P w) 3 t.f_ar t.d_ar ["self","way","k"] (ow t.a_af t.a_aC):=by
 refine T.F_ar.ok1 sc_ar (by walk_at "l") (fun _ _ _ s H vs Q E hr h=>?_)
 ·obtain ⟨p,w,k,s,cs,rs,rfl,hc,h⟩:=h;obtain ⟨dx,a,b,e1,e2,e3⟩:=hc.ob;refine aN (aO 3 sc_ar.nd (jw (pv 0) T.cl_af T.m_ac (okx_ac T) (rmo hr) T.b_ac .nil bZ (aa (pv 1) ae))) fun _ _=>aN (bD (cY (bO (au (ok_aj T).up (rmo hr) rfl T.mg_aj T.F_aj.kp T.b_aj .nil bZ (aa (pv 2) (aa (aq (bu K rfl) rfl T.no_len (by rfl) (aa (pv 3) ae)) ae))))) (ao (cM T.mg_aC T.x_aC FY rfl rfl (fun _ _ _ _ _ _ _ _ I m q=>fZ I m q) (aa bS ae))) aM) fun _ _=>dY (aD (aF (bw K rfl) (pv 3) (pv 2))) fun _ _=>?_;apply bq e1 (gE _ _ _ (by decide +kernel)) ?_;left;rcases h with ⟨bs,hw,h0,h1,q⟩ | ⟨⟨n1,n2⟩ | ⟨bs,hw,hn⟩,q⟩
  ·refine ⟨p,w,s,cs,rs,rfl,hc,.inl ⟨bs,hw,fun z hz=>?_⟩⟩;apply tD hz ?_;apply ⟨k,_,rfl,?_⟩;rw [Ξ,bC h0,bC h1];apply bH (SqT.of hz) (bG h0 h1) ?_;exact q
  ·exact ⟨p,w,s,cs,rs,rfl,hc,.inr ⟨n1,n2,q⟩⟩
  ·refine ⟨p,w,s,cs,rs,rfl,hc,.inl ⟨bs,hw,fun z hz=>?_⟩⟩;apply tD hz ?_;apply ⟨k,_,rfl,?_⟩;rw [Ξ]
   have e:(decide (0<=k)&&decide (k<(bs.length:Int)))=false:=by
    rw [JG];intro z;rw [Eu,decide_eq_true_eq,decide_eq_true_eq] at z;exact hn z
   rw [e];left;exact ⟨by show 1<=D7; decide,q⟩
def ig (x y:Int) (cs rs:List Int):Prop:=(0<=x/\x<(cs.length:Int)+1)/\0<=y/\y<(rs.length:Int)+1
def ox (C NC:Δ):Sp:=fun vs H Q E=>∃ (p:Δ) (x y s:Int) (cs rs:List Int),vs=[.ref p,.int x,.int y]/\aP C H p s cs rs/\((ig x y cs rs/\Q .non H)\/(¬ ig x y cs rs/\E (.ref NC) none H))
theorem jn {x b:Int} (h:0<=x/\x<b):(decide (0<=x)&&decide (x<b))=true:=by rw [bC h.1,bC h.2]; rfl
theorem f6 {x b:Int} (h:¬ (0<=x/\x<b)):(decide (0<=x)&&decide (x<b))=false:=by
 rw [JG];intro z;rw [Eu,decide_eq_true_eq,decide_eq_true_eq] at z;exact h z
theorem okx_al (T:Txt K mg t):aW P w K mg base (CX1 P w) 3 t.f_al t.d_al ["board","x","y"] (ox t.a_af t.a_ae):=by
 refine T.F_al.ok1 sc_al (by walk_at "l") (fun _ _ _ s H vs Q E hr h=>?_)
 ·obtain ⟨p,x,y,s,cs,rs,rfl,hc,h⟩:=h;obtain ⟨dx,a,b,e1,e2,e3⟩:=hc.ob;have nl:∀ {w h:Int} {m:Str},NoF m->(cfl s a b w h).lookup m=none:=fun x=>gE _ _ _ x;refine ⟨_,(ao (bD (PW.pt (sY (cY (bO (au (ok_aj T).up (rmo hr) rfl T.mg_aj T.F_aj.kp T.b_aj .nil bZ (aa (pv 1) (aa (b0 (pv 0) T.cl_af T.m_ah (ok_ah T).up (rmo hr) T.b_ah .nil bZ) ae))))) (nF (cY (bO (au (ok_aj T).up (rmo hr) rfl T.mg_aj T.F_aj.kp T.b_aj .nil bZ (aa (pv 2) (aa (b0 (pv 0) T.cl_af T.m_ag (ok_ag T).up (rmo hr) T.b_ag .nil bZ) ae)))))))) (ao (cM T.mg_ae T.x_ae FY rfl rfl (fun _ _ _ _ _ _ _ _ I m q=>fZ I m q) (aa bS ae))) aM)),?_⟩;apply bq e1 (nl (by decide +kernel)) ?_;apply ⟨p,s,cs,rs,rfl,hc,?_⟩;apply ⟨x,_,rfl,?_⟩;by_cases hx:0<=x/\x<(cs.length:Int)+1
  ·rw [jn hx];apply bq e1 (nl (by decide +kernel)) ?_;apply ⟨p,s,cs,rs,rfl,hc,?_⟩;apply ⟨y,_,rfl,?_⟩;by_cases hy:0<=y/\y<(rs.length:Int)+1
   ·rw [jn hy];left;rcases h with ⟨_,q⟩ | ⟨n,_⟩
    ·exact q
    ·exact absurd ⟨hx,hy⟩ n
   ·rw [f6 hy];left;rcases h with ⟨n,_⟩ | ⟨_,q⟩
    ·exact absurd n.2 hy
    ·exact ⟨by show 1<=D7; decide,q⟩
  ·rw [f6 hx];left;rcases h with ⟨n,_⟩ | ⟨_,q⟩
   ·exact absurd n.1 hx
   ·exact ⟨by show 1<=D7; decide,q⟩
def DG (w:Str) (k st:Int) (cs rs:List Int):Prop:=∃ bs os,gV w cs rs bs/\gV w rs cs os/\0<=k/\k<bs.length/\¬ (0<=st/\st<(os.length:Int)+1)
def iK (C NL NS:Δ):Sp:=fun vs H Q E=>∃ (p:Δ) (w:Str) (k st s:Int) (cs rs:List Int),vs=[.ref p,.str w,.int k,.int st]/\aP C H p s cs rs /\
 ((∃ bs os,gV w cs rs bs/\gV w rs cs os/\0<=k/\k<bs.length/\0<=st/\st<os.length+1/\Q (.bl (decide ((st+bs.getD k.toNat 0)%2=1))) H)\/(CF w k cs rs/\E (.ref NL) none H)\/(DG w k st cs rs/\E (.ref NS) none H))
theorem okx_ab (T:Txt K mg t):aW P w K mg base (CX1 P w) 4 t.f_ab t.d_ab ["self","way","k","step"] (iK t.a_af t.a_aC t.a_aJ):=by
 refine T.F_ab.ok1 sc_ab (by walk_at "l") (fun _ _ _ s H vs Q E hr h=>?_)
 ·obtain ⟨p,w,k,st,s,cs,rs,rfl,hc,h⟩:=h;obtain ⟨dx,a,b,e1,e2,e3⟩:=hc.ob;have nl:∀ {w h:Int} {m:Str},NoF m->(cfl s a b w h).lookup m=none:=fun x=>gE _ _ _ x;refine aN (aO 4 sc_ab.nd (jw (pv 0) T.cl_af T.m_ar (okx_ar T) (rmo hr) T.b_ar .nil bZ (aa (pv 1) (aa (pv 2) ae)))) fun _ _=>aN (aO 5 sc_ab.nd (kg (bU et (pv 1) bS) (b0 (pv 0) T.cl_af T.m_ag (ok_ag T).up (rmo hr) T.b_ag .nil bZ) (b0 (pv 0) T.cl_af T.m_ah (ok_ah T).up (rmo hr) T.b_ah .nil bZ))) fun _ _=>aN (bD (cY (bO (au (ok_aj T).up (rmo hr) rfl T.mg_aj T.F_aj.kp T.b_aj .nil bZ (aa (pv 3) (aa (pv 5) ae))))) (ao (cM T.mg_aJ T.x_aJ FY rfl rfl (fun _ _ _ _ _ _ _ _ I m q=>fZ I m q) (aa bS ae))) aM) fun _ _=>dY (aD (ka et (aE cf (aE bB (pv 3) (pv 4)) ah) ah)) fun _ _=>?_;apply bq e1 (nl (by decide +kernel)) ?_;left;rcases h with ⟨bs,os,hw,ho,h0,h1,g0,g1,q⟩ | ⟨n,q⟩ | ⟨⟨bs,os,hw,ho,h0,h1,hn⟩,q⟩
  ·refine ⟨p,w,k,s,cs,rs,rfl,hc,.inl ⟨bs,hw,h0,h1,?_⟩⟩;left;rcases ho with ⟨rfl,rfl⟩ | ⟨rfl,rfl⟩
   ·rw [bC (rfl:("col":Str)="col")];apply bq e1 (nl (by decide +kernel)) ?_;apply ⟨p,s,cs,_,rfl,hc,?_⟩;apply ⟨st,_,rfl,?_⟩;rw [bC g0,bC g1];apply cw (by decide) ?_;left;exact q
   ·rw [cx xD];apply bq e1 (nl (by decide +kernel)) ?_;apply ⟨p,s,_,rs,rfl,hc,?_⟩;apply ⟨st,_,rfl,?_⟩;rw [bC g0,bC g1];apply cw (by decide) ?_;left;exact q
  ·exact ⟨p,w,k,s,cs,rs,rfl,hc,.inr ⟨n,q⟩⟩
  ·refine ⟨p,w,k,s,cs,rs,rfl,hc,.inl ⟨bs,hw,h0,h1,?_⟩⟩;left;rcases ho with ⟨rfl,rfl⟩ | ⟨rfl,rfl⟩
   ·rw [bC (rfl:("col":Str)="col")];apply bq e1 (nl (by decide +kernel)) ?_;apply ⟨p,s,cs,_,rfl,hc,?_⟩;apply ⟨st,_,rfl,?_⟩;rw [f6 hn];left;exact ⟨by show 1<=D7; decide,q⟩
   ·rw [cx xD];apply bq e1 (nl (by decide +kernel)) ?_;apply ⟨p,s,_,rs,rfl,hc,?_⟩;apply ⟨st,_,rfl,?_⟩;rw [f6 hn];left;exact ⟨by show 1<=D7; decide,q⟩
def sp_ab (C:Δ):Sp:=fun vs H Q _=>∃ (p:Δ) (w:Str) (k st s:Int) (cs rs bs os:List Int),vs=[.ref p,.str w,.int k,.int st]/\aP C H p s cs rs/\gV w cs rs bs/\gV w rs cs os/\0<=k/\k<bs.length/\0<=st/\st<os.length+1 /\
 Q (.bl (decide ((st+bs.getD k.toNat 0)%2=1))) H
theorem ok_ab (T:Txt K mg t):aW P w K mg base CX0 4 t.f_ab t.d_ab ["self","way","k","step"] (sp_ab t.a_af) :=
 (okx_ab T).down fun vs H Q E hh=>by
  obtain ⟨p,w,k,st,s,cs,rs,bs,os,e,hc,hw,ho,h0,h1,g0,g1,q⟩:=hh;exact ⟨p,w,k,st,s,cs,rs,e,hc,.inl ⟨bs,os,hw,ho,h0,h1,g0,g1,q⟩⟩
end
section
theorem aR {n:Nat} (h:n<2000):n<sizeLine:=EG h (by decide)
def Pt (H:Hp) (v:V) (q:Int×Int):Prop:=∃ a,v=.ref a/\H a=some (.tup [.int q.1,.int q.2])
theorem Pt.mono {H H':Hp} {v:V} {q:Int×Int} (s:aj H H') (h:Pt H v q):Pt H' v q:=by
 obtain ⟨a,rfl,ha⟩:=h;exact ⟨a,rfl,s _ _ ha⟩
theorem Pt.upd {H:Hp} {v:V} {q:Int×Int} {l:Δ} {u o:HO} (h:Pt H v q) (e:H l=some u) (ne:∀ ys,HO.tup ys≠u):Pt (upd H l o) v q:=by
 obtain ⟨a,rfl,ha⟩:=h;exact ⟨a,rfl,by rw [ai (aZ ha e (ne _))]; exact ha⟩
def aJ (H:Hp) (xs:List V) (ps:List (Int×Int)):Prop:=xs.length=ps.length/\∀ (i:Nat) v q,xs[i]?=some v->ps[i]?=some q->Pt H v q
theorem aJ.mono {H H':Hp} {xs:List V} {ps:List (Int×Int)} (s:aj H H') (h:aJ H xs ps):aJ H' xs ps:=⟨h.1,fun i v q h1 h2=>(h.2 i v q h1 h2).mono s⟩
theorem aJ.upd {H:Hp} {xs:List V} {ps:List (Int×Int)} {l:Δ} {u o:HO} (h:aJ H xs ps) (e:H l=some u) (ne:∀ ys,HO.tup ys≠u):aJ (upd H l o) xs ps:=⟨h.1,fun i v q h1 h2=>(h.2 i v q h1 h2).upd e ne⟩
theorem aJ.nil {H:Hp}:aJ H [] []:=⟨rfl,fun i v q h=>by simp at h⟩
theorem aJ.cons {H:Hp} {v:V} {q:Int×Int} {xs:List V} {ps:List (Int×Int)} (h1:Pt H v q) (h:aJ H xs ps):aJ H (v::xs) (q::ps):=by
 refine ⟨by rw [C_,C_,h.1],fun i v' q' e1 e2=>?_⟩
 cases i with
 | zero=>simp only [E3,FN] at e1 e2; rw [<- e1,<- e2]; exact h1
 | succ i=>simp only [FL] at e1 e2; exact h.2 i v' q' e1 e2
theorem aJ.inv {H:Hp} {xs:List V} {p:Int×Int} {ps:List (Int×Int)} (h:aJ H xs (p::ps)):∃ v r,xs=v::r/\Pt H v p/\aJ H r ps:=by
 match xs,h with
 | [],h=>have:=h.1; simp at this
 | v::r,h=>exact ⟨v,r,rfl,h.2 0 v p rfl rfl,by have:=h.1; simp only [C_] at this; omega,fun i v' q' e1 e2=>h.2 (i+1) v' q' (by simpa using e1) (by simpa using e2)⟩
theorem aJ.snoc {H:Hp} {xs:List V} {ps:List (Int×Int)} {v:V} {q:Int×Int} (h:aJ H xs ps) (hv:Pt H v q):aJ H (xs++[v]) (ps++[q]):=by
 refine ⟨by rw [DZ,DZ,h.1]; rfl,fun i v' q' h1 h2=>?_⟩;by_cases hi:i<xs.length
 ·rw [FO hi] at h1;rw [FO (by rw [<- h.1]; exact hi)] at h2;exact h.2 i v' q' h1 h2
 ·rw [E1 (by omega)] at h1;rw [E1 (by rw [<- h.1]; omega),<- h.1] at h2
  cases hk:i - xs.length with
  | zero =>
   rw [hk] at h1 h2;simp only [E3,FN] at h1 h2;rw [<- h1,<- h2]; exact hv
  | succ k => rw [hk] at h1; simp at h1
noncomputable def fh (H:Hp):V->Int×Int
 | .ref a=>match H a with
  | some (.tup [.int x, .int y]) => (x, y)
  | _ => (0, 0)
 | _=>(0,0)
theorem Pt.of {H:Hp} {v:V} {q:Int×Int} (h:Pt H v q):fh H v=q:=by
 obtain ⟨a,rfl,ha⟩:=h;simp only [fh,ha]
theorem aJ.map:∀ {H:Hp} {xs:List V} {ps:List (Int×Int)},aJ H xs ps->xs.map (fh H)=ps
 | H,[],[],_=>rfl
 | H,[],_::_,h=>by have:=h.1; simp at this
 | H,_::_,[],h=>by have:=h.1; simp at this
 | H,v::xs,p::ps,h=>by
  obtain ⟨v',r,e,h1,h2⟩:=h.inv
  cases e;rw [EL,h1.of,h2.map]
theorem aJ.mem {H:Hp} {xs:List V} {ps:List (Int×Int)} (h:aJ H xs ps):∀ v∈xs,Pt H v (fh H v):=by
 intro v hv;obtain ⟨i,hi⟩:=Ep.mp hv;have hl:i<ps.length:=by rw [<- h.1]; exact (Aw.mp hi).1
 have:=h.2 i v _ hi (ξ hl)
 rw [this.of]; exact this
theorem sZ {H:Hp}:∀ {xs:List V},(∀ v∈xs,Pt H v (fh H v))->aJ H xs (xs.map (fh H))
 | [],_=>aJ.nil
 | v::xs,h=>aJ.cons (h v Θ) (sZ fun v hv=>h v (Au _ hv))
theorem xn {p q:Int×Int} (h1:Ts.ple p q) (h2:Ts.ple q p):p=q:=by
 unfold Ts.ple at h1 h2;exact GY (by omega) (by omega)
theorem sU:∀ {l1 l2:List (Int×Int)},l1.Perm l2->l1.Pairwise Ts.ple->l2.Pairwise Ts.ple->l1=l2
 | [],l2,h,_,_=>(Lb.mp h).symm ▸ rfl
 | x::l1,[],h,_,_=>by have:=h.length_eq; simp at this
 | x::l1,y::l2,h,s1,s2=>by
  have e:x=y:=by
   have hx:x∈y::l2:=h.mem_iff.mp Θ;have hy:y∈x::l1:=h.mem_iff.mpr Θ;rcases B_.mp hx with e | hx
   ·exact e
   ·rcases B_.mp hy with e | hy
    ·exact e.symm
    ·exact xn ((E6.mp s1).1 y hy) ((E6.mp s2).1 x hx)
  subst e;rw [sU (List.perm_cons _ |>.mp h) (E6.mp s1).2 (E6.mp s2).2]
end
section
variable {P:D_} {w:Eh} {K:W.Frag} {mg:Str->Option ς} {base:E5} {t:Ad}
noncomputable def rt (cs rs:List Int) (x y:Int):Bool:=decide (0<y)&&decide (y<(rs.length:Int)+1)&&decide (0<=x)&&decide (x<(cs.length:Int)+1)&&decide ((x+rs.getD (y - 1).toNat 0)%2=1)
noncomputable def ups (cs rs:List Int) (x y:Int):Bool:=decide (0<x)&&decide (x<(cs.length:Int)+1)&&decide (0<=y)&&decide (y<(rs.length:Int)+1)&&decide ((y+cs.getD (x - 1).toNat 0)%2=1)
def sp_am (C:Δ):Sp:=fun vs H Q _=>∃ (p:Δ) (x y s:Int) (cs rs:List Int),vs=[.ref p,.int x,.int y]/\aP C H p s cs rs/\Q (.bl (rt cs rs x y)) H
theorem ok_am (T:Txt K mg t):aW P w K mg base CX0 5 t.f_am t.d_am ["cloth","x","y"] (sp_am t.a_af):=by
 refine T.F_am.ok sc_am (by walk_at "l") (fun _ _ _ s H vs Q E hr h=>?_)
 ·obtain ⟨p,x,y,s,cs,rs,rfl,hc,q⟩:=h;obtain ⟨dx,a,b,e1,e2,e3⟩:=hc.ob;have nl:∀ {w h:Int} {m:Str},NoF m->(cfl s a b w h).lookup m=none:=fun x=>gE _ _ _ x;refine ⟨_,(aK (bD (PW.pt (fN (iC fL fL ah (pv 2) (b0 (pv 0) T.cl_af T.m_ag (ok_ag T) (rmo hr) T.b_ag .nil aS)) (fi (iC wL fL ah (pv 1) (b0 (pv 0) T.cl_af T.m_ah (ok_ah T) (rmo hr) T.b_ah .nil aS))))) (ao (aD (jw (pv 0) T.cl_af T.m_ab (ok_ab T) (rmo hr) T.b_ab .nil aS (aa bS (aa (aE dk (pv 2) ah) (aa (pv 1) ae)))))) aM) (ao (aD eu))),?_⟩;unfold rt at q;left;by_cases c1:0<y
  ·rw [bC c1] at q ⊢;apply bq e1 (nl (by decide +kernel)) ?_;apply ⟨p,s,cs,rs,rfl,hc,?_⟩;left;by_cases c2:y<(rs.length:Int)+1
   ·rw [bC c2] at q ⊢;left;by_cases c3:0<=x
    ·rw [bC c3] at q ⊢;apply bq e1 (nl (by decide +kernel)) ?_;apply ⟨p,s,cs,rs,rfl,hc,?_⟩;left;by_cases c4:x<(cs.length:Int)+1
     ·rw [bC c4] at q ⊢;apply bq e1 (nl (by decide +kernel)) ?_;left;exact ⟨p,"row",y - 1,x,s,cs,rs,rs,cs,rfl,hc,.inr ⟨rfl,rfl⟩,.inr ⟨rfl,rfl⟩,by omega,by omega,c3,c4,q⟩
     ·rw [cx c4] at q ⊢;left;exact q
    ·rw [cx c3] at q ⊢;left;exact q
   ·rw [cx c2] at q ⊢;left;exact q
  ·rw [cx c1] at q ⊢;left;exact q
def sp_aI (C:Δ):Sp:=fun vs H Q _=>∃ (p:Δ) (x y s:Int) (cs rs:List Int),vs=[.ref p,.int x,.int y]/\aP C H p s cs rs/\Q (.bl (ups cs rs x y)) H
theorem ok_aI (T:Txt K mg t):aW P w K mg base CX0 5 t.f_aI t.d_aI ["cloth","x","y"] (sp_aI t.a_af):=by
 refine T.F_aI.ok sc_aI (by walk_at "l") (fun _ _ _ s H vs Q E hr h=>?_)
 ·obtain ⟨p,x,y,s,cs,rs,rfl,hc,q⟩:=h;obtain ⟨dx,a,b,e1,e2,e3⟩:=hc.ob;have nl:∀ {w h:Int} {m:Str},NoF m->(cfl s a b w h).lookup m=none:=fun x=>gE _ _ _ x;refine ⟨_,(aK (bD (PW.pt (fN (iC fL fL ah (pv 1) (b0 (pv 0) T.cl_af T.m_ah (ok_ah T) (rmo hr) T.b_ah .nil aS)) (fi (iC wL fL ah (pv 2) (b0 (pv 0) T.cl_af T.m_ag (ok_ag T) (rmo hr) T.b_ag .nil aS))))) (ao (aD (jw (pv 0) T.cl_af T.m_ab (ok_ab T) (rmo hr) T.b_ab .nil aS (aa bS (aa (aE dk (pv 1) ah) (aa (pv 2) ae)))))) aM) (ao (aD eu))),?_⟩;unfold ups at q;left;by_cases c1:0<x
  ·rw [bC c1] at q ⊢;apply bq e1 (nl (by decide +kernel)) ?_;apply ⟨p,s,cs,rs,rfl,hc,?_⟩;left;by_cases c2:x<(cs.length:Int)+1
   ·rw [bC c2] at q ⊢;left;by_cases c3:0<=y
    ·rw [bC c3] at q ⊢;apply bq e1 (nl (by decide +kernel)) ?_;apply ⟨p,s,cs,rs,rfl,hc,?_⟩;left;by_cases c4:y<(rs.length:Int)+1
     ·rw [bC c4] at q ⊢;apply bq e1 (nl (by decide +kernel)) ?_;left;exact ⟨p,"col",x - 1,y,s,cs,rs,cs,rs,rfl,hc,.inl ⟨rfl,rfl⟩,.inl ⟨rfl,rfl⟩,by omega,by omega,c3,c4,q⟩
     ·rw [cx c4] at q ⊢;left;exact q
    ·rw [cx c3] at q ⊢;left;exact q
   ·rw [cx c2] at q ⊢;left;exact q
  ·rw [cx c1] at q ⊢;left;exact q
noncomputable def nb (cs rs:List Int) (q:Int×Int):List (Int×Int) :=
 (if rt cs rs (q.1 - 1) q.2=true then [(q.1 - 1,q.2)] else [])++(if ups cs rs q.1 (q.2 - 1)=true then [(q.1,q.2 - 1)] else [])++(if ups cs rs q.1 q.2=true then [(q.1,q.2+1)] else [])++(if rt cs rs q.1 q.2=true then [(q.1+1,q.2)] else [])
def dz (cs rs:List Int) (q:Int×Int):Prop:=(0<=q.1/\q.1<(cs.length:Int)+1+1)/\0<=q.2/\q.2<(rs.length:Int)+1+1
def rP (C NP:Δ):Sp:=fun vs H Q E=>∃ (p a:Δ) (q:Int×Int) (s:Int) (cs rs:List Int),vs=[.ref p,.ref a]/\aP C H p s cs rs/\H a=some (.tup [.int q.1,.int q.2]) /\
 ((dz cs rs q/\∀ l xs H',aj H H'->H l=none->H' l=some (.lst xs)->aJ H' xs (nb cs rs q)->Q (.ref l) H')\/(¬ dz cs rs q/\E (.ref NP) none H))
theorem okx_ao (T:Txt K mg t):aW P w K mg base (CX1 P w) 6 t.f_ao t.d_ao ["cloth","point"] (rP t.a_af t.a_az):=by
 refine T.F_ao.ok1 sc_ao (by walk_at "l") (fun _ _ _ s H vs Q E hr h=>?_)
 ·obtain ⟨p,a,⟨x,y⟩,s,cs,rs,rfl,hc,ha,h⟩:=h;dsimp only at ha;obtain ⟨dx,a1,b1,e1,e2,e3⟩:=hc.ob;have nl:∀ {w h:Int} {m:Str},NoF m->(cfl s a1 b1 w h).lookup m=none:=fun x=>gE _ _ _ x;refine aN (aO 2 sc_ao.nd (aF (bw K rfl) (pv 1) ah)) fun _ _=>aN (aO 3 sc_ao.nd (aF (bw K rfl) (pv 1) ah)) fun _ _=>aN (bD (PW.pt (sY (cY (bO (au (ok_aj T).up (rmo hr) rfl T.mg_aj T.F_aj.kp T.b_aj .nil bZ (aa (pv 2) (aa (aE bB (b0 (pv 0) T.cl_af T.m_ah (ok_ah T).up (rmo hr) T.b_ah .nil bZ) ah) ae))))) (nF (cY (bO (au (ok_aj T).up (rmo hr) rfl T.mg_aj T.F_aj.kp T.b_aj .nil bZ (aa (pv 3) (aa (aE bB (b0 (pv 0) T.cl_af T.m_ag (ok_ag T).up (rmo hr) T.b_ag .nil bZ) ah) ae)))))))) (ao (cM T.mg_az T.x_az FY rfl rfl (fun _ _ _ _ _ _ _ _ I m q=>fZ I m q) (aa bS ae))) aM) fun _ _=>aN (aO 4 sc_ao.nd (cg ae)) fun _ _=>aN (fe (bD (bO (au (ok_am T).up (rmo hr) rfl T.mg_am T.F_am.kp T.b_am .nil bZ (aa (pv 0) (aa (aE dk (pv 2) ah) (aa (pv 3) ae))))) (ao (bo (cV EM Ed Ec ba (pv 4) (aa (bN (aa (aE dk (pv 2) ah) (aa (pv 3) ae))) ae)))) aM)) fun _ _=>aN (fe (bD (bO (au (ok_aI T).up (rmo hr) rfl T.mg_aI T.F_aI.kp T.b_aI .nil bZ (aa (pv 0) (aa (pv 2) (aa (aE dk (pv 3) ah) ae))))) (ao (bo (cV EM Ed Ec ba (pv 4) (aa (bN (aa (pv 2) (aa (aE dk (pv 3) ah) ae))) ae)))) aM)) fun _ _=>aN (fe (bD (bO (au (ok_aI T).up (rmo hr) rfl T.mg_aI T.F_aI.kp T.b_aI .nil bZ (aa (pv 0) (aa (pv 2) (aa (pv 3) ae))))) (ao (bo (cV EM Ed Ec ba (pv 4) (aa (bN (aa (pv 2) (aa (aE bB (pv 3) ah) ae))) ae)))) aM)) fun _ _=>aN (fe (bD (bO (au (ok_am T).up (rmo hr) rfl T.mg_am T.F_am.kp T.b_am .nil bZ (aa (pv 0) (aa (pv 2) (aa (pv 3) ae))))) (ao (bo (cV EM Ed Ec ba (pv 4) (aa (bN (aa (aE bB (pv 2) ah) (aa (pv 3) ae))) ae)))) aM)) fun _ _=>dY (aD (pv 4)) fun _ _=>?_;apply bH (SqT.of ha) (v:=.int x) rfl ?_;apply bH (SqT.of ha) (v:=.int y) rfl ?_;apply bq e1 (nl (by decide +kernel)) ?_;apply ⟨p,s,cs,rs,rfl,hc,?_⟩;apply ⟨x,_,rfl,?_⟩;by_cases hx:0<=x/\x<(cs.length:Int)+1+1
  ·rw [jn hx];apply bq e1 (nl (by decide +kernel)) ?_;apply ⟨p,s,cs,rs,rfl,hc,?_⟩;apply ⟨y,_,rfl,?_⟩;by_cases hy:0<=y/\y<(rs.length:Int)+1+1
   ·rw [jn hy];left;rcases h with ⟨_,h⟩ | ⟨n,_⟩
    ·refine ⟨El _,fun l n1=>?_⟩;have s1:=aj.new (o:=HO.lst []) n1;have f1:=ag (H:=H) (a:=l) (o:=HO.lst []);generalize upd H l (HO.lst [])=H1 at s1 f1 ⊢;obtain ⟨xs,f1,w1,lx⟩:∃ xs,H1 l=some (.lst xs)/\aJ H1 xs []/\xs.length<=0:=⟨[],f1,aJ.nil,Av 0⟩
     apply fk (fun σ' H'=>∃ xs,σ'=[some (.ref p),some (.ref a),some (.int x),some (.int y),some (.ref l)]/\aj H H'/\H' l=some (.lst xs)/\xs.length<=1/\aJ H' xs ([]++(if rt cs rs (x - 1) y=true then [(x - 1,y)] else []))) ?_ ?_
     ·apply ⟨p,x - 1,y,s,cs,rs,rfl,hc.mono s1,?_⟩;left;by_cases c:rt cs rs (x - 1) y=true
      ·rw [if_pos c];apply bP f1 ?_;apply ⟨by show 2<=D7; decide,fun b hb=>?_⟩;have sb:=aj.new (o:=HO.tup [V.int (x - 1),V.int y]) hb;apply aV (sb _ _ f1) (aR (by omega)) ?_;refine ⟨_,rfl,(s1.trans sb).later n1,ag,by rw [DZ,EO]; omega,?_⟩;rw [if_pos c];exact ((w1.mono sb).upd (sb _ _ f1) (by intro ys z; cases z)).snoc (Pt.upd (q:=(x - 1,y)) ⟨b,rfl,ag⟩ (sb _ _ f1) (by intro ys z; cases z))
      ·rw [if_neg c];apply ⟨_,rfl,s1,f1,by omega,?_⟩;rw [if_neg c,E2];exact w1
     ·clear s1 f1 w1 lx;rintro σ' H1 ⟨xs,rfl,s1,f1,lx,w1⟩;apply fk (fun σ' H'=>∃ xs,σ'=[some (.ref p),some (.ref a),some (.int x),some (.int y),some (.ref l)]/\aj H H'/\H' l=some (.lst xs)/\xs.length<=2/\aJ H' xs ([]++(if rt cs rs (x - 1) y=true then [(x - 1,y)] else [])++(if ups cs rs x (y - 1)=true then [(x,y - 1)] else []))) ?_ ?_
      ·apply ⟨p,x,y - 1,s,cs,rs,rfl,hc.mono s1,?_⟩;left;by_cases c:ups cs rs x (y - 1)=true
       ·rw [if_pos c];apply bP f1 ?_;apply ⟨by show 2<=D7; decide,fun b hb=>?_⟩;have sb:=aj.new (o:=HO.tup [V.int x,V.int (y - 1)]) hb;apply aV (sb _ _ f1) (aR (by omega)) ?_;refine ⟨_,rfl,(s1.trans sb).later n1,ag,by rw [DZ,EO]; omega,?_⟩;rw [if_pos c];exact ((w1.mono sb).upd (sb _ _ f1) (by intro ys z; cases z)).snoc (Pt.upd (q:=(x,y - 1)) ⟨b,rfl,ag⟩ (sb _ _ f1) (by intro ys z; cases z))
       ·rw [if_neg c];apply ⟨_,rfl,s1,f1,by omega,?_⟩;rw [if_neg c,E2];exact w1
      ·clear s1 f1 w1 lx;rintro σ' H1 ⟨xs,rfl,s1,f1,lx,w1⟩;apply fk (fun σ' H'=>∃ xs,σ'=[some (.ref p),some (.ref a),some (.int x),some (.int y),some (.ref l)]/\aj H H'/\H' l=some (.lst xs)/\xs.length<=3/\aJ H' xs ([]++(if rt cs rs (x - 1) y=true then [(x - 1,y)] else [])++(if ups cs rs x (y - 1)=true then [(x,y - 1)] else [])++(if ups cs rs x y=true then [(x,y+1)] else []))) ?_ ?_
       ·apply ⟨p,x,y,s,cs,rs,rfl,hc.mono s1,?_⟩;left;by_cases c:ups cs rs x y=true
        ·rw [if_pos c];apply bP f1 ?_;apply ⟨by show 2<=D7; decide,fun b hb=>?_⟩;have sb:=aj.new (o:=HO.tup [V.int x,V.int (y+1)]) hb;apply aV (sb _ _ f1) (aR (by omega)) ?_;refine ⟨_,rfl,(s1.trans sb).later n1,ag,by rw [DZ,EO]; omega,?_⟩;rw [if_pos c];exact ((w1.mono sb).upd (sb _ _ f1) (by intro ys z; cases z)).snoc (Pt.upd (q:=(x,y+1)) ⟨b,rfl,ag⟩ (sb _ _ f1) (by intro ys z; cases z))
        ·rw [if_neg c];apply ⟨_,rfl,s1,f1,by omega,?_⟩;rw [if_neg c,E2];exact w1
       ·clear s1 f1 w1 lx;rintro σ' H1 ⟨xs,rfl,s1,f1,lx,w1⟩;apply fk (fun σ' H'=>∃ xs,σ'=[some (.ref p),some (.ref a),some (.int x),some (.int y),some (.ref l)]/\aj H H'/\H' l=some (.lst xs)/\xs.length<=4/\aJ H' xs ([]++(if rt cs rs (x - 1) y=true then [(x - 1,y)] else [])++(if ups cs rs x (y - 1)=true then [(x,y - 1)] else [])++(if ups cs rs x y=true then [(x,y+1)] else [])++(if rt cs rs x y=true then [(x+1,y)] else []))) ?_ ?_
        ·apply ⟨p,x,y,s,cs,rs,rfl,hc.mono s1,?_⟩;left;by_cases c:rt cs rs x y=true
         ·rw [if_pos c];apply bP f1 ?_;apply ⟨by show 2<=D7; decide,fun b hb=>?_⟩;have sb:=aj.new (o:=HO.tup [V.int (x+1),V.int y]) hb;apply aV (sb _ _ f1) (aR (by omega)) ?_;refine ⟨_,rfl,(s1.trans sb).later n1,ag,by rw [DZ,EO]; omega,?_⟩;rw [if_pos c];exact ((w1.mono sb).upd (sb _ _ f1) (by intro ys z; cases z)).snoc (Pt.upd (q:=(x+1,y)) ⟨b,rfl,ag⟩ (sb _ _ f1) (by intro ys z; cases z))
         ·rw [if_neg c];apply ⟨_,rfl,s1,f1,by omega,?_⟩;rw [if_neg c,E2];exact w1
        ·clear s1 f1 w1 lx;rintro σ' H1 ⟨xs,rfl,s1,f1,lx,w1⟩;left;exact h l xs H1 s1 n1 f1 w1
    ·exact absurd ⟨hx,hy⟩ n
   ·rw [f6 hy];left;rcases h with ⟨n,_⟩ | ⟨_,q⟩
    ·exact absurd n.2 hy
    ·exact ⟨by show 1<=D7; decide,q⟩
  ·rw [f6 hx];left;rcases h with ⟨n,_⟩ | ⟨_,q⟩
   ·exact absurd n.1 hx
   ·exact ⟨by show 1<=D7; decide,q⟩
theorem zm (c:Bool) (q:Int×Int):(if c=true then [q] else []).length=if c=true then 1 else 0:=by cases c<;>rfl
def sp_ao (C:Δ):Sp:=fun vs H Q _=>∃ (p a:Δ) (q:Int×Int) (s:Int) (cs rs:List Int),vs=[.ref p,.ref a]/\aP C H p s cs rs/\H a=some (.tup [.int q.1,.int q.2])/\dz cs rs q/\∀ l xs H',aj H H'->H l=none->H' l=some (.lst xs)->aJ H' xs (nb cs rs q)->Q (.ref l) H'
theorem ok_ao (T:Txt K mg t):aW P w K mg base CX0 6 t.f_ao t.d_ao ["cloth","point"] (sp_ao t.a_af) :=
 (okx_ao T).down fun vs H Q E hh=>by
  obtain ⟨p,a,q,s,cs,rs,e,hc,ha,hi,k⟩:=hh;exact ⟨p,a,q,s,cs,rs,e,hc,ha,.inl ⟨hi,k⟩⟩
end
section
theorem j3 {α:Type} [DecidableEq α]:∀ (a b:List α),a.Nodup->(∀ x∈a,x∈b)->a.length<=b.length
 | [],_,_,_=>El _
 | x::a,b,hn,hs=>by
  rw [ER] at hn;have hx:=hs x Θ;have ih:=j3 a (b.erase x) hn.2 fun y hy=>by
   have:y≠x:=fun e=>hn.1 (e ▸ hy)
   exact (MJ this).mpr (hs y (Au _ hy))
  rw [Lc hx] at ih;have:=JX hx
  rw [C_];omega
theorem zw {c:Bool} {q r:Int×Int}:r∈(if c=true then [q] else [])↔c=true/\r=q:=by cases c<;>simp
theorem gI {cs rs:List Int} {q r:Int×Int}:r∈nb cs rs q↔(rt cs rs (q.1 - 1) q.2=true/\r=(q.1 - 1,q.2))\/(ups cs rs q.1 (q.2 - 1)=true/\r=(q.1,q.2 - 1))\/(ups cs rs q.1 q.2=true/\r=(q.1,q.2+1))\/(rt cs rs q.1 q.2=true/\r=(q.1+1,q.2)):=by
 unfold nb;simp only [EE,zw];constructor
 ·rintro (((h | h) | h) | h)
  ·exact .inl h
  ·exact .inr (.inl h)
  ·exact .inr (.inr (.inl h))
  ·exact .inr (.inr (.inr h))
 ·rintro (h | h | h | h)
  ·exact .inl (.inl (.inl h))
  ·exact .inl (.inl (.inr h))
  ·exact .inl (.inr h)
  ·exact .inr h
theorem nI {cs rs:List Int} {x y:Int}:rt cs rs x y=true↔0<y/\y<(rs.length:Int)+1/\0<=x/\x<(cs.length:Int)+1/\(x+rs.getD (y - 1).toNat 0)%2=1:=by
 unfold rt;simp only [Eu,decide_eq_true_eq,and_assoc]
theorem jF {cs rs:List Int} {x y:Int}:ups cs rs x y=true↔0<x/\x<(cs.length:Int)+1/\0<=y/\y<(rs.length:Int)+1/\(y+cs.getD (x - 1).toNat 0)%2=1:=by
 unfold ups;simp only [Eu,decide_eq_true_eq,and_assoc]
theorem Cw {cs rs:List Int} {x y:Int} (h:rt cs rs (x - 1) y=true):rt cs rs x y=false:=by
 cases h2:rt cs rs x y with
 | false=>rfl
 | true=>have h:=nI.mp h; have h2:=nI.mp h2; omega
theorem AD {cs rs:List Int} {x y:Int} (h:ups cs rs x (y - 1)=true):ups cs rs x y=false:=by
 cases h2:ups cs rs x y with
 | false=>rfl
 | true=>have h:=jF.mp h; have h2:=jF.mp h2; omega
theorem dN (cs rs:List Int):Sm.Gr (nb cs rs):=by
 refine ⟨fun q=>?_,fun q=>?_,fun {a b} h=>?_,fun a h=>?_⟩
 ·unfold nb;obtain ⟨x,y⟩:=q;dsimp only;by_cases h1:rt cs rs (x - 1) y=true<;>by_cases h2:ups cs rs x (y - 1)=true<;>by_cases h3:ups cs rs x y=true<;>by_cases h4:rt cs rs x y=true <;>
   simp only [h1,h2,h3,h4,if_true,if_false,IZ,JR,ER,B_,Ek,or_false,Jk,F0,FI,not_false_eq_true,and_true,true_and,not_or]<;>omega
 ·unfold nb;simp only [DZ,zm];have h1:rt cs rs (q.1 - 1) q.2=true->rt cs rs q.1 q.2=false:=Cw;have h2:ups cs rs q.1 (q.2 - 1)=true->ups cs rs q.1 q.2=false:=AD;generalize rt cs rs (q.1 - 1) q.2=A at h1;generalize rt cs rs q.1 q.2=B at h1;generalize ups cs rs q.1 (q.2 - 1)=C at h2;generalize ups cs rs q.1 q.2=D at h2
  cases A<;>cases B<;>cases C<;>cases D<;>simp at h1 h2 ⊢
 ·have hb:=gI.mp h;clear h;refine gI.mpr ?_;rcases hb with ⟨h,rfl⟩ | ⟨h,rfl⟩ | ⟨h,rfl⟩ | ⟨h,rfl⟩
  ·exact .inr (.inr (.inr ⟨h,GY (by dsimp only; omega) rfl⟩))
  ·exact .inr (.inr (.inl ⟨h,GY rfl (by dsimp only; omega)⟩))
  ·exact .inr (.inl ⟨by dsimp only; rw [show a.2+1 - 1=a.2 by omega]; exact h,GY rfl (by dsimp only; omega)⟩)
  ·exact .inl ⟨by dsimp only; rw [show a.1+1 - 1=a.1 by omega]; exact h,GY (by dsimp only; omega) rfl⟩
 ·rcases gI.mp h with ⟨_,e⟩ | ⟨_,e⟩ | ⟨_,e⟩ | ⟨_,e⟩
  ·have:=congrArg Jl e; dsimp only at this; omega
  ·have:=congrArg MH e; dsimp only at this; omega
  ·have:=congrArg MH e; dsimp only at this; omega
  ·have:=congrArg Jl e; dsimp only at this; omega
theorem wm {cs rs:List Int} {q r:Int×Int} (h:r∈nb cs rs q):dz cs rs r:=by
 unfold dz;have hb:=gI.mp h;clear h;rcases hb with ⟨h,rfl⟩ | ⟨h,rfl⟩ | ⟨h,rfl⟩ | ⟨h,rfl⟩
 ·have:=nI.mp h; dsimp only at *; omega
 ·have:=jF.mp h; dsimp only at *; omega
 ·have:=jF.mp h; dsimp only at *; omega
 ·have:=nI.mp h; dsimp only at *; omega
theorem iT {cs rs:List Int}:∀ {a b:Int×Int} {l:List (Int×Int)},b∈nb cs rs a->Sm.Go (nb cs rs) a b l->∀ x∈b::l,dz cs rs x
 | a,b,[],hb,_,x,hx=>by rw [Ax.mp hx]; exact wm hb
 | a,b,c::l,hb,g,x,hx=>by
  rcases B_.mp hx with e | hx
  ·rw [e]; exact wm hb
  ·exact iT (Sm.hZ g).1 g.2 x hx
theorem sI {cs rs:List Int} (lc:cs.length<=39) (lr:rs.length<=39) {l:List (Int×Int)} (hn:l.Nodup) (hi:∀ q∈l,dz cs rs q):l.length<=1681:=by
 have:=j3 l ((ED 1681).map fun k=>(((k / 41:Nat):Int),((k%41:Nat):Int))) hn fun q hq=>by
  obtain ⟨⟨a,b⟩,c,d⟩:=hi q hq;refine EJ.mpr ⟨q.1.toNat*41+q.2.toNat,Et.mpr (by omega),GY ?_ ?_⟩
  ·dsimp only; omega
  ·dsimp only; omega
 rwa [Ξ,Eo] at this
end
section
variable {P:D_} {w:Eh} {K:W.Frag} {mg:Str->Option ς} {base:E5} {t:Ad}
theorem wq (cs rs:List Int) (q:Int×Int):(nb cs rs q).length<=2:=(dN cs rs).le2 q
theorem pC {H:Hp}:∀ {xs:List V} {ps:List (Int×Int)} {a:Int×Int},aJ H xs ps->aJ H (xs.filter fun v=>!decide (fh H v=a)) (ps.filter fun c=>!decide (c=a))
 | [],[],a,_=>aJ.nil
 | [],_::_,_,h=>by have:=h.1; simp at this
 | _::_,[],_,h=>by have:=h.1; simp at this
 | v::xs,p::ps,a,h=>by
  obtain ⟨v',r,e,h1,h2⟩:=h.inv
  cases e;have:=pC (a:=a) h2
  by_cases c:p=a
  ·have e1:(!decide (fh H v=a))=false:=by rw [h1.of]; simp [c]
   have e2:(!decide (p=a))=false:=by simp [c]
   rw [Lp (by rw [e1]; simp),Lp (by rw [e2]; simp)];exact this
  ·have e1:(!decide (fh H v=a))=true:=by rw [h1.of]; simp [c]
   have e2:(!decide (p=a))=true:=by simp [c]
   rw [Lo (by rw [e1]),Lo (by rw [e2])];exact aJ.cons h1 this
theorem jx {H:Hp} {xs:List V} {ps:List (Int×Int)} {q:Int×Int} (h:aJ H xs (ps++[q])):∃ v,atI xs (-1)=some v/\Pt H v q:=by
 have hl:=h.1;rw [DZ,EO] at hl;obtain ⟨ys,v,rfl⟩:∃ ys v,xs=ys++[v]:=⟨xs.dropLast,xs.getLast (fun e=>by rw [e] at hl; simp at hl),(Fl _).symm⟩
 rw [DZ,EO] at hl;refine ⟨v,oJ ys v,h.2 ps.length v q (by rw [E1 (by omega),show ps.length - ys.length=0 by omega]; rfl) (by simp)⟩
theorem By {a b h:Int×Int} {r m:List (Int×Int)} (e:r++[h]=b::m):∃ r0 z,a::r=r0++[z]/\Sm.fin a b m=(z,h):=by
 match m,e with
 | [],e =>
  have:r=[]:=by
   have:=congrArg Jp e
   rw [DZ] at this;exact Fi (by simpa using this)
  subst this;simp only [IZ,ID,and_true] at e;exact ⟨[],a,rfl,by rw [e]; rfl⟩
 | c::m,e =>
  obtain ⟨m0,z,hm⟩:∃ m0 z,c::m=m0++[z]:=⟨(c::m).dropLast,(c::m).getLast (by simp),(Fl _).symm⟩
  rw [hm] at e ⊢;rw [<- JR] at e;have e1:=MF e rfl;have e2:=Lv e rfl;simp only [ID,and_true] at e2;subst e1 e2;refine ⟨(a::b::m0).dropLast,(Sm.fin a b m0).2,?_,by rw [Sm.jS]⟩;have hl:=Sm.hG a b m0;rw [Ks (by simp)] at hl;rw [<- E4 hl,Fl]
def sp_aQ (C:Δ):Sp:=fun vs H Q _=>∃ (p a b:Δ) (qa qb:Int×Int) (s:Int) (cs rs:List Int),vs=[.ref p,.ref a,.ref b]/\aP C H p s cs rs/\cs.length<=39/\rs.length<=39/\H a=some (.tup [.int qa.1,.int qa.2])/\H b=some (.tup [.int qb.1,.int qb.2])/\dz cs rs qa/\qb∈nb cs rs qa /\
 ∀ l xs m H',aj H H'->H l=none->H' l=some (.lst xs)->Sm.Wlk (nb cs rs) qa qb m->aJ H' xs (qa::qb::m)->Q (.ref l) H'
theorem ok_aQ (T:Txt K mg t):aW P w K mg base CX0 7 t.f_aQ t.d_aQ ["cloth","start","onward"] (sp_aQ t.a_af):=by
 refine T.F_aQ.ok sc_aQ (by walk_at "l") (fun _ _ _ s H vs Q E hr h=>?_)
 ·obtain ⟨p,a,b,qa,qb,s,cs,rs,rfl,hc,lc,lr,ha,hb,ia,adj,k⟩:=h;refine aN (aO 3 sc_aQ.nd (cg (aa (pv 1) ae))) fun _ _=>aN (aO 4 sc_aQ.nd (pv 2)) fun _ _=>aN (km En (bU (qZ hr.units) (pv 4) (pv 1)) (aK (fg (i:=5) sc_aQ.nd rfl (I_ rfl) (aF (aA K rfl) (pv 3) (fy dw ah))) (aK (bo (cV EM Ed Ec ba (pv 3) (aa (pv 4) ae))) (aK (nB (i:=6) sc_aQ.nd rfl (E_ rfl) (N:=["point","behind"]) (cap:=[none,some 5]) rfl ⟨rfl,rfl,rfl,rfl,rfl,rfl⟩ (bz (au (ok_ao T) (rmo hr) rfl T.mg_ao T.F_ao.kp T.b_ao .nil aS (aa (pv 0) (aa (pv 4) ae)))) (fun _ _ _=>(aw (i:=0) (show (["point","behind"]:List Str).Nodup by decide +kernel) rfl (E_ rfl))) (fun _ _ _=>(nE (bU (qZ hr.units) (pv 0) (pv 1)))) (fun _ _ _=>(pv 0)) (by rfl)) (aK (bD (bU et (aq (bu K rfl) rfl T.no_len (by rfl) (aa (pv 6) ae)) ah) (ao (aD (pv 3))) aM) (ao (aO 4 sc_aQ.nd (aF (aA K rfl) (pv 6) ah)))))))) fun _ _=>dY (aD (pv 3)) fun _ _=>?_;apply ⟨by show 1<=D7; decide,fun l n1=>?_⟩;have s1:=aj.new (o:=HO.lst [V.ref a]) n1;have e1:=ag (H:=H) (a:=l) (o:=HO.lst [V.ref a]);generalize upd H l (HO.lst [V.ref a])=H1 at s1 e1 ⊢;left;have qab:qb≠qa:=fun e=>(dN cs rs).irr qa (e ▸ adj);refine ⟨fun m σ' H'=>∃ (xs:List V) (h:Δ) (r m':List (Int×Int)) (qh:Int×Int) (o5 o6:Option V),m=2000 - r.length/\σ'=[some (.ref p),some (.ref a),some (.ref b),some (.ref l),some (.ref h),o5,o6]/\aj H H'/\H' l=some (.lst xs)/\aJ H' xs (qa::r)/\Pt H' (.ref h) qh/\r++[qh]=qb::m'/\Sm.Go (nb cs rs) qa qb m'/\qa∉r/\r.length<=1681,
   ⟨_,_,b,[],[],qb,none,none,rfl,rfl,s1,e1,aJ.cons ⟨a,rfl,s1 _ _ ha⟩ aJ.nil,⟨b,rfl,s1 _ _ hb⟩,rfl,trivial,(fun z=>nomatch z),El _⟩,?_⟩
  rintro m σ' H2 ⟨xs,h,r,m',qh,o5,o6,rfl,rfl,s2,e2,w2,ph,er,go,na,lr1⟩;obtain ⟨h',hh',ph'⟩:=ph
  cases hh';obtain ⟨r0,z0,er0,ef⟩:=By (a:=qa) er;apply xV ph' (s2 _ _ ha) ?_;by_cases c:qh=qa
  ·rw [bC (show ((qh.1,qh.2):Int×Int)=(qa.1,qa.2) from c)];left;subst c
   match m',er,go with
   | [],er,_ =>
    have:r=[]:=by
     have:=congrArg Jp er
     rw [DZ] at this;exact Fi (by simpa using this)
    subst this;simp only [IZ,ID,and_true] at er;exact absurd er.symm qab
   | c::mm,er,go =>
    obtain ⟨m0,z,hm⟩:∃ m0 z,c::mm=m0++[z]:=⟨(c::mm).dropLast,(c::mm).getLast (by simp),(Fl _).symm⟩
    rw [hm] at er go;rw [<- JR] at er;have q1:=MF er rfl;have q2:=Lv er rfl;simp only [ID,and_true] at q2;subst q1 q2;obtain ⟨g1,g2⟩:=Sm.eY.mp go;have nam:qh∉m0:=fun x=>na (Au _ x);exact k l xs m0 H2 s2 n1 e2 ⟨adj,g1,Sm.kR (dN cs rs) adj m0 g1 nam,.inr g2⟩ w2
  ·rw [cx (show ¬ ((qh.1,qh.2):Int×Int)=(qa.1,qa.2) from c)];left;have ef1:(Sm.fin qa qb m').1=z0:=by rw [ef]
   have ef2:(Sm.fin qa qb m').2=qh:=by rw [ef]
   have nam:qa∉m':=by
    intro x;have:qa∈r++[qh]:=by rw [er]; exact Au _ x
    rcases EE.mp this with x | x
    ·exact na x
    ·exact c (Ax.mp x).symm
   have nd:=Sm.kR (dN cs rs) adj m' go nam;have few:=sI lc lr nd (fun q hq=>by
    rcases B_.mp hq with e | hq
    ·rw [e]; exact ia
    ·exact iT adj go q hq)
   have le:r.length=m'.length:=by
    have:=congrArg Jp er
    rw [DZ,EO,C_] at this;omega
   rw [C_,C_] at few;have lx:xs.length=r.length+1:=by rw [w2.1,C_]
   obtain ⟨vz,hz,pz⟩:=jx (by rw [<- er0]; exact w2);obtain ⟨az,rfl,haz⟩:=pz;have iq:dz cs rs qh:=iT adj go qh (by rw [<- er]; exact D6 _ (Ax.mpr rfl));refine ⟨fun σ' H'=>∃ (xs:List V) (h:Δ) (qc:Int×Int) (o5 o6:Option V),σ'=[some (.ref p),some (.ref a),some (.ref b),some (.ref l),some (.ref h),o5,o6]/\aj H H'/\H' l=some (.lst xs)/\aJ H' xs (qa::(r++[qh]))/\Pt H' (.ref h) qc/\Sm.oth (nb cs rs) z0 qh=[qc],?_,?_⟩
   ·rintro σ' H' ⟨xs,h,qc,o5,o6,rfl,s3,e3,w3,ph,eo⟩;refine ⟨_,?_,xs,h,r++[qh],m'++[qc],qc,o5,o6,rfl,rfl,s3,e3,w3,ph,by rw [er]; rfl,Sm.eY.mpr ⟨go,by rw [ef]; exact eo⟩,?_,?_⟩
    ·rw [DZ,EO]; omega
    ·intro x;rcases EE.mp x with x | x
     ·exact na x
     ·exact c (Ax.mp x).symm
    ·rw [DZ,EO]; omega
   ·apply aH (SqL.of e2) hz ?_;apply bP e2 ?_;apply aV e2 (aR (by omega)) ?_;have s3:=(s2.later (o:=.lst (xs++[.ref h])) n1)
    have e3:=ag (H:=H2) (a:=l) (o:=HO.lst (xs++[.ref h]));have w3:aJ (L2.upd H2 l (.lst (xs++[.ref h]))) (xs++[.ref h]) (qa::(r++[qh])):=(w2.upd e2 (by intro ys z; cases z)).snoc (Pt.upd (q:=qh) ⟨h,rfl,ph'⟩ e2 (by intro ys z; cases z));have haz:=(Pt.upd (o:=.lst (xs++[.ref h])) (q:=z0) ⟨az,rfl,haz⟩ e2 (by intro ys z; cases z))
    have ph3:=(Pt.upd (o:=.lst (xs++[.ref h])) (q:=qh) ⟨h,rfl,ph'⟩ e2 (by intro ys z; cases z))
    generalize L2.upd H2 l (.lst (xs++[.ref h]))=H3 at s3 e3 w3 haz ph3 ⊢;obtain ⟨_,q1,haz⟩:=haz
    cases q1;obtain ⟨_,q1,ph3⟩:=ph3
    cases q1;apply ⟨p,h,qh,s,cs,rs,rfl,hc.mono s3,ph3,iq,fun lj ys H4 s4 _ e4 w4=>?_⟩;apply ⟨⟨_,SqL.of e4⟩,fun lw nw=>?_⟩;have l4:ys.length<=2:=by rw [w4.1]; exact wq cs rs qh
    refine jO (fun v=>v) (fun v=>!decide (fh H4 v=z0)) (SqL.of e4) (by omega) nw (fun x o H5 Q' hx s5 q=>?_) (fun x o H5 Q' hx _ s5 q=>?_) (fun H5 s5 e5=>?_)
    ·left;have px:=w4.mem x hx;obtain ⟨ax,rfl,hax⟩:=px;refine xV (s5 _ _ hax) (s5 _ _ (s4 _ _ haz)) ?_;left;exact q H5 (aj.refl _)
    ·left;exact q H5 (aj.refl _)
    ·rw [List.map_id'] at e5;have w5:=(pC (a:=z0) w4).mono s5;generalize (ys.filter fun v=>!decide (fh H4 v=z0))=us at e5 w5;have w5:aJ H5 us (Sm.oth (nb cs rs) z0 qh):=w5;have s35:=s4.trans s5
     have hzq:z0∈nb cs rs qh:=by
      have:=(dN cs rs).sym (Sm.f9 (dN cs rs) adj go)
      rw [ef] at this;exact this
     apply bA e5 ?_;left;rcases Sm.wN (dN cs rs) hzq with eo | ⟨qc,eo⟩
     ·rw [eo] at w5;have:us=[]:=Fi w5.1
      subst this;rw [show decide ((([]:List V).length:Int)=0)=true from rfl];apply k l _ m' H5 (s3.trans s35) n1 (s35 _ _ e3) ⟨adj,go,nd,.inl (by rw [ef]; exact eo)⟩ ?_;rw [<- er];exact w3.mono s35
     ·rw [eo] at w5;obtain ⟨v,us',e,hv,wu⟩:=w5.inv;have:us'=[]:=Fi wu.1
      subst this;subst e;rw [show decide ((([v]:List V).length:Int)=0)=false from rfl];apply aH (SqL.of e5) (bI (j:=0) rfl) ?_;left;obtain ⟨av,rfl,hav⟩:=hv;exact ⟨_,av,qc,_,_,rfl,s3.trans s35,s35 _ _ e3,w3.mono s35,⟨av,rfl,hav⟩,eo⟩
theorem wo {cs rs:List Int} {q:Int×Int} (h2:(nb cs rs q).length=2) (h:∀ r∈nb cs rs q,Ts.ple q r):nb cs rs q=[(q.1,q.2+1)]++[(q.1+1,q.2)]:=by
 have h1:rt cs rs (q.1 - 1) q.2=false:=by
  cases c:rt cs rs (q.1 - 1) q.2 with
  | false => rfl
  | true => have := h _ (gI.mpr (.inl ⟨c, rfl⟩)); unfold Ts.ple at this; dsimp only at this; omega
 have h3:ups cs rs q.1 (q.2 - 1)=false:=by
  cases c:ups cs rs q.1 (q.2 - 1) with
  | false => rfl
  | true => have := h _ (gI.mpr (.inr (.inl ⟨c, rfl⟩))); unfold Ts.ple at this; dsimp only at this; omega
 unfold nb at h2 ⊢;rw [h1,h3] at h2 ⊢
 cases c:ups cs rs q.1 q.2<;>cases d:rt cs rs q.1 q.2<;>rw [c,d] at h2<;>first | rfl | (simp at h2)
theorem mf {a b:Int×Int} {m:List (Int×Int)}:∃ ps,a::b::m=ps++[(Sm.fin a b m).2]:=by
 have hl:=Sm.hG a b m;rw [Ks (by simp)] at hl;exact ⟨(a::b::m).dropLast,by rw [<- E4 hl,Fl]⟩
theorem aJ.rev:∀ {H:Hp} {xs:List V} {ps:List (Int×Int)},aJ H xs ps->aJ H xs.reverse ps.reverse
 | H,[],[],_=>aJ.nil
 | H,[],_::_,h=>by have:=h.1; simp at this
 | H,_::_,[],h=>by have:=h.1; simp at this
 | H,v::xs,p::ps,h=>by
  obtain ⟨v',r,e,h1,h2⟩:=h.inv
  cases e;rw [Hr,Hr];exact (aJ.rev h2).snoc h1
theorem fY {cs rs:List Int} {f:Bool} {L:List (Int×Int)} (h:Sm.cJ (nb cs rs) f L):∀ q∈L,dz cs rs q:=by
 obtain ⟨a,b,l,rfl,adj,go,_⟩:=h.path;intro q hq;rcases B_.mp hq with e | hq
 ·rw [e]; exact wm ((dN cs rs).sym adj)
 ·exact iT adj go q hq
def sp_ap (C:Δ):Sp:=fun vs H Q _=>∃ (p ll:Δ) (xs:List V) (qa qb:Int×Int) (m:List (Int×Int)) (s:Int) (cs rs:List Int),vs=[.ref p,.ref ll]/\aP C H p s cs rs/\cs.length<=39/\rs.length<=39/\H ll=some (.lst xs)/\aJ H xs (qa::qb::m)/\Sm.Rnd (nb cs rs) qa qb m/\dz cs rs qa /\
 ∀ l ys L H',aj H H'->H l=none->H' l=some (.lst ys)->Sm.cJ (nb cs rs) true L->qa∈L->aJ H' ys L->Q (.ref l) H'
theorem ok_ap (T:Txt K mg t):aW P w K mg base CX0 8 t.f_ap t.d_ap ["cloth","line"] (sp_ap t.a_af):=by
 refine T.F_ap.ok sc_ap (by walk_at "l") (fun _ _ _ s H vs Q E hr h=>?_)
 ·obtain ⟨p,ll,xs,qa,qb,m,s,cs,rs,rfl,hc,lc,lr,hl,wx,rd,ia,k⟩:=h;have G:=dN cs rs;refine ⟨_,(aK (aO 2 sc_ap.nd (aq (vD K rfl rfl hr.units) rfl T.no_min (by rfl) (aa (pv 1) ae))) (ao (aD (au (ok_aQ T) (rmo hr) rfl T.mg_aQ T.F_aQ.kp T.b_aQ .nil aS (aa (pv 0) (aa (pv 2) (aa (aF (aA K rfl) (au (ok_ao T) (rmo hr) rfl T.mg_ao T.F_ao.kp T.b_ao .nil aS (aa (pv 0) (aa (pv 2) ae))) (fy dw ah)) ae))))))),?_⟩;apply Ac (fh H) hl (fun e=>by have:=wx.1; rw [e] at this; simp at this) (fun v hv=>wx.mem v hv) fun v hv hmin=>?_;obtain ⟨a,rfl,ha⟩:=wx.mem v hv;have hq:fh H (.ref a)∈qa::qb::m:=by rw [<- wx.map]; exact EJ.mpr ⟨_,hv,rfl⟩
  have hmn:∀ r∈qa::qb::m,Ts.ple (fh H (.ref a)) r:=by
   intro r hr;rw [<- wx.map] at hr;obtain ⟨u,hu,rfl⟩:=EJ.mp hr;exact hmin u hu
  generalize fh H (.ref a)=q at ha hq hmn
  have iq:dz cs rs q:=by
   rcases B_.mp hq with e | hq
   ·rw [e]; exact ia
   ·exact iT rd.adj rd.go q hq
  have sh:=rd.shut G;have two:=rd.two G;have enb:=wo (two q hq) fun r hr=>hmn r (sh q hq r hr);apply ⟨p,a,q,s,cs,rs,rfl,hc,ha,iq,fun lj ys H1 s1 _ e1 w1=>?_⟩;rw [enb] at w1;obtain ⟨v,hv1,pv⟩:=jx w1;obtain ⟨b,rfl,hb⟩:=pv;apply aH (SqL.of e1) hv1 ?_;left;have adj:((q.1+1,q.2):Int×Int)∈nb cs rs q:=by rw [enb]; exact D6 _ (Ax.mpr rfl)
  refine ⟨p,a,b,q,(q.1+1,q.2),s,cs,rs,rfl,hc.mono s1,lc,lr,s1 _ _ ha,hb,iq,adj,fun l zs m' H2 s2 n2 e2 wk w2=>?_⟩;have rd2:=wk.round G sh two hq;have sub:∀ x∈q::(q.1+1,q.2)::m',x∈qa::qb::m:=Sm.jf G sh rd2.adj rd2.go q Θ hq;refine k l zs (q::(q.1+1,q.2)::m') H2 (s1.trans s2) (s1.free n2) e2 ⟨(fun e=>by cases e),fun _=>⟨q,_,m',rfl,rd2,fun x hx=>hmn x (sub x hx),rfl⟩⟩ ?_ w2;exact Sm.jf G (rd2.shut G) rd.adj rd.go q hq Θ qa Θ
def sp_au (C:Δ):Sp:=fun vs H Q _=>∃ (p a:Δ) (q:Int×Int) (s:Int) (cs rs:List Int),vs=[.ref p,.ref a]/\aP C H p s cs rs/\cs.length<=39/\rs.length<=39/\H a=some (.tup [.int q.1,.int q.2])/\(nb cs rs q).length=1/\dz cs rs q /\
 ∀ l ys L H',aj H H'->H l=none->H' l=some (.lst ys)->Sm.cJ (nb cs rs) false L->q∈L->aJ H' ys L->Q (.ref l) H'
theorem ok_au (T:Txt K mg t):aW P w K mg base CX0 8 t.f_au t.d_au ["cloth","end"] (sp_au t.a_af):=by
 refine T.F_au.ok sc_au (by walk_at "l") (fun _ _ _ s H vs Q E hr h=>?_)
 ·obtain ⟨p,a,q,s,cs,rs,rfl,hc,lc,lr,ha,one,iq,k⟩:=h;have G:=dN cs rs;refine aN (aO 2 sc_au.nd (au (ok_aQ T) (rmo hr) rfl T.mg_aQ T.F_aQ.kp T.b_aQ .nil aS (aa (pv 0) (aa (pv 1) (aa (aF (aA K rfl) (au (ok_ao T) (rmo hr) rfl T.mg_ao T.F_ao.kp T.b_ao .nil aS (aa (pv 0) (aa (pv 1) ae))) ah) ae))))) fun _ _=>aN (bD (bU (BQ hr.units) (aF (aA K rfl) (pv 2) (fy dw ah)) (pv 1)) (ao (aD (zG K rfl rfl rfl T.no_list rfl T.no_reversed (pv 2)))) aM) fun _ _=>dY (aD (pv 2)) fun _ _=>?_;apply ⟨p,a,q,s,cs,rs,rfl,hc,ha,iq,fun lj ys H1 s1 _ e1 w1=>?_⟩;obtain ⟨y,ey⟩:∃ y,nb cs rs q=[y]:=by
   match hz:nb cs rs q,one with
   | [y],_=>exact ⟨y,rfl⟩
  rw [ey] at w1;obtain ⟨v,r,e,hv,wr⟩:=w1.inv;subst e;obtain ⟨b,rfl,hb⟩:=hv;apply aH (SqL.of e1) (bI (j:=0) rfl) ?_;apply ⟨p,a,b,q,y,s,cs,rs,rfl,hc.mono s1,lc,lr,s1 _ _ ha,hb,iq,by rw [ey]; exact Ax.mpr rfl,fun l zs m' H2 s2 n2 e2 wk w2=>?_⟩;have op:=wk.open G one;obtain ⟨t1,t2⟩:=Sm.vg G op;obtain ⟨ps,eps⟩:=mf (a:=q) (b:=y) (m:=m');obtain ⟨vl,hvl,pl⟩:=jx (by rw [<- eps]; exact w2);apply aH (SqL.of e2) hvl ?_;apply Cm (p:=(Sm.fin q y m').2) (q:=q) pl ⟨a,rfl,s2 _ _ (s1 _ _ ha)⟩ ?_
  cases hlt:Ts.plt (Sm.fin q y m').2 q with
  | true =>
   apply Ah ?_;apply Ct e2 fun l3 n3=>?_;left;have s3:=aj.new (o:=HO.lst zs.reverse) n3;exact k l3 _ _ _ (s1.trans (s2.trans s3)) (s1.free (s2.free n3)) ag (t1 hlt) (Gh.mpr Θ) (w2.rev.mono s3)
  | false =>
   left;exact k l zs _ H2 (s1.trans s2) (s1.free n2) e2 (t2 hlt) Θ w2
def sp_aW (C:Δ):Sp:=fun vs H Q _=>∃ (p a:Δ) (q:Int×Int) (s:Int) (cs rs:List Int),vs=[.ref p,.ref a]/\aP C H p s cs rs/\cs.length<=39/\rs.length<=39/\H a=some (.tup [.int q.1,.int q.2])/\dz cs rs q /\
 (nb cs rs q=[]->∀ H',aj H H'->Q .non H') /\
 (nb cs rs q≠[]->∀ TT l f ys L H',aj H H'->H TT=none->H l=none->H' TT=some (.tup [.bl f,.ref l])->H' l=some (.lst ys)->Sm.cJ (nb cs rs) f L->q∈L->aJ H' ys L->Q (.ref TT) H')
theorem ok_aW (T:Txt K mg t):aW P w K mg base CX0 9 t.f_aW t.d_aW ["cloth","point"] (sp_aW t.a_af):=by
 refine T.F_aW.ok sc_aW (by walk_at "l") (fun _ _ _ s H vs Q E hr h=>?_)
 ·obtain ⟨p,a,q,s,cs,rs,rfl,hc,lc,lr,ha,iq,k0,k⟩:=h;have G:=dN cs rs;refine aN (aO 2 sc_aW.nd (au (ok_ao T) (rmo hr) rfl T.mg_ao T.F_ao.kp T.b_ao .nil aS (aa (pv 0) (aa (pv 1) ae)))) fun _ _=>aN (bD (bU et (aq (bu K rfl) rfl T.no_len (by rfl) (aa (pv 2) ae)) ah) (ao (aD q8)) aM) fun _ _=>aN (aO 3 sc_aW.nd (au (ok_aQ T) (rmo hr) rfl T.mg_aQ T.F_aQ.kp T.b_aQ .nil aS (aa (pv 0) (aa (pv 1) (aa (aF (aA K rfl) (pv 2) ah) ae))))) fun _ _=>aN (bD (bU et (aq (bu K rfl) rfl T.no_len (by rfl) (aa (au (ok_ao T) (rmo hr) rfl T.mg_ao T.F_ao.kp T.b_ao .nil aS (aa (pv 0) (aa (aF (aA K rfl) (pv 3) (fy dw ah)) ae))) ae)) ah) (ao (aD (bN (aa eu (aa (au (ok_au T) (rmo hr) rfl T.mg_au T.F_au.kp T.b_au .nil aS (aa (pv 0) (aa (aF (aA K rfl) (pv 3) (fy dw ah)) ae))) ae))))) aM) fun _ _=>dY (aD (bN (aa eu (aa (au (ok_ap T) (rmo hr) rfl T.mg_ap T.F_ap.kp T.b_ap .nil aS (aa (pv 0) (aa (pv 3) ae))) ae)))) fun _ _=>?_;apply ⟨p,a,q,s,cs,rs,rfl,hc,ha,iq,fun lj ys H1 s1 _ e1 w1=>?_⟩;apply bA e1 ?_;left
  match hz:nb cs rs q,w1 with
  | [], w1 =>
   have:ys=[]:=Fi w1.1
   subst this;rw [show decide ((([]:List V).length:Int)=0)=true from rfl];left;exact k0 hz _ s1
  | y :: gw, w1 =>
   have k:=k (by rw [hz]; simp);obtain ⟨v,r,e,hv,wr⟩:=w1.inv;subst e;obtain ⟨b,rfl,hb⟩:=hv;rw [cx (show ¬ (((V.ref b::r).length:Nat):Int)=0 by rw [C_]; omega)];apply aH (SqL.of e1) (bI (j:=0) rfl) ?_;apply ⟨p,a,b,q,y,s,cs,rs,rfl,hc.mono s1,lc,lr,s1 _ _ ha,hb,iq,by rw [hz]; exact Θ,fun l zs m' H2 s2 n2 e2 wk w2=>?_⟩;obtain ⟨ps,eps⟩:=mf (a:=q) (b:=y) (m:=m');obtain ⟨vl,hvl,pl⟩:=jx (by rw [<- eps]; exact w2);obtain ⟨al,rfl,hal⟩:=pl;have il:dz cs rs (Sm.fin q y m').2:=iT wk.adj wk.go _ (Sm.cz q y m').1;apply aH (SqL.of e2) hvl ?_;apply ⟨p,al,(Sm.fin q y m').2,s,cs,rs,rfl,hc.mono (s1.trans s2),hal,il,fun lj us H3 s3 _ e3 w3=>?_⟩;apply bA e3 ?_;rw [w3.1];left;by_cases c1:(nb cs rs (Sm.fin q y m').2).length=1
   ·rw [c1,show decide (((1:Nat):Int)=1)=true from rfl];apply aH (SqL.of (s3 _ _ e2)) hvl ?_;apply ⟨p,al,(Sm.fin q y m').2,s,cs,rs,rfl,hc.mono (s1.trans (s2.trans s3)),lc,lr,s3 _ _ hal,c1,il,fun lo os L H4 s4 n4 e4 td hin w4=>?_⟩;apply ⟨by show 2<=D7; decide,fun TT nT=>?_⟩;left;have sT:=aj.new (o:=HO.tup [V.bl false,V.ref lo]) nT;refine k TT lo false os L _ (s1.trans (s2.trans (s3.trans (s4.trans sT)))) (s1.free (s2.free (s3.free (s4.free nT)))) (s1.free (s2.free (s3.free n4))) ag (sT _ _ e4) td ?_ (w4.mono sT);exact Sm.jf G (td.shut G) wk.adj wk.go _ (Au _ (Sm.cz q y m').1) hin q Θ
   ·rw [cx (show ¬ (((nb cs rs (Sm.fin q y m').2).length:Nat):Int)=1 by omega)];have rd:Sm.Rnd (nb cs rs) q y m':=⟨wk.adj,wk.go,by
     rcases wk.stop with h | h
     ·exact absurd ((wk.ended G).mpr h) c1
     ·exact h,wk.nd⟩
    apply ⟨p,l,zs,q,y,m',s,cs,rs,rfl,hc.mono (s1.trans (s2.trans s3)),lc,lr,s3 _ _ e2,w2.mono s3,rd,iq,fun lo os L H4 s4 n4 e4 td hin w4=>?_⟩;apply ⟨by show 2<=D7; decide,fun TT nT=>?_⟩;left;have sT:=aj.new (o:=HO.tup [V.bl true,V.ref lo]) nT;exact k TT lo true os L _ (s1.trans (s2.trans (s3.trans (s4.trans sT)))) (s1.free (s2.free (s3.free (s4.free nT)))) (s1.free (s2.free (s3.free n4))) ag (sT _ _ e4) td hin (w4.mono sT)
end
noncomputable def ky (q:Int×Int):List Key:=[G4 q.1,G4 q.2]
theorem iW {p q:Int×Int} (h:ky p=ky q):p=q:=by
 unfold ky at h;simp only [ID,Sum.inl.injEq,and_true] at h;exact GY h.1 h.2
def bR (kvs:List (List Key×V)) (ps:List (Int×Int)):Prop:=kvs.map (·.1)=ps.map ky
theorem bR.len {kvs:List (List Key×V)} {ps:List (Int×Int)} (h:bR kvs ps):kvs.length=ps.length:=by
 have:=congrArg Jp h
 rwa [Ξ,Ξ] at this
theorem bR.val {kvs:List (List Key×V)} {ps:List (Int×Int)} (h:bR kvs ps) (q:Int×Int):(aT kvs (ky q)).isSome=decide (q∈ps):=by
 rw [<- dU];have e:(kvs.any fun kv=>decide (kv.1=ky q))=(kvs.map (·.1)).any fun k=>decide (k=ky q):=by rw [List.any_map]; rfl
 rw [e,show kvs.map (·.1)=ps.map ky from h,GU,List.any_eq_true,decide_eq_true_eq];constructor
 ·rintro ⟨k,hk,z⟩;obtain ⟨p,hp,rfl⟩:=EJ.mp hk;exact iW (of_decide_eq_true z) ▸ hp
 ·intro hq;exact ⟨ky q,EJ.mpr ⟨q,hq,rfl⟩,bC rfl⟩
theorem bR.put {kvs:List (List Key×V)} {ps:List (Int×Int)} {q:Int×Int} {v:V} (h:bR kvs ps) (hq:q∉ps):bR (b7 kvs (ky q) v) (ps++[q]):=by
 have hn:aT kvs (ky q)=none:=by
  have:=h.val q
  rw [cx hq] at this
  cases e:aT kvs (ky q) with
  | none => rfl
  | some z => rw [e] at this; cases this
 rw [ko v hn];unfold bR;rw [Ef,Ef,show kvs.map (·.1)=ps.map ky from h];rfl
section
variable {P:D_} {w:Eh} {K:W.Frag} {mg:Str->Option ς} {base:E5} {t:Ad}
noncomputable abbrev Sm1:=Bool×List (Int×Int)
def SeV (H:Hp) (lf:Δ) (v:V) (e:Sm1):Prop:=∃ T l ys,v=.ref T/\l≠lf/\H T=some (.tup [.bl e.1,.ref l])/\H l=some (.lst ys)/\aJ H ys e.2
theorem SeV.mono {H H':Hp} {lf:Δ} {v:V} {e:Sm1} (s:aj H H') (h:SeV H lf v e):SeV H' lf v e:=by
 obtain ⟨T,l,ys,h1,h2,h3,h4,h5⟩:=h;exact ⟨T,l,ys,h1,h2,s _ _ h3,s _ _ h4,h5.mono s⟩
theorem SeV.lst {H:Hp} {lf:Δ} {v:V} {e:Sm1} {us:List V} {o:HO} (h:SeV H lf v e) (q:H lf=some (.lst us)):SeV (upd H lf o) lf v e:=by
 obtain ⟨T,l,ys,h1,h2,h3,h4,h5⟩:=h;exact ⟨T,l,ys,h1,h2,by rw [ai (aZ h3 q (by intro z; cases z))]; exact h3,by rw [ai h2]; exact h4,h5.upd q (by intro ys z; cases z)⟩
theorem SeV.dct {H:Hp} {lf d:Δ} {v:V} {e:Sm1} {us:List (List Key×V)} {o:HO} (h:SeV H lf v e) (q:H d=some (.dT us)):SeV (upd H d o) lf v e:=by
 obtain ⟨T,l,ys,h1,h2,h3,h4,h5⟩:=h;exact ⟨T,l,ys,h1,h2,by rw [ai (aZ h3 q (by intro z; cases z))]; exact h3,by rw [ai (aZ h4 q (by intro z; cases z))]; exact h4,h5.upd q (by intro ys z; cases z)⟩
def PwS (H:Hp) (lf:Δ) (xs:List V) (L:List Sm1):Prop:=xs.length=L.length/\∀ (i:Nat) v e,xs[i]?=some v->L[i]?=some e->SeV H lf v e
theorem PwS.nil {H:Hp} {lf:Δ}:PwS H lf [] []:=⟨rfl,fun i v e h=>by simp at h⟩
theorem PwS.mono {H H':Hp} {lf:Δ} {xs:List V} {L:List Sm1} (s:aj H H') (h:PwS H lf xs L):PwS H' lf xs L:=⟨h.1,fun i v e a b=>(h.2 i v e a b).mono s⟩
theorem PwS.lst {H:Hp} {lf:Δ} {xs us:List V} {L:List Sm1} {o:HO} (h:PwS H lf xs L) (q:H lf=some (.lst us)):PwS (upd H lf o) lf xs L:=⟨h.1,fun i v e a b=>(h.2 i v e a b).lst q⟩
theorem PwS.dct {H:Hp} {lf d:Δ} {xs:List V} {L:List Sm1} {us:List (List Key×V)} {o:HO} (h:PwS H lf xs L) (q:H d=some (.dT us)):PwS (upd H d o) lf xs L:=⟨h.1,fun i v e a b=>(h.2 i v e a b).dct q⟩
theorem PwS.snoc {H:Hp} {lf:Δ} {xs:List V} {L:List Sm1} {v:V} {e:Sm1} (h:PwS H lf xs L) (hv:SeV H lf v e):PwS H lf (xs++[v]) (L++[e]):=by
 refine ⟨by rw [DZ,DZ,h.1]; rfl,fun i v' q' h1 h2=>?_⟩;by_cases hi:i<xs.length
 ·rw [FO hi] at h1;rw [FO (by rw [<- h.1]; exact hi)] at h2;exact h.2 i v' q' h1 h2
 ·rw [E1 (by omega)] at h1;rw [E1 (by rw [<- h.1]; omega),<- h.1] at h2
  cases hk:i - xs.length with
  | zero =>
   rw [hk] at h1 h2;simp only [E3,FN] at h1 h2;rw [<- h1,<- h2]; exact hv
  | succ k => rw [hk] at h1; simp at h1
noncomputable def eU (H:Hp):V->Sm1
 | .ref T=>match H T with
  | some (.tup [.bl f, .ref l]) => match H l with
   | some (.lst ys)=>(f,ys.map (fh H))
   | _=>(false,[])
  | _ => (false, [])
 | _=>(false,[])
theorem SeV.of {H:Hp} {lf:Δ} {v:V} {e:Sm1} (h:SeV H lf v e):eU H v=e:=by
 obtain ⟨T,l,ys,rfl,_,h3,h4,h5⟩:=h;simp only [eU,h3,h4,h5.map]
theorem PwS.map {H:Hp} {lf:Δ} {xs:List V} {L:List Sm1} (h:PwS H lf xs L):xs.map (eU H)=L:=by
 refine GS fun i=>?_;rw [EU];by_cases hi:i<xs.length
 ·have hi':i<L.length:=by rw [<- h.1]; exact hi
  rw [ξ hi,ξ hi',IT,(h.2 i _ _ (ξ hi) (ξ hi')).of]
 ·rw [FJ (by omega),FJ (by rw [<- h.1]; omega)]; rfl
theorem PwS.mem {H:Hp} {lf:Δ} {xs:List V} {L:List Sm1} (h:PwS H lf xs L):∀ v∈xs,SeV H lf v (eU H v)/\eU H v∈L:=by
 intro v hv;obtain ⟨i,hi⟩:=Ep.mp hv;have hl:i<L.length:=by rw [<- h.1]; exact (Aw.mp hi).1
 have:=h.2 i v _ hi (ξ hl)
 rw [this.of];exact ⟨this,Er hl⟩
theorem xu {H:Hp} {lf:Δ}:∀ {xs:List V},(∀ v∈xs,SeV H lf v (eU H v))->PwS H lf xs (xs.map (eU H))
 | [],_=>PwS.nil
 | v::xs,h=>by
  have ih:=xu (xs:=xs) fun v hv=>h v (Au _ hv);refine ⟨by rw [Ξ],fun i v' e h1 h2=>?_⟩
  cases i with
  | zero => simp only [E3, EL, FN] at h1 h2; rw [<- h1, <- h2]; exact h v Θ
  | succ i => simp only [FL, EL] at h1 h2; exact ih.2 i v' e h1 h2
noncomputable def hd (e:Sm1):Int×Int:=e.2.headD (0,0)
noncomputable def cb (L:List Sm1):List (Int×Int):=L.flatMap (·.2)
theorem dB (L:List Sm1) (e:Sm1):cb (L++[e])=cb L++e.2:=by
 unfold cb;rw [MT];simp
theorem ir {L:List Sm1} {q:Int×Int}:q∈cb L↔∃ e∈L,q∈e.2:=IF
structure cU (cs rs:List Int) (L:List Sm1):Prop where
 told:∀ e∈L,Sm.cJ (nb cs rs) e.1 e.2
 nd:(cb L).Nodup
theorem cU.in_ {cs rs:List Int} {L:List Sm1} (h:cU cs rs L):∀ q∈cb L,dz cs rs q:=fun q hq=>by
 obtain ⟨e,he,hq⟩:=ir.mp hq;exact fY (h.told e he) q hq
theorem cU.add {cs rs:List Int} {L:List Sm1} (h:cU cs rs L) {e:Sm1} {q:Int×Int} (he:Sm.cJ (nb cs rs) e.1 e.2) (hq:q∈e.2) (hn:q∉cb L):cU cs rs (L++[e]):=by
 refine ⟨fun e' he'=>?_,?_⟩
 ·rcases EE.mp he' with z | z
  ·exact h.told e' z
  ·rw [Ax.mp z]; exact he
 ·rw [dB,Ey];obtain ⟨_,_,_,_,_,_,nd⟩:=he.path;refine ⟨h.nd,nd,fun a ha b hb z=>?_⟩;subst z;obtain ⟨e',he',ha⟩:=ir.mp ha;have:=((h.told e' he').uniq (dN cs rs) he ha hb).2
  exact hn (ir.mpr ⟨e',he',by rw [this]; exact hq⟩)
theorem cU.few {cs rs:List Int} (lc:cs.length<=39) (lr:rs.length<=39) {L:List Sm1} (h:cU cs rs L):(cb L).length<=1681/\L.length<=1681:=by
 have h1:=sI lc lr h.nd h.in_;refine ⟨h1,?_⟩;have:∀ (M:List Sm1),(∀ e∈M,Sm.cJ (nb cs rs) e.1 e.2)->M.length<=(cb M).length:=by
  intro M
  induction M with
  | nil => intro _; exact El _
  | cons e M ih =>
   intro hM;have:=ih fun e' he'=>hM e' (Au _ he')
   obtain ⟨a,b,l,ee,_⟩:=(hM e Θ).path;unfold cb at this ⊢;rw [Hu,DZ,ee,C_,C_,C_];omega
 exact Ew (this L h.told) h1
theorem lX {L L':List Sm1} (h:L'.Perm L):(cb L').Perm (cb L):=h.flatMap_right _
theorem cU.perm {cs rs:List Int} {L L':List Sm1} (h:cU cs rs L) (p:L'.Perm L):cU cs rs L':=⟨fun e he=>h.told e (p.mem_iff.mp he),(lX p).nodup_iff.mpr h.nd⟩
structure mI (cs rs:List Int) (L:List Sm1):Prop where
 some:cU cs rs L
 cov:∀ q,dz cs rs q->nb cs rs q≠[]->q∈cb L
 srt:L.Pairwise fun a b=>Ts.ple (hd a) (hd b)
structure tQ (H:Hp) (lf ds:Δ) (L:List Sm1):Prop where
 lst:∃ xs,H lf=some (.lst xs)/\PwS H lf xs L
 dct:∃ kvs,H ds=some (.dT kvs)/\bR kvs (cb L)
theorem tQ.mono {H H':Hp} {lf ds:Δ} {L:List Sm1} (s:aj H H') (h:tQ H lf ds L):tQ H' lf ds L :=
 ⟨let ⟨xs,h1,h2⟩:=h.lst; ⟨xs,s _ _ h1,h2.mono s⟩,let ⟨kvs,h1,h2⟩:=h.dct; ⟨kvs,s _ _ h1,h2⟩⟩
def sp_an:Sp:=fun vs H Q _=>∃ (T l:Δ) (f:Bool) (v:V) (ys:List V),vs=[.ref T]/\H T=some (.tup [.bl f,.ref l])/\H l=some (.lst (v::ys))/\Q v H
theorem ok_an (T:Txt K mg t):aW P w K mg base CX0 1 t.f_an t.d_an ["told"] sp_an:=by
 refine T.F_an.ok sc_an (by walk_at "l") (fun _ _ _ s H vs Q E hr h=>?_)
 ·obtain ⟨T,l,f,v,ys,rfl,h1,h2,q⟩:=h;refine ⟨_,(ao (aD (aF (aA K rfl) (aF (bw K rfl) (pv 0) ah) ah))),?_⟩;apply bH (SqT.of h1) (v:=.ref l) rfl ?_;apply aH (SqL.of h2) (bI (j:=0) rfl) ?_;exact q
def sp_aK (C:Δ):Sp:=fun vs H Q _=>∃ (p:Δ) (s:Int) (cs rs:List Int),vs=[.ref p]/\aP C H p s cs rs/\cs.length<=39/\rs.length<=39 /\
 ∀ l ys L H',aj H H'->H l=none->H' l=some (.lst ys)->mI cs rs L->PwS H' l ys L->Q (.ref l) H'
theorem ok_aK (T:Txt K mg t):aW P w K mg base CX0 10 t.f_aK t.d_aK ["cloth"] (sp_aK t.a_af):=by
  refine T.F_aK.ok sc_aK (fun vs H Q E h=>?_) (fun cdv A outer s H vs Q E hr h=>?_)
  · obtain ⟨p,s,cs,rs,rfl,_⟩:=h; rfl
  · obtain ⟨p,s,cs,rs,rfl,hc,lc,lr,k⟩:=h
    obtain ⟨dx,a1,b1,g1,g2,g3⟩:=hc.ob;have nl:∀ {w h:Int} {m:Str},NoF m->(cfl s a1 b1 w h).lookup m=none:=fun x=>gE _ _ _ x;refine aN (aO 1 sc_aK.nd (cg ae)) fun _ _=>aN (aO 2 sc_aK.nd kc) fun _ _=>aN (bX En rfl (cC rfl T.no_ai (aa (aE bB (b0 (pv 0) T.cl_af T.m_ah (ok_ah T) (rmo hr) T.b_ah .nil aS) ah) ae)) (aw (i:=3) sc_aK.nd rfl (E_ rfl)) (ao (bX En rfl (cC rfl T.no_ai (aa (aE bB (b0 (pv 0) T.cl_af T.m_ag (ok_ag T) (rmo hr) T.b_ag .nil aS) ah) ae)) (aw (i:=4) sc_aK.nd rfl (E_ rfl)) (aK (aO 5 sc_aK.nd (kg (xr (ny (ie hr) (bN (aa (pv 3) (aa (pv 4) ae))) (pv 2))) q8 (au (ok_aW T) (rmo hr) rfl T.mg_aW T.F_aW.kp T.b_aW .nil aS (aa (pv 0) (aa (bN (aa (pv 3) (aa (pv 4) ae))) ae))))) (ao (bD (bU zC (pv 5) q8) (aK (bo (cV EM Ed Ec ba (pv 1) (aa (pv 5) ae))) (ao (bX En rfl (bz (aF (bw K rfl) (pv 5) ah)) (aw (i:=6) sc_aK.nd rfl (E_ rfl)) (ao (sX (ie hr) (pv 2) (pv 6) eu rfl))))) aM)))))) fun _ _=>dY (aD (w8 K rfl (ok_an T) (rmo hr) rfl T.no_sorted rfl T.mg_an T.b_an (pv 1))) fun _ _=>?_;apply ⟨El _,fun lf nf=>?_⟩;have s1:=aj.new (o:=HO.lst []) nf;have e1:=ag (H:=H) (a:=lf) (o:=HO.lst []);generalize upd H lf (HO.lst [])=H1 at s1 e1 ⊢;apply fun ds nd=>?_;have s2:=s1.trans (aj.new (o:=HO.dT []) nd);have nds:H ds=none:=s1.free nd;have ga:tQ (upd H1 ds (.dT [])) lf ds []:=⟨⟨[],aj.new nd _ _ e1,PwS.nil⟩,⟨[],ag,rfl⟩⟩
    generalize upd H1 ds (HO.dT [])=H2 at s2 ga ⊢;apply bq (s2 _ _ g1) (nl (by decide +kernel)) ?_;apply ⟨p,s,cs,rs,rfl,hc.mono s2,?_⟩;apply ⟨_,rfl,by omega,by omega,?_⟩;rw [show ((cs.length:Int)+1+1).toNat=cs.length+2 by omega];refine cu (fun x σ' H'=>∃ (L:List Sm1) (o3 o4 o5 o6:Option V),σ'=[some (.ref p),some (.ref lf),some (.ref ds),o3,o4,o5,o6]/\aj H H'/\tQ H' lf ds L/\cU cs rs L/\∀ q,dz cs rs q->nb cs rs q≠[]->q.1<(x:Nat)->q∈cb L)
      ⟨[],none,none,none,none,rfl,s2,ga,⟨(fun e he=>nomatch he),F0⟩,fun q hq _ h=>by have:=hq.1.1; omega⟩ ?_ ?_
    · rintro x σ' H3 hx ⟨L,o3,o4,o5,o6,rfl,s3,ga3,so3,cov3⟩
      rw [Ir];apply bq (s3 _ _ g1) (nl (by decide +kernel)) ?_;apply ⟨p,s,cs,rs,rfl,hc.mono s3,?_⟩;apply ⟨_,rfl,by omega,by omega,?_⟩;rw [show ((rs.length:Int)+1+1).toNat=rs.length+2 by omega];refine cu (fun y σ' H'=>∃ (L:List Sm1) (o4 o5 o6:Option V),σ'=[some (.ref p),some (.ref lf),some (.ref ds),some (.int (x:Nat)),o4,o5,o6]/\aj H H'/\tQ H' lf ds L/\cU cs rs L/\∀ q,dz cs rs q->nb cs rs q≠[]->(q.1<(x:Nat)\/(q.1=(x:Nat)/\q.2<(y:Nat)))->q∈cb L)
        ⟨L,o4,o5,o6,rfl,s3,ga3,so3,fun q hq hn h=>cov3 q hq hn (by have:=hq.2.1; omega)⟩ ?_ ?_
      · rintro y σ' H4 hy ⟨L,o4,o5,o6,rfl,s4,ga4,so4,cov4⟩
        rw [Ir];have hin:dz cs rs (((x:Nat):Int),((y:Nat):Int)):=⟨⟨by dsimp only; omega,by dsimp only; omega⟩,by dsimp only; omega,by dsimp only; omega⟩
        have nxt:∀ L',(∀ q∈cb L,q∈cb L')->(nb cs rs (((x:Nat):Int),((y:Nat):Int))≠[]->(((x:Nat):Int),((y:Nat):Int))∈cb L') ->
            ∀ q,dz cs rs q->nb cs rs q≠[]->(q.1<(x:Nat)\/(q.1=(x:Nat)/\q.2<((y+1:Nat):Int)))->q∈cb L':=fun L' sub hp q hq hn h=>by
          by_cases hh:q.1<(x:Nat)\/(q.1=(x:Nat)/\q.2<(y:Nat))
          · exact sub q (cov4 q hq hn hh)
          · have:q=(((x:Nat):Int),((y:Nat):Int)):=GY (by show q.1=_; omega) (by show q.2=_; omega)
            rw [this] at hn ⊢; exact hp hn
        generalize ((y:Nat):Int)=yy at hin nxt ⊢;clear cov4;apply ⟨by show 2<=D7; decide,fun a na=>?_⟩;have s5:=aj.new (o:=HO.tup [V.int (x:Nat),V.int yy]) na;have ea:=ag (H:=H4) (a:=a) (o:=HO.tup [V.int (x:Nat),V.int yy]);generalize upd H4 a (HO.tup [V.int (x:Nat),V.int yy])=H5 at s5 ea ⊢;have ga5:=ga4.mono s5;have s5:=s4.trans s5;obtain ⟨kvs,ed,ke⟩:=ga5.dct;apply ⟨ds,_,rfl,fz.t (k:=ky (((x:Nat):Int),yy)) ed ea,?_⟩;rw [ke.val];by_cases hm:(((x:Nat):Int),yy)∈cb L
        · rw [bC hm]
          apply ⟨rfl,?_⟩;rw [show (!decide (V.non=V.non))=false by simp];left;exact ⟨L,_,_,_,rfl,s5,ga5,so4,nxt L (fun q hq=>hq) fun _=>hm⟩
        · rw [cx hm]
          apply ⟨by show 2<=D7; decide,fun b nb=>?_⟩;have s6:=aj.new (o:=HO.tup [V.int (x:Nat),V.int yy]) nb;have eb:=ag (H:=H5) (a:=b) (o:=HO.tup [V.int (x:Nat),V.int yy]);generalize upd H5 b (HO.tup [V.int (x:Nat),V.int yy])=H6 at s6 eb ⊢;have ga6:=ga5.mono s6;have s6:=s5.trans s6;clear ed ke kvs ga5 ga4;apply ⟨p,b,(((x:Nat):Int),yy),s,cs,rs,rfl,hc.mono s6,lc,lr,eb,hin,fun hz H7 s7=>?_,fun hz T l f zs M H7 s7 nT nl eT el td hq px=>?_⟩
          · apply ⟨rfl,?_⟩;rw [show (!decide (V.non=V.non))=false by simp];left;exact ⟨L,_,_,_,rfl,s6.trans s7,ga6.mono s7,so4,nxt L (fun q hq=>hq) fun h=>absurd hz h⟩
          · have ga7:=ga6.mono s7
            obtain ⟨ys,ef,pr⟩:=ga7.lst
            have nlf:l≠lf:=by
              intro z;obtain ⟨ys',ef',_⟩:=ga6.lst;rw [z,ef'] at nl; cases nl
            have s7:=s6.trans s7;have so7:=so4.add (e:=(f,M)) td hq hm;have hsub:∀ q∈cb L,q∈cb (L++[(f,M)]):=fun q hq=>by rw [dB]; exact Ea _ hq
            have hme:(((x:Nat):Int),yy)∈cb (L++[(f,M)]):=by rw [dB]; exact D6 _ hq
            apply ⟨rfl,?_⟩;rw [show (!decide (V.ref T=V.non))=true by simp];apply bP ef ?_;left;have ly:ys.length<=1681:=by rw [pr.1]; exact (so4.few lc lr).2
            refine aV ef (aR (by omega)) ?_;have pr8:=(pr.lst (o:=.lst (ys++[V.ref T])) ef).snoc (e:=(f,M)) (SeV.lst (o:=.lst (ys++[V.ref T])) ⟨T,l,zs,rfl,nlf,eT,el,px⟩ ef);have ef8:=ag (H:=H7) (a:=lf) (o:=.lst (ys++[V.ref T]));obtain ⟨kvs,ed,ke⟩:=ga7.dct;have ed8:upd H7 lf (.lst (ys++[V.ref T])) ds=some (.dT kvs):=(ai (aZ ed ef (by intro z; cases z))).trans ed;have s8:=s7.later (o:=.lst (ys++[V.ref T])) nf;have el8:upd H7 lf (.lst (ys++[V.ref T])) l=some (.lst zs):=(ai nlf).trans el;have px8:=px.upd (o:=.lst (ys++[V.ref T])) ef (by intro ys z; cases z);have eT8:upd H7 lf (.lst (ys++[V.ref T])) T=_:=(ai (aZ eT ef (by intro z; cases z))).trans eT;generalize upd H7 lf (.lst (ys++[V.ref T]))=H8 at pr8 ef8 ed8 s8 el8 px8 eT8 ⊢;clear ga7 ga6 ef ed el pr s7 s6 eT ea eb px;apply bH (SqT.of eT8) (v:=.ref l) rfl ?_;apply ⟨⟨_,SqL.of el8⟩,?_⟩;have nd8:(cb L++M).Nodup:=by have:=so7.nd; rwa [dB] at this
            have fw:=(so7.few lc lr).1;rw [dB,DZ] at fw;dsimp only at fw;refine cK (K:=K) (a:=l) (xs:=zs) (fun i σ' H'=>∃ (o6:Option V) (kvs:List (List Key×V)),σ'=[some (.ref p),some (.ref lf),some (.ref ds),some (.int (x:Nat)),some (.int yy),some (.ref T),o6]/\aj H H'/\H' lf=some (.lst (ys++[V.ref T]))/\PwS H' lf (ys++[V.ref T]) (L++[(f,M)]) /\
                H' l=some (.lst zs)/\aJ H' zs M/\H' ds=some (.dT kvs)/\bR kvs (cb L++M.take i))
              ⟨_,kvs,rfl,s8,ef8,pr8,el8,px8,ed8,by rw [Gm,E2]; exact ke⟩ (fun i σ' H' _ ⟨_,_,_,_,_,_,z,_⟩=>SqL.of z) ?_ ?_
            · rintro i v σ' H9 hv ⟨o6,kvs,rfl,s9,ef9,pr9,el9,px9,ed9,ke9⟩
              have hi:i<zs.length:=(Aw.mp hv).1;have hi':i<M.length:=by rw [<- px9.1]; exact hi
              obtain ⟨q,hq⟩:∃ q,M[i]?=some q:=⟨_,ξ hi'⟩
              obtain ⟨c,rfl,hc⟩:=px9.2 i v q hv hq;have ht:M.take (i+1)=M.take i++[q]:=by rw [Ft,hq]; rfl
              have nq:q∉cb L++M.take i:=by
                have h1:(cb L++M.take (i+1)).Nodup:=by
                  rw [Ey] at nd8 ⊢;refine ⟨nd8.1,nd8.2.1.sublist (FG _ _),fun a ha b hb=>nd8.2.2 a ha b (Fg hb)⟩
                rw [ht,<- EF,Ey] at h1;exact fun z=>h1.2.2 q z q (by simp) rfl
              apply ⟨ds,_,rfl,qw.t (k:=ky q) ed9 hc ?_,?_⟩
              · have:=ke9.len
                rw [DZ,FP] at this;exact aR (by omega)
              have ke10:=ke9.put (v:=.bl true) nq;rw [EF,<- ht] at ke10;exact ⟨_,_,rfl,s9.later (o:=.dT _) nds,(ai (aZ ef9 ed9 (by intro z; cases z))).trans ef9,pr9.dct ed9,(ai (aZ el9 ed9 (by intro z; cases z))).trans el9,px9.upd ed9 (by intro ys z; cases z),ag,ke10⟩
            · rintro σ' H9 ⟨o6,kvs,rfl,s9,ef9,pr9,el9,px9,ed9,ke9⟩
              rw [EN (by rw [px9.1]; exact Av _)] at ke9;exact ⟨L++[(f,M)],_,_,_,rfl,s9,⟨⟨_,ef9,pr9⟩,⟨kvs,ed9,by rw [dB]; exact ke9⟩⟩,so7,nxt _ hsub fun _=>hme⟩
      · rintro σ' H4 ⟨L,o4,o5,o6,rfl,s4,ga4,so4,cov4⟩
        refine ⟨L,_,_,_,_,rfl,s4,ga4,so4,fun q hq hn h=>cov4 q hq hn ?_⟩;have h2:=hq.2.2;by_cases hh:q.1<(x:Nat)
        · exact .inl hh
        · exact .inr ⟨by omega,by omega⟩
    · rintro σ' H3 ⟨L,o3,o4,o5,o6,rfl,s3,ga3,so3,cov3⟩
      obtain ⟨xs,ef,px⟩:=ga3.lst;apply uO ?_;left;have px':=px.mem;have hh:∀ v∈xs,∃ (T l b:Δ) (ys:List V),v=.ref T/\H3 T=some (.tup [.bl (eU H3 v).1,.ref l])/\H3 l=some (.lst (.ref b::ys))/\H3 b=some (.tup [.int (hd (eU H3 v)).1,.int (hd (eU H3 v)).2]):=fun v hv=>by
        obtain ⟨⟨T,l,ys,h1,_,h3,h4,h5⟩,h6⟩:=px' v hv;obtain ⟨a,b,m,ee,_⟩:=(so3.told _ h6).path;rw [ee] at h5;obtain ⟨v',r,e,hv',_⟩:=h5.inv;obtain ⟨c,rfl,hc⟩:=hv';refine ⟨T,l,c,r,h1,h3,by rw [<- e]; exact h4,?_⟩;unfold hd; rw [ee]; exact hc
      refine ⟨lf,xs,fun v=>hd (eU H3 v),rfl,SqL.of ef,fun v hv=>?_,fun v hv H4 Q1 s4 k1=>?_,fun l ys H4 s4 nl el pm pw=>?_⟩
      · obtain ⟨T,_,_,_,e,_⟩:=hh v hv
        exact ⟨T,e⟩
      · obtain ⟨T,l,b,ys,e,h1,h2,h3⟩:=hh v hv
        exact ⟨T,l,_,_,ys,by rw [e],s4 _ _ h1,s4 _ _ h2,k1 _ _ (aj.refl _) ⟨b,rfl,s4 _ _ h3⟩⟩
      · left
        have hm:∀ v∈ys,SeV H4 l v (eU H3 v):=fun v hv=>by
          obtain ⟨⟨T,l',ys',h1,h2,h3,h4,h5⟩,_⟩:=px' v (pm.mem_iff.mp hv);refine ⟨T,l',ys',h1,?_,s4 _ _ h3,s4 _ _ h4,h5.mono s4⟩;intro z; rw [z,nl] at h4; cases h4
        have pws:PwS H4 l ys (ys.map (eU H3)):=by
          have e:ys.map (eU H3)=ys.map (eU H4):=Ga fun v hv=>(hm v hv).of.symm;rw [e];exact xu fun v hv=>by rw [(hm v hv).of]; exact hm v hv
        have pL:(ys.map (eU H3)).Perm L:=by
          have:=pm.map (eU H3)
          rwa [px.map] at this
        refine k l ys _ H4 (s3.trans s4) (s3.free nl) el ⟨so3.perm pL,fun q hq hn=>?_,?_⟩ pws
        · exact (lX pL).mem_iff.mpr (cov3 q hq hn (by have:=hq.1.2; omega))
        · rw [Fd]
          exact pw
def Sm (z:Int):Prop:=-1000000000000000000<z/\z<1000000000000000000
theorem jE {zs:List Int} {z:Int} (h:∀ y∈zs,Sm y) (hz:Sm z):∀ y∈zs++[z],Sm y:=fun y hy=>by
 rcases EE.mp hy with q | q
 ·exact h y q
 ·rw [Ax.mp q]; exact hz
theorem rG (r:Int) {m:Int} (h0:0<m) (h1:m<=1000003):Sm (r%m):=by
 have:=GX r (by omega:m≠0)
 have:=Hh r h0
 unfold Sm; omega
def sp_aB (K:W.Frag):Sp:=fun vs H Q _=>∃ (a:Δ) (m:Nat) (ns:List Int),vs=[.ref a,.int m]/\SqL K H a (ns.map V.int)/\ns.length<=63/\m<=200 /\
 ∀ (l:Δ) (zs:List Int) (H':Hp),aj H H'->H' l=some (.lst (zs.map V.int))->m<=zs.length->zs.length<=300->(∀ z∈zs,Sm z)->Q (.ref l) H'
theorem fK (zs:List Int) (z:Int):zs.map V.int++[V.int z]=(zs++[z]).map V.int:=by simp
theorem ok_aB (T:Txt K mg t):aW P w K mg base CX0 1 t.f_aB t.d_aB ["_law_script","_law_many"] (sp_aB K):=by
 refine T.F_aB.ok sc_aB (by walk_at "l") (fun _ _ _ s H vs Q E hr h=>?_)
 ·obtain ⟨a,m,ns,rfl,hS,hl,hm,k⟩:=h;refine aN (aO 2 sc_aB.nd (cg ae)) fun _ _=>aN (aO 3 sc_aB.nd ah) fun _ _=>aN (bX En rfl (bz (pv 0)) (aw (i:=4) sc_aB.nd rfl (E_ rfl)) (aK (aO 3 sc_aB.nd (aE cf (aE bB (aE fM (pv 3) ah) (pv 4)) ah)) (aK (aO 5 sc_aB.nd (aq Bs rfl T.no_abs (by rfl) (aa (pv 4) ae))) (aK (bD (bU fL (pv 5) (aE BR ah ah)) (aK (bo (cV EM Ed Ec ba (pv 2) (aa (pv 4) ae))) (ao (aO 5 sc_aB.nd ah))) aM) (ao (km En (PW.pt (fN (bU wK (pv 5) ah) (fi (bU fL (aq (bu K rfl) rfl T.no_len (by rfl) (aa (pv 2) ae)) (pv 1))))) (aK (bo (cV EM Ed Ec ba (pv 2) (aa (aE cf (pv 5) ah) ae))) (ao (aO 5 sc_aB.nd (aE sS (pv 5) ah)))))))))) fun _ _=>aN (km En (bU fL (aq (bu K rfl) rfl T.no_len (by rfl) (aa (pv 2) ae)) (pv 1)) (aK (aO 3 sc_aB.nd (aE cf (aE bB (aE fM (pv 3) ah) ah) ah)) (ao (bo (cV EM Ed Ec ba (pv 2) (aa (aE cf (aE fM (pv 3) (pv 3)) ah) ae)))))) fun _ _=>dY (aD (pv 2)) fun _ _=>?_;apply ⟨El _,fun l hn=>?_⟩;left;have hz:∀ {zs:List Int},zs.length<=300->(zs.map V.int).length<sizeLine:=fun h=>by rw [Ξ]; exact cN (by omega)
  refine ⟨⟨_,(aj.new hn).seq hS⟩,cK (K:=K) (a:=a) (xs:=ns.map V.int) (fun i σ' H'=>∃ (zs:List Int) (mix:Int) (c r:Option V),σ'=[some (.ref a),some (.int m),some (.ref l),some (.int mix),c,r]/\aj H H'/\H' l=some (.lst (zs.map V.int))/\zs.length<=i+m/\∀ z∈zs,Sm z)
   ⟨[],1,none,none,rfl,aj.new hn,ag,El _,fun z hz=>by cases hz⟩ (fun i σ' H' _ ⟨_,_,_,_,_,s,_⟩=>s.seq hS) ?_ ?_⟩
  ·rintro i y σ' H' hi ⟨zs,mix,c,r,rfl,s1,e1,lz,sm⟩;have hil:i<ns.length:=by have:=(Aw.mp hi).1; rwa [Ξ] at this
   obtain ⟨z,rfl⟩:∃ z,y=V.int z:=by
    rw [EU] at hi
    cases e:ns[i]? with
    | none=>rw [e] at hi; cases hi
    | some z=>rw [e] at hi; exact ⟨z,(E4 hi).symm⟩
   apply cw (.inr ⟨by decide,by decide⟩) ?_;apply cw (by decide) ?_;apply cw ⟨by decide,by decide,by decide⟩ ?_;apply jV (fun hc=>?_) (fun _=>?_)
   ·have hc:=of_decide_eq_true hc
    have hcz:Sm z:=by
     unfold Sm;have e18:(10:Int) ^ 18=1000000000000000000:=by decide
     by_cases hz0:z<0
     ·rw [if_pos hz0] at hc; change -z<(10:Int) ^ 18 at hc; omega
     ·rw [if_neg hz0] at hc; change z<(10:Int) ^ 18 at hc; omega
    apply bP e1 ?_;apply aV e1 (hz (by omega)) ?_;rw [fK];apply ⟨fun n σ' H'=>∃ (zs:List Int) (mix:Int) (r:Int),σ'=[some (.ref a),some (.int m),some (.ref l),some (.int mix),some (.int z),some (.int r)]/\aj H H'/\H' l=some (.lst (zs.map V.int))/\zs.length<=i+1+m/\n=m - zs.length/\∀ z∈zs,Sm z,
     ⟨_,zs++[z],_,_,rfl,s1.later hn,ag,by rw [DZ,EO]; omega,rfl,jE sm hcz⟩,?_⟩
    rintro n σ' H' ⟨zs,mix,r,rfl,s1,e1,lz,rfl,sm⟩;apply jV (fun _=>?_) (fun _=>?_)
    ·apply bA e1 ?_;left;rw [Ξ];refine jV (fun h2=>?_) (fun h2=>?_)
     ·have h2:=of_decide_eq_true h2;refine ⟨fun σ' H'=>∃ (zs':List Int) (mix:Int) (r:Int),σ'=[some (.ref a),some (.int m),some (.ref l),some (.int mix),some (.int z),some (.int r)]/\aj H H'/\H' l=some (.lst (zs'.map V.int))/\zs'.length=zs.length+1/\∀ z∈zs',Sm z,?_,?_⟩
      ·rintro σ' H' ⟨zs',mix,r,rfl,s1,e1,lz',sm'⟩;exact ⟨m - zs'.length,by omega,zs',mix,r,rfl,s1,e1,by omega,rfl,sm'⟩
      ·apply bP e1 ?_;apply cw (by decide) ?_;apply aV e1 (hz (by omega)) ?_;rw [fK];apply cw ⟨by decide,by decide⟩ ?_;left;exact ⟨zs++[r%1000003],mix,_,rfl,s1.later hn,ag,by rw [DZ,EO],jE sm (rG r (by decide) (by decide))⟩
     ·left;exact ⟨zs,mix,_,_,rfl,s1,e1,lz,sm⟩
    ·left;exact ⟨zs,mix,_,_,rfl,s1,e1,lz,sm⟩
   ·apply ⟨fun n σ' H'=>∃ (zs:List Int) (mix:Int) (r:Int),σ'=[some (.ref a),some (.int m),some (.ref l),some (.int mix),some (.int z),some (.int r)]/\aj H H'/\H' l=some (.lst (zs.map V.int))/\zs.length<=i+1+m/\n=m - zs.length/\∀ z∈zs,Sm z,
     ⟨_,zs,_,_,rfl,s1,e1,by omega,rfl,sm⟩,?_⟩
    rintro n σ' H' ⟨zs,mix,r,rfl,s1,e1,lz,rfl,sm⟩;apply jV (fun _=>?_) (fun _=>?_)
    ·apply bA e1 ?_;left;rw [Ξ];refine jV (fun h2=>?_) (fun h2=>?_)
     ·have h2:=of_decide_eq_true h2;refine ⟨fun σ' H'=>∃ (zs':List Int) (mix:Int) (r:Int),σ'=[some (.ref a),some (.int m),some (.ref l),some (.int mix),some (.int z),some (.int r)]/\aj H H'/\H' l=some (.lst (zs'.map V.int))/\zs'.length=zs.length+1/\∀ z∈zs',Sm z,?_,?_⟩
      ·rintro σ' H' ⟨zs',mix,r,rfl,s1,e1,lz',sm'⟩;exact ⟨m - zs'.length,by omega,zs',mix,r,rfl,s1,e1,by omega,rfl,sm'⟩
      ·apply bP e1 ?_;apply cw (by decide) ?_;apply aV e1 (hz (by omega)) ?_;rw [fK];apply cw ⟨by decide,by decide⟩ ?_;left;exact ⟨zs++[r%1000003],mix,_,rfl,s1.later hn,ag,by rw [DZ,EO],jE sm (rG r (by decide) (by decide))⟩
     ·left;exact ⟨zs,mix,_,_,rfl,s1,e1,lz,sm⟩
    ·left;exact ⟨zs,mix,_,_,rfl,s1,e1,lz,sm⟩
  ·rintro σ' H' ⟨zs,mix,c,r,rfl,s1,e1,lz,sm⟩;rw [Ξ] at lz;apply ⟨fun n σ' H'=>∃ (zs:List Int) (mix:Int),σ'=[some (.ref a),some (.int m),some (.ref l),some (.int mix),c,r]/\(-(2 ^ 64)<mix/\mix<2 ^ 64\/True)/\aj H H'/\H' l=some (.lst (zs.map V.int))/\zs.length<=300/\n=m - zs.length/\∀ z∈zs,Sm z,
    ⟨_,zs,mix,rfl,.inr trivial,s1,e1,by omega,rfl,sm⟩,?_⟩
   rintro n σ' H' ⟨zs,mix,rfl,_,s1,e1,lz,rfl,sm⟩;apply bA e1 ?_;left;rw [Ξ];refine jV (fun h2=>?_) (fun h2=>?_)
   ·have h2:=of_decide_eq_true h2;refine ⟨fun σ' H'=>∃ (zs':List Int) (mix:Int),σ'=[some (.ref a),some (.int m),some (.ref l),some (.int mix),c,r]/\aj H H'/\H' l=some (.lst (zs'.map V.int))/\zs'.length=zs.length+1/\∀ z∈zs',Sm z,?_,?_⟩
    ·rintro σ' H' ⟨zs',mix,rfl,s1,e1,lz',sm'⟩;exact ⟨m - zs'.length,by omega,zs',mix,rfl,.inr trivial,s1,e1,by omega,rfl,sm'⟩
    ·apply cw (.inr ⟨by decide,by decide⟩) ?_;apply cw (by decide) ?_;apply bP e1 ?_;apply cw (.inl ⟨by omega,by omega⟩) ?_;apply cw (by decide) ?_;apply aV e1 (hz (by omega)) ?_;rw [fK];left;exact ⟨zs++[_],_,rfl,s1.later hn,ag,by rw [DZ,EO],jE sm (rG _ (by decide) (by decide))⟩
   ·have h2:¬ ((zs.length:Int)<m):=fun z=>h2 (bC z);left;exact k l zs H' s1 e1 (by omega) (by omega) sm
def sp_aP:Sp:=fun vs H Q _=>∃ (n:Int) (m:Nat),vs=[.int n,.int m]/\m<=100/\∀ (l:Δ) (bs:List Int) (H':Hp),aj H H'->H' l=some (.lst (bs.map V.int))->bs.length=m->(∀ z∈bs,z=0\/z=1)->Q (.ref l) H'
theorem jr {a b:Int} (ha:0<=a) (hb:0<b):a%b<=a:=by
 obtain ⟨m,rfl⟩:=Lw ha;obtain ⟨n,rfl⟩:=Lw (Int.le_of_lt hb);rw [<- Int.natCast_emod];exact Int.ofNat_le.mpr (Nat.mod_le _ _)
theorem CW (n:Int):n%2=0\/n%2=1:=by omega
theorem ok_aP (T:Txt K mg t):aW P w K mg base CX0 1 t.f_aP t.d_aP ["_law_number","_law_many"] sp_aP:=by
 refine T.F_aP.ok sc_aP (by walk_at "l") (fun _ _ _ s H vs Q E hr h=>?_)
 ·obtain ⟨n,m,rfl,hm,k⟩:=h;refine aN (aO 2 sc_aP.nd (cg ae)) fun _ _=>aN (bX En rfl (cC rfl T.no_ai (aa (pv 1) ae)) (aw (i:=3) sc_aP.nd rfl (E_ rfl)) (aK (bo (cV EM Ed Ec ba (pv 2) (aa (aE cf (pv 0) ah) ae))) (ao (aO 0 sc_aP.nd (aE sS (pv 0) ah))))) fun _ _=>dY (aD (pv 2)) fun _ _=>?_;apply ⟨El _,fun l hn=>?_⟩;apply ⟨m,rfl,by omega,by omega,?_⟩;rw [FQ];refine cu (fun i σ' H'=>∃ (n:Int) (bs:List Int) (c:Option V),σ'=[some (.int n),some (.int m),some (.ref l),c]/\aj H H'/\H' l=some (.lst (bs.map V.int))/\bs.length=i/\∀ z∈bs,z=0\/z=1)
   ⟨n,[],none,rfl,aj.new hn,ag,rfl,fun z hz=>by cases hz⟩ ?_ ?_
  ·rintro i σ' H' hi ⟨n,bs,c,rfl,s1,e1,lb,hb⟩;apply bP e1 ?_;apply cw (by decide) ?_;apply aV e1 (by rw [Ξ]; exact cN (by omega)) ?_;rw [fK];apply cw ⟨by decide,by decide⟩ ?_;apply ⟨_,bs++[n%2],_,rfl,s1.later hn,ag,by rw [DZ,EO]; omega,fun z hz=>?_⟩;rcases EE.mp hz with h | h
   ·exact hb z h
   ·rw [Ax.mp h]; exact CW n
  ·rintro σ' H' ⟨n,bs,c,rfl,s1,e1,lb,hb⟩;left;exact k l bs H' s1 e1 lb hb
def sp_aV:Sp:=fun vs H Q _=>∃ (a:Δ) (m:Nat) (zs:List Int),vs=[.ref a,.int m]/\H a=some (.lst (zs.map V.int))/\4<=zs.length/\m<=100/\∀ (l:Δ) (bs:List Int) (H':Hp),aj H H'->H' l=some (.lst (bs.map V.int))->bs.length=m->(∀ z∈bs,z=0\/z=1)->Q (.ref l) H'
theorem ok_aV (T:Txt K mg t):aW P w K mg base CX0 2 t.f_aV t.d_aV ["_law_some","_law_many"] sp_aV:=by
 refine T.F_aV.ok sc_aV (by walk_at "l") (fun _ _ _ s H vs Q E hr h=>?_)
 ·obtain ⟨a,m,zs,rfl,ha,hl,hm,k⟩:=h;refine aN (aO 2 sc_aV.nd (aE bB (aE bB (aF (aA K rfl) (pv 0) ah) (aE fM ah (aF (aA K rfl) (pv 0) ah))) (aE fM (aE fM ah ah) (aF (aA K rfl) (pv 0) ah)))) fun _ _=>aN (bD (bU et (aE cf (aF (aA K rfl) (pv 0) ah) ah) ah) (ao (aO 2 sc_aV.nd (fy dw (aE cf (aF (aA K rfl) (pv 0) ah) ah)))) aM) fun _ _=>aN (fg (i:=3) sc_aV.nd rfl (I_ rfl) (au (ok_aP T) (rmo hr) rfl T.mg_aP T.F_aP.kp T.b_aP .nil aS (aa (pv 2) (aa (pv 1) ae)))) fun _ _=>aN (bD (bU et (aE cf (aF (aA K rfl) (pv 0) ah) ah) ah) (ao (fg (i:=3) sc_aV.nd rfl (I_ rfl) (bK (N:=["_law_k","_law_row_here","_law_some"]) (cap:=[none,some 3,some 0]) rfl ⟨rfl,rfl,rfl,rfl,rfl,rfl⟩ (cC rfl T.no_ai (aa (pv 1) ae)) (fun _ _ _=>(aw (i:=0) (show (["_law_k","_law_row_here","_law_some"]:List Str).Nodup by decide +kernel) rfl (E_ rfl))) (fun _ _ _=>bL) (fun _ _ _=>(aF (aA K rfl) (pv 1) (aE cf (pv 0) (aE bB ah (aE cf (aF (aA K rfl) (pv 2) ah) ah)))))))) aM) fun _ _=>dY (aD (pv 3)) fun _ _=>?_;have I0:atI (zs.map V.int) 0=_:=bG (by decide) (by omega);have I1:atI (zs.map V.int) 1=_:=bG (by decide) (by omega);have I2:atI (zs.map V.int) 2=_:=bG (by decide) (by omega);have I3:atI (zs.map V.int) 3=_:=bG (by decide) (by omega);generalize zs.getD (0:Int).toNat 0=z0 at I0;generalize zs.getD (1:Int).toNat 0=z1 at I1;generalize zs.getD (2:Int).toNat 0=z2 at I2;generalize zs.getD (3:Int).toNat 0=z3 at I3
  -- behind the raw number: the bits,and the pattern
  apply aH (SqL.of ha) I0 ?_;apply aH (SqL.of ha) I1 ?_;apply cw (.inl ⟨by decide,by decide⟩) ?_;apply cw (.inl ⟨by decide,by decide⟩) ?_;apply aH (SqL.of ha) I2 ?_;apply cw (.inl ⟨by decide,by decide⟩) ?_;apply aH (SqL.of ha) I3 ?_;apply cw (by decide) ?_;apply jV (fun _=>?_) (fun _=>?_)
  ·apply aH (SqL.of ha) I0 ?_;apply cw (by decide) ?_;apply ⟨_,m,rfl,hm,fun l bs H1 s1 e1 lb hb=>?_⟩;apply aH (SqL.of (s1 _ _ ha)) I3 ?_;apply cw (by decide) ?_;apply jV (fun _=>?_) (fun _=>?_)
   ·apply ⟨m,rfl,by omega,by omega,fun l2 hn=>?_⟩;rw [FQ];refine fG (fun i=>.int (bs.getD (((0:Int)+(i:Nat))%(1+z1%4)).toNat 0)) (by omega) hn (fun i o H' Q' hi s2 q=>?_) (fun H' s2 e2=>?_)
    ·apply aH (SqL.of (s2 _ _ (s1 _ _ ha))) I1 ?_;apply cw (by decide) ?_;left;have p1:0<1+z1%4:=by omega
     refine cw p1 ?_;left;have q0:=GX ((0:Int)+(i:Nat)) (by omega:1+z1%4≠0);have q1:((0:Int)+(i:Nat))%(1+z1%4)<=(0:Int)+(i:Nat):=jr (by omega) (by omega);refine aH (SqL.of (s2 _ _ e1)) (bG q0 (by omega)) ?_;exact q H' (aj.refl _)
    ·apply k l2 ((ED m).map fun i=>bs.getD (((0:Int)+(i:Nat))%(1+z1%4)).toNat 0) H' (s1.trans s2) (by rw [e2,Ez]; rfl) (by rw [Ξ,Eo]) fun z hz=>?_;obtain ⟨i,hi,rfl⟩:=EJ.mp hz;have hi:=Et.mp hi;have q0:=GX ((0:Int)+(i:Nat)) (by omega:1+z1%4≠0);have q1:((0:Int)+(i:Nat))%(1+z1%4)<=(0:Int)+(i:Nat):=jr (by omega) (by omega);exact hb _ (L2.getD_mem (by omega))
   ·left;exact k l bs H1 s1 e1 lb hb
  ·apply ⟨_,m,rfl,hm,fun l bs H1 s1 e1 lb hb=>?_⟩;apply aH (SqL.of (s1 _ _ ha)) I3 ?_;apply cw (by decide) ?_;apply jV (fun _=>?_) (fun _=>?_)
   ·apply ⟨m,rfl,by omega,by omega,fun l2 hn=>?_⟩;rw [FQ];refine fG (fun i=>.int (bs.getD (((0:Int)+(i:Nat))%(1+z1%4)).toNat 0)) (by omega) hn (fun i o H' Q' hi s2 q=>?_) (fun H' s2 e2=>?_)
    ·apply aH (SqL.of (s2 _ _ (s1 _ _ ha))) I1 ?_;apply cw (by decide) ?_;left;have p1:0<1+z1%4:=by omega
     refine cw p1 ?_;left;have q0:=GX ((0:Int)+(i:Nat)) (by omega:1+z1%4≠0);have q1:((0:Int)+(i:Nat))%(1+z1%4)<=(0:Int)+(i:Nat):=jr (by omega) (by omega);refine aH (SqL.of (s2 _ _ e1)) (bG q0 (by omega)) ?_;exact q H' (aj.refl _)
    ·apply k l2 ((ED m).map fun i=>bs.getD (((0:Int)+(i:Nat))%(1+z1%4)).toNat 0) H' (s1.trans s2) (by rw [e2,Ez]; rfl) (by rw [Ξ,Eo]) fun z hz=>?_;obtain ⟨i,hi,rfl⟩:=EJ.mp hz;have hi:=Et.mp hi;have q0:=GX ((0:Int)+(i:Nat)) (by omega:1+z1%4≠0);have q1:((0:Int)+(i:Nat))%(1+z1%4)<=(0:Int)+(i:Nat):=jr (by omega) (by omega);exact hb _ (L2.getD_mem (by omega))
   ·left;exact k l bs H1 s1 e1 lb hb
structure jK (tupl:Bool) (H:Hp) (p:Δ) (s:Int) (cs rs:List Int):Prop where
 ob:∃ c r,H p=some (if tupl then .tup [.int s,.ref c,.ref r] else .lst [.int s,.ref c,.ref r])/\H c=some (.lst (cs.map V.int))/\H r=some (.lst (rs.map V.int))
 sh:s=0\/s=1
 bc:kW cs
 br:kW rs
theorem jK.mono {b:Bool} {H H':Hp} {p:Δ} {s:Int} {cs rs:List Int} (e:aj H H') (c:jK b H p s cs rs):jK b H' p s cs rs:=by
 obtain ⟨⟨a,b,h1,h2,h3⟩,x,y,z⟩:=c;exact ⟨⟨a,b,e _ _ h1,e _ _ h2,e _ _ h3⟩,x,y,z⟩
def sp_aT:Sp:=fun vs H Q _=>∃ (a:Δ) (zs:List Int),vs=[.ref a]/\H a=some (.lst (zs.map V.int))/\12<=zs.length/\∀ p s cs rs H',aj H H'->jK true H' p s cs rs->Q (.ref p) H'
theorem xk (i:Int):0<([9,9,16,40,6]:List Int).getD (i%5).toNat 0/\([9,9,16,40,6]:List Int).getD (i%5).toNat 0<=40:=by
 have h:=L2.getD_mem (zs:=([9,9,16,40,6]:List Int)) (k:=(i%5).toNat) (d:=0) (by simp; omega);symm at h;rcases h with h | h | h | h | h<;>rw [h]<;>decide
theorem xl (i:Int):0<([9,16,16,6,40]:List Int).getD (i%5).toNat 0/\([9,16,16,6,40]:List Int).getD (i%5).toNat 0<=40:=by
 have h:=L2.getD_mem (zs:=([9,16,16,6,40]:List Int)) (k:=(i%5).toNat) (d:=0) (by simp; omega);symm at h;rcases h with h | h | h | h | h<;>rw [h]<;>decide
theorem ok_aT (T:Txt K mg t):aW P w K mg base CX0 3 t.f_aT t.d_aT ["_law_some"] sp_aT:=by
 refine T.F_aT.ok sc_aT (by walk_at "l") (fun _ _ _ s H vs Q E hr h=>?_)
 ·obtain ⟨a,zs,rfl,ha,hl,k⟩:=h;refine aN (aO 1 sc_aT.nd (aE bB ah (aE cf (aF (aA K rfl) (pv 0) ah) (aF (aA K rfl) (cg (aa ah (aa ah (aa ah (aa ah (aa ah ae)))))) (aE cf (aF (aA K rfl) (pv 0) ah) ah))))) fun _ _=>aN (aO 2 sc_aT.nd (aE bB ah (aE cf (aF (aA K rfl) (pv 0) ah) (aF (aA K rfl) (cg (aa ah (aa ah (aa ah (aa ah (aa ah ae)))))) (aE cf (aF (aA K rfl) (pv 0) ah) ah))))) fun _ _=>dY (aD (bN (aa (aE cf (aF (aA K rfl) (pv 0) ah) ah) (aa (au (ok_aV T) (rmo hr) rfl T.mg_aV T.F_aV.kp T.b_aV .nil aS (aa (pU (qi K rfl) (pv 0) (sW ah) sV) (aa (aE dk (pv 1) ah) ae))) (aa (au (ok_aV T) (rmo hr) rfl T.mg_aV T.F_aV.kp T.b_aV .nil aS (aa (pU (qi K rfl) (pv 0) (sW ah) sV) (aa (aE dk (pv 2) ah) ae))) ae))))) fun _ _=>?_;have I0:atI (zs.map V.int) 0=_:=bG (by decide) (by omega);have I1:atI (zs.map V.int) 1=_:=bG (by decide) (by omega);have I2:atI (zs.map V.int) 2=_:=bG (by decide) (by omega);have I3:atI (zs.map V.int) 3=_:=bG (by decide) (by omega);generalize zs.getD (0:Int).toNat 0=z0 at I0;generalize zs.getD (1:Int).toNat 0=z1 at I1;generalize zs.getD (2:Int).toNat 0=z2 at I2;generalize zs.getD (3:Int).toNat 0=z3 at I3;have m0:0<=z0%5:=by omega
  have m5:z0%5<5:=by omega
  apply aH (SqL.of ha) I1 ?_;apply ⟨by show 5<=D7; decide,fun l1 n1=>?_⟩;have s1:=aj.new (o:=HO.lst (([9,9,16,40,6]:List Int).map V.int)) n1;apply aH (SqL.of (s1 _ _ ha)) I0 ?_;apply cw (by decide) ?_;apply aH (SqL.of (xs:=([9,9,16,40,6]:List Int).map V.int) ag) (bG m0 m5) ?_;apply cw (xk z0).1 ?_;apply aH (SqL.of (s1 _ _ ha)) I2 ?_;apply ⟨by show 5<=D7; decide,fun l2 n2=>?_⟩;have s2:=aj.new (o:=HO.lst (([9,16,16,6,40]:List Int).map V.int)) n2;apply aH (SqL.of (s2 _ _ (s1 _ _ ha))) I0 ?_;apply cw (by decide) ?_;apply aH (SqL.of (xs:=([9,16,16,6,40]:List Int).map V.int) ag) (bG m0 m5) ?_;apply cw (xl z0).1 ?_;left;have ha2:=s2 _ _ (s1 _ _ ha);refine aH (SqL.of ha2) I3 ?_;apply cw (by decide) ?_;left;have va:=xk z0;have vb:=xl z0;generalize ([9,9,16,40,6]:List Int).getD (z0%5).toNat 0=va' at va ⊢;generalize ([9,16,16,6,40]:List Int).getD (z0%5).toNat 0=vb' at vb ⊢;have wa0:=GX z1 (by omega:va'≠0);have wa1:=Hh z1 va.1;have wb0:=GX z2 (by omega:vb'≠0);have wb1:=Hh z2 vb.1;refine xX ha2 fun l3 n3=>?_;have s3:=aj.new (o:=HO.lst (mV (zs.map V.int) (some 4) none)) n3;apply ⟨l3,(z1%va').toNat,zs.drop 4,(by show [V.ref l3,V.int (1+z1%va' - 1)]=_; rw [show (1+z1%va' - 1:Int)=(((z1%va').toNat:Nat):Int) by omega]),by rw [ag]; exact congrArg (fun x=>some (HO.lst x)) (lS (k:=4)),by rw [GH]; omega,by omega,fun c cs H1 s4 ec lc bc=>?_⟩;left;have ha4:=s4 _ _ (s3 _ _ ha2);refine xX ha4 fun l5 n5=>?_;have s5:=aj.new (o:=HO.lst (mV (zs.map V.int) (some 8) none)) n5;apply ⟨l5,(z2%vb').toNat,zs.drop 8,(by show [V.ref l5,V.int (1+z2%vb' - 1)]=_; rw [show (1+z2%vb' - 1:Int)=(((z2%vb').toNat:Nat):Int) by omega]),by rw [ag]; exact congrArg (fun x=>some (HO.lst x)) (lS (k:=8)),by rw [GH]; omega,by omega,fun r rs H2 s6 er lr br=>?_⟩;apply ⟨by show 3<=D7; decide,fun p hp=>?_⟩;have s7:=aj.new (o:=HO.tup [V.int (z3%2),V.ref c,V.ref r]) hp;exact k p (z3%2) cs rs _ (s1.trans (s2.trans (s3.trans (s4.trans (s5.trans (s6.trans s7)))))) ⟨⟨c,r,ag,s7 _ _ (s6 _ _ (s5 _ _ ec)),s7 _ _ er⟩,CW z3,⟨by omega,bc⟩,⟨by omega,br⟩⟩
def sp_aU (C:Δ):Sp:=fun vs H Q _=>∃ (p:Δ) (b:Bool) (s:Int) (cs rs:List Int),vs=[.ref p]/\jK b H p s cs rs/\∀ x H',aj H H'->aP C H' x s cs rs->Q (.ref x) H'
theorem ok_aU (T:Txt K mg t):aW P w K mg base CX0 8 t.f_aU t.d_aU ["_law_plan_here"] (sp_aU t.a_af):=by
 refine T.F_aU.ok sc_aU (by walk_at "l") (fun _ _ _ s H vs Q E hr h=>?_)
 ·obtain ⟨p,b,s,cs,rs,rfl,pl,k⟩:=h;obtain ⟨⟨c,r,hp,hc,hr'⟩,sh,bc,br⟩:=id pl;refine ⟨_,(ao (aD (zF T.mk_af (ok_ak T) (rmo hr) rfl T.mg_af T.b_ak .nil aS (aa (aF (mZ K rfl) (pv 0) ah) (aa (eQ (oO K rfl) rfl T.no_list (by rfl) (aa (aF (mZ K rfl) (pv 0) ah) ae)) (aa (eQ (oO K rfl) rfl T.no_list (by rfl) (aa (aF (mZ K rfl) (pv 0) ah) ae)) ae)))))),?_⟩;have ix:∀ {H':Hp} {i:Int} {v:V} {Q:VK},aj H H'->atI [V.int s,V.ref c,V.ref r] i=some v->Q v H'->rIx K (.ref p) (.int i) H' Q:=fun {H' i v Q} s1 e q=>by
   cases b
   ·exact z6 (SqL.of (s1 _ _ hp)) e q
   ·exact z7 (SqT.of (s1 _ _ hp)) e q
  apply ix (aj.refl _) rfl ?_;apply ix (aj.refl _) rfl ?_;apply p5 hc fun l1 n1=>?_;have s1:=aj.new (o:=HO.lst (cs.map V.int)) n1;apply ix s1 rfl ?_;apply p5 (s1 _ _ hr') fun l2 n2=>?_;have s2:=aj.new (o:=HO.lst (rs.map V.int)) n2;left;intro x dx nx ndx nex;have s12:=s1.trans s2;have h1:upd (upd H l1 (.lst (cs.map V.int))) l2 (.lst (rs.map V.int)) l1=some (.lst (cs.map V.int)):=s2 _ _ ag;have h2:upd (upd H l1 (.lst (cs.map V.int))) l2 (.lst (rs.map V.int)) l2=some (.lst (rs.map V.int)):=ag;generalize upd (upd H l1 (.lst (cs.map V.int))) l2 (.lst (rs.map V.int))=H3 at h1 h2 s12 nx ndx ⊢;have s3:aj H3 (upd (upd H3 dx (.own x)) x (.ins t.a_af dx [])):=(aj.new ndx).later nx;refine ⟨x,dx,l1,l2,s,cs,rs,rfl,ag,s3 _ _ h1,s3 _ _ h2,sh,bc,br,fun H4 kp hC=>⟨rfl,?_⟩⟩;exact k x H4 (fun b o e=>kp b o (s3 b o (s12 b o e)) (aC (s12 b o e) nx)) hC
def DH (d:Gp):Prop:=∃ i,d=.int i
def OkS (S:Gp->Prop) (d:Gp):Prop:=DH d\/∃ ds,d=.list ds/\ds.length<=1000/\∀ e∈ds,S e
def oq (S:Gp->Prop):Sp:=fun vs H Q _=>∃ (x y:V) (d:Gp),vs=[x,y]/\S d/\Rep H d x/\Rep H d y/\∀ H',aj H H'->Q (.bl true) H'
theorem mC {S:Gp->Prop} {n:Nat} (T:Txt K mg t) (G_aE:aW P w K mg base CX0 n t.f_aE t.d_aE ["_law_told","_law_due_here"] (oq S)):aW P w K mg base CX0 (n+1) t.f_aE t.d_aE ["_law_told","_law_due_here"] (oq (OkS S)):=by
 refine T.F_aE.ok sc_aE (by walk_at "l") (fun _ _ _ s H vs Q E hr h=>?_)
 ·obtain ⟨x,y,d,rfl,ok,rx,ry,k⟩:=h;refine aN (bD (PW.pt (sY (bU mj (aq (bg K rfl) rfl T.no_aL (by rfl) (aa (pv 0) (aa (bW (v:=.ty "bool") rfl T.no_bool (by rfl:FA "bool"=some (.type "bool")) rfl) ae))) (aq (bg K rfl) rfl T.no_aL (by rfl) (aa (pv 1) (aa (bW (v:=.ty "bool") rfl T.no_bool (by rfl:FA "bool"=some (.type "bool")) rfl) ae)))) (nF (bU mj (aq (bg K rfl) rfl T.no_aL (by rfl) (aa (pv 0) (aa (bW (v:=.ty "int") rfl T.no_int (by rfl:FA "int"=some (.type "int")) rfl) ae))) (aq (bg K rfl) rfl T.no_aL (by rfl) (aa (pv 1) (aa (bW (v:=.ty "int") rfl T.no_int (by rfl:FA "int"=some (.type "int")) rfl) ae))))))) (ao (aD eu)) aM) fun _ _=>aN (bD (PW.pt (sY (bU mj (aq (bg K rfl) rfl T.no_aL (by rfl) (aa (pv 0) (aa (bW (v:=.ty "list") rfl T.no_list (by rfl:FA "list"=some (.type "list")) rfl) ae))) (aq (bg K rfl) rfl T.no_aL (by rfl) (aa (pv 1) (aa (bW (v:=.ty "list") rfl T.no_list (by rfl:FA "list"=some (.type "list")) rfl) ae)))) (nF (bU mj (aq (bg K rfl) rfl T.no_aL (by rfl) (aa (pv 0) (aa (bW (v:=.ty "tuple") rfl T.no_aZ (by rfl:FA "tuple"=some (.type "tuple")) rfl) ae))) (aq (bg K rfl) rfl T.no_aL (by rfl) (aa (pv 1) (aa (bW (v:=.ty "tuple") rfl T.no_aZ (by rfl:FA "tuple"=some (.type "tuple")) rfl) ae))))))) (ao (aD eu)) aM) fun _ _=>aN (bD (PW.pt (fN (cY (bO (aq (bg K rfl) rfl T.no_aL (by rfl) (aa (pv 1) (aa (bW (v:=.ty "list") rfl T.no_list (by rfl:FA "list"=some (.type "list")) rfl) ae))))) (fi (cY (bO (aq (bg K rfl) rfl T.no_aL (by rfl) (aa (pv 1) (aa (bW (v:=.ty "tuple") rfl T.no_aZ (by rfl:FA "tuple"=some (.type "tuple")) rfl) ae)))))))) (ao (aD (j9 (ka et (aq (bg K rfl) rfl T.no_aL (by rfl) (aa (pv 0) (aa (bW (v:=.ty "str") rfl T.no_str (by rfl:FA "str"=some (.type "str")) rfl) ae))) (aq (bg K rfl) rfl T.no_aL (by rfl) (aa (pv 1) (aa (bW (v:=.ty "str") rfl T.no_str (by rfl:FA "str"=some (.type "str")) rfl) ae)))) (ki (ka (BP hr.units) (pv 0) (pv 1)))))) aM) fun _ _=>dY (aD (j9 (ka et (aq (bu K rfl) rfl T.no_len (by rfl) (aa (pv 0) ae)) (aq (bu K rfl) rfl T.no_len (by rfl) (aa (pv 1) ae))) (ki (aq (mO K rfl rfl) rfl T.no_all (by rfl) (aa (bK (N:=["_law_one","_law_other"]) (cap:=[none,none]) rfl ⟨rfl,rfl,rfl,rfl,rfl,rfl⟩ (B1 rfl T.no_zip (aa (pv 0) (aa (pv 1) ae))) (fun _ _ _=>(cG (n:=2) K rfl rfl (aU (aw (i:=0) (show (["_law_one","_law_other"]:List Str).Nodup by decide +kernel) rfl (E_ rfl)) (aU (aw (i:=1) (show (["_law_one","_law_other"]:List Str).Nodup by decide +kernel) rfl (E_ rfl)) cH)))) (fun _ _ _=>bL) (fun _ _ _=>(au G_aE (rmo hr) rfl T.mg_aE T.F_aE.kp T.b_aE .nil aS (aa (pv 0) (aa (pv 1) ae))))) ae))))) fun _ _=>?_;apply cS rx.ty (pF d) ?_;apply cS ry.ty (pF d) ?_;left;rw [bC rfl];apply cS rx.ty (sO d) ?_;apply cS ry.ty (sO d) ?_;left;rw [bC rfl];apply cS rx.ty (jZ d) ?_;apply cS ry.ty (jZ d) ?_;left;rw [bC rfl];apply cS rx.ty (iV d) ?_;apply cS ry.ty (iV d) ?_;left;rw [bC rfl];apply cS ry.ty (jZ d) ?_;left;rcases ok with sc | ⟨ds,rfl,hl,hS⟩
  ·have e1:isD "list" d=false:=by obtain ⟨i,rfl⟩:=sc; simp [isD]
   have e2:isD "tuple" d=false:=by obtain ⟨i,rfl⟩:=sc; simp [isD]
   rw [e1];apply cS ry.ty (iV d) ?_;rw [e2];apply cS rx.ty (sP d) ?_;apply cS ry.ty (sP d) ?_;left;rw [bC rfl];left;have sd:Ig d=true:=by obtain ⟨i,rfl⟩:=sc; rfl
   refine ⟨d,d,rx,ry,sd,sd,?_⟩;have e3:Gv d d=true:=by obtain ⟨i,rfl⟩:=sc; simp [Gv]
   rw [e3];exact k _ (aj.refl _)
  ·have e1:isD "list" (.list ds)=true:=by simp [isD]
   rw [e1];simp only [Rep] at rx ry;obtain ⟨a,xs,rfl,ha,ra⟩:=rx;obtain ⟨b,ys,rfl,hb,rb⟩:=ry;obtain ⟨l1,g1⟩:=ku ra;obtain ⟨l2,g2⟩:=ku rb;apply bA ha ?_;apply bA hb ?_;left;rw [bC (by omega:(xs.length:Int)=ys.length)];left;unfold CS;apply ⟨a,b,rfl,⟨_,SqL.of ha⟩,⟨_,SqL.of hb⟩,fun l hn=>?_⟩;refine tY (fun _=>.bl true) ha hb (by omega) (by omega) hn (fun i x y H' Q' ex ey s1 q=>?_) (fun H' s1 e=>?_)
   ·left;obtain ⟨d,hd,rd⟩:=g1 i x ex;obtain ⟨d',hd',rd'⟩:=g2 i y ey;rw [hd] at hd'
    cases hd';exact ⟨x,y,d,rfl,hS d (EW hd),rd.mono s1,rd'.mono s1,q⟩
   ·left;have e':H' l=some (.lst (((ED xs.length).map fun _=>true).map V.bl)):=by rw [e,Ez]; rfl
    refine ri e' ?_;have e4:((ED xs.length).map fun _=>true).all id=true:=by simp
    rw [e4];exact k H' s1
def Ok3:Gp->Prop:=OkS (OkS fun _=>False)
theorem ok_aE (T:Txt K mg t):aW P w K mg base CX0 2 t.f_aE t.d_aE ["_law_told","_law_due_here"] (oq Ok3) :=
 mC T (mC T ⟨fun vs H Q E h=>(by obtain ⟨_,_,_,_,h,_⟩:=h; exact h.elim),fun A outer s H args us vs Q E _ _ _ _ h=>(by obtain ⟨_,_,_,_,h,_⟩:=h; exact h.elim)⟩)
theorem j4 {S:Gp->Prop} {ns:List Int} (h:ns.length<=1000):OkS (OkS S) (.list (ns.map IB)) :=
 .inr ⟨_,rfl,by rw [Ξ]; exact h,fun e he=>by obtain ⟨i,_,rfl⟩:=EJ.mp he; exact .inl ⟨i,rfl⟩⟩
theorem wa {L:List Sm1} {e:Sm1} (h:e∈L):e.2.length<=(cb L).length:=by
 induction L with
 | nil=>cases h
 | cons a L ih =>
  unfold cb at ih ⊢;rw [Hu,DZ];rcases B_.mp h with z | z
  ·rw [z]; omega
  ·have:=ih z; omega
def LnV (H:Hp) (v:V) (M:List (Int×Int)):Prop:=∃ l zs,v=.ref l/\H l=some (.lst zs)/\aJ H zs M
def gD (H:Hp) (xs:List V) (Ms:List (List (Int×Int))):Prop:=xs.length=Ms.length/\∀ (i:Nat) v M,xs[i]?=some v->Ms[i]?=some M->LnV H v M
theorem gD.mono {H H':Hp} {xs:List V} {Ms:List (List (Int×Int))} (s:aj H H') (h:gD H xs Ms):gD H' xs Ms:=⟨h.1,fun i v M h1 h2=>by
 obtain ⟨l,zs,e,h3,h4⟩:=h.2 i v M h1 h2;exact ⟨l,zs,e,s _ _ h3,h4.mono s⟩⟩
theorem gD.nil {H:Hp}:gD H [] []:=⟨rfl,fun i v M h=>by simp at h⟩
theorem gD.cons {H:Hp} {v:V} {M:List (Int×Int)} {xs:List V} {Ms:List (List (Int×Int))} (h1:LnV H v M) (h:gD H xs Ms):gD H (v::xs) (M::Ms):=by
 refine ⟨by rw [C_,C_,h.1],fun i v' q' e1 e2=>?_⟩
 cases i with
 | zero=>simp only [E3,FN] at e1 e2; rw [<- e1,<- e2]; exact h1
 | succ i=>simp only [FL] at e1 e2; exact h.2 i v' q' e1 e2
noncomputable def wc (H:Hp):V->V
 | .ref T=>match H T with
  | some (.tup [_, x]) => x
  | _ => .non
 | _=>.non
noncomputable def Rs (L:List Sm1):List (List (Int×Int)):=(L.filter (·.1)).map (·.2)
theorem qA {L:List Sm1} {M:List (Int×Int)}:M∈Rs L↔(true,M)∈L:=by
 unfold Rs;rw [EJ];constructor
 ·rintro ⟨e,he,rfl⟩;rw [E7] at he;have:e=(true,e.2):=GY he.2 rfl
  rw [<- this]; exact he.1
 ·exact fun h=>⟨_,E7.mpr ⟨h,rfl⟩,rfl⟩
theorem my {H H':Hp} {lf:Δ} (s:aj H H'):∀ {xs:List V} {L:List Sm1},PwS H lf xs L->gD H' ((xs.filter fun v=>(eU H v).1).map (wc H)) (Rs L)
 | [],[],_=>gD.nil
 | [],_::_,h=>by have:=h.1; simp at this
 | _::_,[],h=>by have:=h.1; simp at this
 | v::xs,e::L,h=>by
  have ih:=my s (xs:=xs) (L:=L) ⟨by have:=h.1; simpa using this,fun i v e h1 h2=>h.2 (i+1) v e (by simpa using h1) (by simpa using h2)⟩;have hv:=h.2 0 v e rfl rfl;unfold Rs at ih ⊢;rw [Em,Em,hv.of];by_cases c:e.1=true
  ·rw [if_pos c,if_pos c,EL,EL];obtain ⟨T1,l,ys,rfl,_,eT,el,py⟩:=hv;exact gD.cons ⟨l,ys,by simp only [wc,eT],s _ _ el,py.mono s⟩ ih
  ·rw [if_neg c,if_neg c]; exact ih
def sp_at (C:Δ):Sp:=fun vs H Q _=>∃ (p:Δ) (s:Int) (cs rs:List Int),vs=[.ref p]/\aP C H p s cs rs/\cs.length<=39/\rs.length<=39 /\
 ∀ l ys L H',aj H H'->H l=none->H' l=some (.lst ys)->mI cs rs L->gD H' ys (Rs L)->Q (.ref l) H'
theorem ok_at (T:Txt K mg t):aW P w K mg base CX0 11 t.f_at t.d_at ["cloth"] (sp_at t.a_af):=by
 refine T.F_at.ok sc_at (by walk_at "l") (fun _ _ _ s H vs Q E hr h=>?_)
 ·obtain ⟨p,s,cs,rs,rfl,hc,lc,lr,k⟩:=h;refine ⟨_,(ao (aD (bK (N:=["told"]) (cap:=[none]) rfl ⟨rfl,rfl,rfl,rfl,rfl,rfl⟩ (bz (au (ok_aK T) (rmo hr) rfl T.mg_aK T.F_aK.kp T.b_aK .nil aS (aa (pv 0) ae))) (fun _ _ _=>(aw (i:=0) (show (["told"]:List Str).Nodup by decide +kernel) rfl (E_ rfl))) (fun _ _ _=>(nE (bO (aF (bw K rfl) (pv 0) ah)))) (fun _ _ _=>(aF (bw K rfl) (pv 0) ah))))),?_⟩;apply ⟨p,s,cs,rs,rfl,hc,lc,lr,fun lf xs L H1 s1 nf ef al px=>?_⟩;have fw:=al.some.few lc lr;apply ⟨⟨_,SqL.of ef⟩,fun lw nw=>?_⟩;refine jO (wc H1) (fun v=>(eU H1 v).1) (SqL.of ef) (by rw [px.1]; omega) nw (fun x o H5 Q' hx s5 q=>?_) (fun x o H5 Q' hx _ s5 q=>?_) (fun H5 s5 e5=>?_)
  ·obtain ⟨⟨T1,l,ys,rfl,_,eT,el,py⟩,_⟩:=px.mem x hx;apply bH (SqT.of (s5 _ _ eT)) (v:=.bl (eU H1 (.ref T1)).1) rfl ?_;left;exact q H5 (aj.refl _)
  ·obtain ⟨⟨T1,l,ys,rfl,_,eT,el,py⟩,_⟩:=px.mem x hx;apply bH (SqT.of (s5 _ _ eT)) (v:=.ref l) rfl ?_;left;have e:wc H1 (.ref T1)=.ref l:=by simp only [wc,eT]
   rw [e] at q;exact q H5 (aj.refl _)
  ·left;exact k lw _ L H5 (s1.trans s5) (s1.free nw) e5 al (my s5 px)
theorem kQ {cs rs:List Int} {M:List (Int×Int)} (h:Sm.cJ (nb cs rs) true M):Wn.Cyc M:=by
 refine ⟨h.nd,?_,fun k hk=>?_⟩
 ·obtain ⟨a,b,l,rfl,o,_⟩:=h.rd rfl
  cases l with
  | nil =>
   have hm:a∈Sm.oth (nb cs rs) a b:=by rw [show Sm.oth (nb cs rs) a b=[a] from o.stop]; simp
   exact absurd rfl (Sm.aQ.mp hm).2
  | cons c l => simp only [C_]; omega
 ·obtain ⟨p,q,h1,h2,h3⟩:=h.step (dN cs rs) hk (.inr rfl);rw [Wn.gt_eq (show M[Wn.pv M.length k]?=some p from h1),Wn.gt_eq h2];unfold Wn.Adj;rcases gI.mp h3 with ⟨_,rfl⟩ | ⟨_,rfl⟩ | ⟨_,rfl⟩ | ⟨_,rfl⟩<;>dsimp only<;>omega
theorem yU {cs rs:List Int} (lc:cs.length<=39) (lr:rs.length<=39) {M:List (Int×Int)} {f:Bool} (h:Sm.cJ (nb cs rs) f M):∀ p∈M,(0<=p.1/\p.1<=40)/\0<=p.2/\p.2<=40:=fun p hp=>by
 have:=fY h p hp
 unfold dz at this;omega
structure fB (H0 H:Hp) (d:Δ) (M:Int->List Int) (n:Nat):Prop where
 nd:H0 d=none
 ob:∃ kvs:List (Key×V),H d=some (.dK kvs)/\kvs.length<=n/\(kvs.map (·.1)).Nodup/\(∀ y:Int,aT kvs (.inl y)=none->M y=[]) /\
  (∀ k v,aT kvs k=some v->∃ y l,k=.inl y/\v=.ref l/\l≠d/\H0 l=none/\H l=some (.lst ((M y).map V.int)))/\∀ k k' v,aT kvs k=some v->aT kvs k'=some v->k=k'
theorem fB.new {H0 H:Hp} {d:Δ} (n:H0 d=none) (e:H d=some (.dK [])):fB H0 H d (fun _=>[]) 0 :=
 ⟨n,[],e,Av _,F0,fun _ _=>rfl,fun s v h=>(by cases h),fun s s' v h=>(by cases h)⟩
theorem fB.mono {H0 H H':Hp} {d:Δ} {M:Int->List Int} {n:Nat} (h:fB H0 H d M n) (m:aj H H'):fB H0 H' d M n:=by
 obtain ⟨kvs,h1,h2,h3,h4,h5,h6⟩:=h.ob;refine ⟨h.nd,kvs,m _ _ h1,h2,h3,h4,fun k v hv=>?_,h6⟩;obtain ⟨y,l,e1,e2,q1,q2,q3⟩:=h5 k v hv;exact ⟨y,l,e1,e2,q1,q2,m _ _ q3⟩
theorem fB.le {H0 H:Hp} {d:Δ} {M:Int->List Int} {n m:Nat} (h:fB H0 H d M n) (hm:n<=m):fB H0 H d M m :=
 let ⟨kvs,h1,h2,h3⟩:=h.ob; ⟨h.nd,kvs,h1,Ew h2 hm,h3⟩
noncomputable def Bo (M:Int->List Int) (y x:Int):Int->List Int:=fun z=>if z=y then M z++[x] else M z
theorem fB.add {H0 H:Hp} {d l:Δ} {M:Int->List Int} {n:Nat} {kvs:List (Key×V)} {y x:Int} (h:fB H0 H d M n) (e:H d=some (.dK kvs)) (hv:aT kvs (.inl y)=some (.ref l)):H l=some (.lst ((M y).map V.int))/\fB H0 (L2.upd H l (.lst ((M y).map V.int++[.int x]))) d (Bo M y x) n:=by
  obtain ⟨kvs',h1,h2,h3,h4,h5,h6⟩:=h.ob;rw [e] at h1
  cases h1;obtain ⟨y',l',e1,e2,q1,q2,q3⟩:=h5 _ _ hv;injection e1 with e1;injection e2 with e2;subst e1 e2;refine ⟨q3,h.nd,kvs,by rw [ai q1.symm]; exact e,h2,h3,fun z hz=>?_,fun k v hk=>?_,h6⟩
  · unfold Bo
    rw [if_neg (fun c=>by rw [c,hv] at hz; cases hz)];exact h4 z hz
  · unfold Bo
    obtain ⟨z,l2,e3,e4,r1,r2,r3⟩:=h5 k v hk;by_cases hz:z=y
    · subst hz e3
      rw [hv] at hk
      cases hk;injection e4 with e4;subst e4;exact ⟨z,l,rfl,rfl,q1,q2,by rw [if_pos rfl,ag,Ef]; rfl⟩
    · have:l2≠l:=fun c=>hz (by
        have:=h6 k (.inl y) v hk (by rw [hv,e4,c])
        rw [e3] at this;injection this)
      exact ⟨z,l2,e3,e4,r1,r2,by rw [if_neg hz,ai this]; exact r3⟩
theorem fB.put {H0 H:Hp} {d l:Δ} {M:Int->List Int} {n:Nat} {kvs:List (Key×V)} {y:Int} (h:fB H0 H d M n) (e:H d=some (.dK kvs)) (hv:aT kvs (.inl y)=none) (hl:H l=some (.lst [])) (n0:H0 l=none) (nd:l≠d) (fr:∀ k v,aT kvs k=some v->v≠.ref l):fB H0 (L2.upd H d (.dK (b7 kvs (.inl y) (.ref l)))) d M (n+1):=by
 obtain ⟨kvs',h1,h2,h3,h4,h5,h6⟩:=h.ob;rw [e] at h1
 cases h1;have hM:=h4 y hv;have vp:∀ k,aT (b7 kvs (.inl y) (.ref l)) k=if k=.inl y then some (.ref l) else aT kvs k:=fun k=>iM _ _ _ _
 refine ⟨h.nd,_,ag,by have:=cL kvs (.inl y) (.ref l); omega,?_,fun z hz=>?_,fun k v hk=>?_,fun k k' v hk hk'=>?_⟩
 ·rw [ko _ hv,Ef,Ey];refine ⟨h3,by simp,fun a ha b hb z=>?_⟩;simp only [EL,Hs,Ax] at hb;subst hb z;have:=qr.mpr ha
  rw [hv] at this
  cases this
 ·rw [vp] at hz;by_cases c:(G4 z:Key)=.inl y
  ·rw [if_pos c] at hz; cases hz
  ·rw [if_neg c] at hz; exact h4 z hz
 ·rw [vp] at hk;by_cases c:k=.inl y
  ·rw [if_pos c] at hk
   cases hk;exact ⟨y,l,c,rfl,nd,n0,by rw [ai nd,hM]; exact hl⟩
  ·rw [if_neg c] at hk;obtain ⟨z,l2,e3,e4,r1,r2,r3⟩:=h5 k v hk;exact ⟨z,l2,e3,e4,r1,r2,by rw [ai r1]; exact r3⟩
 ·rw [vp] at hk hk';by_cases c:k=.inl y<;>by_cases c':k'=.inl y
  ·rw [c,c']
  ·rw [if_pos c] at hk;rw [if_neg c'] at hk'
   cases hk;exact absurd rfl (fr k' _ hk')
  ·rw [if_neg c] at hk;rw [if_pos c'] at hk'
   cases hk';exact absurd rfl (fr k _ hk)
  ·rw [if_neg c] at hk;rw [if_neg c'] at hk';exact h6 k k' v hk hk'
theorem oK {α:Type} {zs:List α} {k:Nat} (h:k<zs.length):atI zs ((k:Int) - 1)=zs[Wn.pv zs.length k]?:=by
 unfold Wn.pv;by_cases e:k=0
 ·subst e;rw [if_pos rfl];obtain ⟨i,b,rfl⟩:∃ i b,zs=i++[b]:=⟨zs.dropLast,zs.getLast (by intro z; rw [z] at h; simp at h),(Fl _).symm⟩
  rw [show ((0:Nat):Int) - 1=-1 by decide,oJ,DZ,EO,Nat.add_sub_cancel,E1 (Av _),Ka];rfl
 ·rw [if_neg e,show (k:Int) - 1=((k - 1:Nat):Int) by omega];rw [ξ (show k - 1<zs.length by omega)];exact bI (ξ (show k - 1<zs.length by omega))
def sp_aO:Sp:=fun vs H Q _=>∃ (l:Δ) (zs:List V) (M:List (Int×Int)),vs=[.ref l]/\H l=some (.lst zs)/\aJ H zs M/\M.length<=1681/\∀ d H',aj H H'->fB H H' d (Wn.rw M) 1681->Q (.ref d) H'
theorem ok_aO (T:Txt K mg t):aW P w K mg base CX0 1 t.f_aO t.d_aO ["line"] sp_aO:=by
  refine T.F_aO.ok sc_aO (fun vs H Q E h=>?_) (fun cdv A outer s H vs Q E hr h=>?_)
  · obtain ⟨l,zs,M,rfl,_⟩:=h; rfl
  · obtain ⟨l,zs,M,rfl,el,py,hz,k⟩:=h
    have ly:=py.1;refine aN (aO 1 sc_aO.nd wZ) fun _ _=>aN (bX En rfl (cC rfl T.no_ai (aa (aq (bu K rfl) rfl T.no_len (by rfl) (aa (pv 0) ae)) ae)) (aw (i:=2) sc_aO.nd rfl (E_ rfl)) (aK (aO 3 sc_aO.nd (aF (aA K rfl) (pv 0) (aE dk (pv 2) ah))) (aK (aO 4 sc_aO.nd (aF (aA K rfl) (pv 0) (pv 2))) (ao (fe (bD (bU et (aF (bw K rfl) (pv 3) ah) (aF (bw K rfl) (pv 4) ah)) (ao (bo (cV EM Ed Ec ba (uD (pv 1) (aq (sD rfl) rfl T.no_min (by rfl) (aa (aF (bw K rfl) (pv 3) ah) (aa (aF (bw K rfl) (pv 4) ah) ae))) (cg ae) ⟨rfl,rfl,rfl,rfl⟩) (aa (aF (bw K rfl) (pv 3) ah) ae)))) aM)))))) fun _ _=>dY (aD (pv 1)) fun _ _=>?_;left;intro d nd;have s1:=aj.new (o:=HO.dK []) nd;have e1:=ag (H:=H) (a:=d) (o:=HO.dK []);generalize upd H d (HO.dK [])=H1 at s1 e1 ⊢;apply bA (s1 _ _ el) ?_;refine ⟨_,rfl,by omega,by omega,?_⟩;rw [FQ];refine cu (fun i σ' H'=>∃ (o2 o3 o4:Option V),σ'=[some (.ref l),some (.ref d),o2,o3,o4]/\aj H H'/\fB H H' d (Wn.rwk M i) i) ⟨none,none,none,rfl,s1,fB.new nd e1⟩ ?_ ?_
    · rintro i σ' H2 hi ⟨o2,o3,o4,rfl,s2,rw2⟩
      rw [Ir];have el2:=s2 _ _ el;have hp:Wn.pv zs.length i<zs.length:=Wn.pv_lt hi;obtain ⟨b1,eb1,hb1⟩:=py.2 _ _ _ (ξ hp) (ξ (by omega));obtain ⟨b2,eb2,hb2⟩:=py.2 _ _ _ (ξ hi) (ξ (show i<M.length by omega));have g1:=Wn.gt_eq (ξ (show Wn.pv zs.length i<M.length by omega));have g2:=Wn.gt_eq (ξ (show i<M.length by omega));rw [<- g1] at hb1;rw [<- g2] at hb2;rw [ly] at hb1;have hb1:=s2 _ _ hb1;have hb2:=s2 _ _ hb2;have a1:atI zs ((i:Int) - 1)=some (.ref b1):=by rw [oK hi,ξ hp,eb1]
      have a2:atI zs ((i:Nat):Int)=some (.ref b2):=bI (by rw [ξ hi,eb2]);clear g1 g2 eb1 eb2;apply aH (SqL.of el2) a1 ?_;apply aH (SqL.of el2) a2 ?_;apply fk (fun σ' H'=>σ'=[some (.ref l),some (.ref d),some (.int (i:Nat)),some (.ref b1),some (.ref b2)]/\aj H H'/\fB H H' d (Wn.rwk M (i+1)) (i+1)) ?_ ?_
      · have dv:Wn.vw (Wn.gt M (Wn.pv M.length i)) (Wn.gt M i)=if (Wn.gt M (Wn.pv M.length i)).1=(Wn.gt M i).1 then some ((Wn.gt M (Wn.pv M.length i)).1,if (Wn.gt M i).2<(Wn.gt M (Wn.pv M.length i)).2 then (Wn.gt M i).2 else (Wn.gt M (Wn.pv M.length i)).2) else none:=rfl
        have rN:=Wn.rwk_none (M:=M) (k:=i);have rS:=fun {x y:Int}=>Wn.rwk_some (M:=M) (k:=i) (x:=x) (y:=y);generalize Wn.gt M (Wn.pv M.length i)=p at hb1 dv rN rS;generalize Wn.gt M i=q at hb2 dv rN rS;obtain ⟨px,py'⟩:=p;obtain ⟨qx,qy⟩:=q;dsimp only at hb1 hb2 dv;apply bH (SqT.of hb1) (v:=.int px) rfl ?_;apply bH (SqT.of hb2) (v:=.int qx) rfl ?_;left;by_cases c:px=qx
        · rw [bC c]
          rw [if_pos c] at dv;rw [rS dv];generalize hmn:(if qy<py' then qy else py')=mn;obtain ⟨kvs,g1,g2,g3,g4,g5,g6⟩:=rw2.ob;apply uJ ?_;apply zY g1 ?_;apply bH (SqT.of hb1) (v:=.int py') rfl ?_;apply bH (SqT.of hb2) (v:=.int qy) rfl ?_;left;rw [hmn];refine nwL fun ln H3 sln nln eln=>?_;have s3:=s2.trans sln;have rw3:=rw2.mono sln;have g13:=sln _ _ g1;have hln:H ln=none:=s2.free nln;refine ⟨kvs,.inl mn,rfl,g13,Ej g2 (aR (by omega)),fun v hv=>?_,fun hv=>?_⟩
          · obtain ⟨y',l',ey,rfl,q1,q2,q3⟩:=g5 _ _ hv
            have ad:=rw3.add (x:=px) g13 hv;refine bP ad.1 ?_;apply bH (SqT.of (sln _ _ hb1)) (v:=.int px) rfl ?_;apply aV ad.1 ?_ ?_
            · rw [Ξ]
              have:=Wn.rwk_len M i mn
              exact aR (by omega)
            · exact ⟨rfl,s3.later q2,ad.2.le (by omega)⟩
          · have pt:=rw3.put g13 hv eln hln (fun z=>by rw [z,g1] at nln; cases nln) (fun k v hk e=>by
              obtain ⟨y',l',_,e2,_,_,q3⟩:=g5 k v hk;rw [e2] at e;injection e with e;rw [<- e,q3] at nln
              cases nln)
            have v4:aT (b7 kvs (G4 mn) (V.ref ln)) (.inl mn)=some (.ref ln):=by rw [iM,if_pos rfl]
            have eln4:upd H3 d (.dK (b7 kvs (G4 mn) (V.ref ln))) d=_:=ag;have s4:aj H (upd H3 d (.dK (b7 kvs (G4 mn) (V.ref ln)))):=s3.later nd;have hb14:upd H3 d (.dK (b7 kvs (G4 mn) (V.ref ln))) b1=_:=(ai (aZ (sln _ _ hb1) g13 (by intro z; cases z))).trans (sln _ _ hb1);generalize upd H3 d (.dK (b7 kvs (G4 mn) (V.ref ln)))=H4 at pt eln4 s4 hb14 ⊢;have ad:=pt.add (x:=px) eln4 v4;refine bP ad.1 ?_;apply bH (SqT.of hb14) (v:=.int px) rfl ?_;apply aV ad.1 ?_ ?_
            · rw [Ξ]
              have:=Wn.rwk_len M i mn
              exact aR (by omega)
            · exact ⟨rfl,s4.later hln,ad.2⟩
        · rw [cx c]
          rw [if_neg c] at dv;rw [rN dv];left;exact ⟨rfl,s2,rw2.le (by omega)⟩
      · rintro σ' H3 ⟨rfl,s3,rw3⟩
        exact ⟨_,_,_,rfl,s3,rw3⟩
    · rintro σ' H2 ⟨o2,o3,o4,rfl,s2,rw2⟩
      apply k d H2 s2 ?_;rw [ly,Wn.rwk_all] at rw2;exact rw2.le (by omega)
end
section
variable {K:W.Frag} {σ:L2.St} {H:Hp} {Q:VK} {te:TE} {cap:List (Option Nat)} {l:Δ}
theorem qF {a b y:Int} (hz:(b - a).toNat<=5000) (hl:H l=none)
  (step:∀ (i:Nat) o H' (Q':VK),i<(b - a).toNat->aj H H'->(∀ c H5,aj H' H5->H5 c=some (.tup [.int (a+(i:Nat)),.int y])->Q' (.ref c) H5)->te (((cT (none::cap) σ).set 0 o).set 0 (some (.int (a+(i:Nat))))) H' Q')
  (fin:∀ ys H',aj H H'->H' l=some (.lst ys)->aJ H' ys (Wn.span a b y)->Q (.ref l) H'):fu (Itr a (b - a).toNat) (cR 0) fX te (none::cap) l σ H Q:=by
 have tk:∀ i,i<(b - a).toNat->(Wn.span a b y).take (i+1)=(Wn.span a b y).take i++[(a+((i:Nat):Int),y)]:=fun i hi=>by
  unfold Wn.span;rw [Ft,EU,G1 hi];rfl
 have ln:(Wn.span a b y).length=(b - a).toNat:=by unfold Wn.span; rw [Ξ,Eo]
 refine ⟨(b - a).toNat,fun i ys σ' H'=>(∃ o,σ'=(cT (none::cap) σ).set 0 o)/\aj H H'/\H' l=some (.lst ys)/\aJ H' ys ((Wn.span a b y).take i),⟨⟨none,rfl⟩,aj.new hl,ag,by rw [Gm]; exact aJ.nil⟩,?_,?_⟩
 ·rintro i ys σ' H' hi ⟨⟨o,rfl⟩,s,e,pz⟩;refine ⟨hi,fun x H2 z=>?_⟩;obtain ⟨e2,rfl⟩:=z;subst e2;refine bY (da (jW ?_));refine step i o H2 _ hi s fun c H5 s5 hc=>⟨s5 _ _ e,?_,?_⟩
  ·have:=pz.1
   rw [FP,ln] at this;exact Ej (show ys.length<=5000 by omega) (by decide)
  ·exact ⟨⟨_,HB ..⟩,(s.trans s5).later hl,ag,by rw [tk i hi]; exact ((pz.mono s5).upd (s5 _ _ e) (by intro ys z; cases z)).snoc (Pt.upd (q:=(a+((i:Nat):Int),y)) ⟨c,rfl,hc⟩ (s5 _ _ e) (by intro ys z; cases z))⟩
 ·rintro ys σ' H' ⟨_,s,e,pz⟩;rw [EN (by rw [ln]; exact Av _)] at pz;exact ⟨Av _,fin ys H' s e pz⟩
theorem aJ.app {H:Hp}:∀ {xs ys:List V} {ps qs:List (Int×Int)},aJ H xs ps->aJ H ys qs->aJ H (xs++ys) (ps++qs)
 | [],_,[],_,_,h=>h
 | [],_,_::_,_,h,_=>by have:=h.1; simp at this
 | _::_,_,[],_,h,_=>by have:=h.1; simp at this
 | x::xs,ys,p::ps,qs,h,h'=>by
  obtain ⟨v,r,e,h1,h2⟩:=h.inv
  cases e;exact aJ.cons h1 (aJ.app h2 h')
end
section
variable {P:D_} {w:Eh} {K:W.Frag} {mg:Str->Option ς} {base:E5} {t:Ad}
theorem gh {K:W.Frag} {a:Δ} {xs:List V} {ps:List (Int×Int)} {H:Hp} {Q:VK} (e:H a=some (.lst xs)) (h:aJ H xs ps)
  (k:∀ (l:Δ) (ys:List V) (qs:List (Int×Int)),H l=none->aJ (L2.upd H l (.lst ys)) ys qs->qs.Perm ps->qs.Pairwise Ts.ple->Q (.ref l) (L2.upd H l (.lst ys))):tu K [.ref a] H Q:=by
 refine x6 (fh H) e (fun v hv=>h.mem v hv) fun l ys hn hp hw=>k l ys (ys.map (fh H)) hn ?_ ((hp.map (fh H)).trans (MM h.map)) (Fd.mpr hw);exact aJ.mono (aj.new hn) (sZ fun v hv=>h.mem v (hp.mem_iff.mp hv))
structure iO (M C:List (Int×Int)):Prop where
 so:C.Pairwise Ts.ple
 nd:C.Nodup
 ms:∀ q,q∈C↔Wn.ins M q=true
theorem iO.uniq {M C C':List (Int×Int)} (h:iO M C) (h':iO M C'):C=C':=by
 refine sU ?_ h.so h'.so;exact (LG h.nd h'.nd).mpr fun q=>(h.ms q).trans (h'.ms q).symm
theorem ij {M l:List (Int×Int)} (c:Wn.Cyc M) (bx:∀ p∈M,(0<=p.1/\p.1<=40)/\0<=p.2/\p.2<=40) (nd:l.Nodup) (h:∀ q∈l,Wn.ins M q=true):l.length<=1600 :=
 Wn.nodup_few (n:=40) nd fun q hq=>by have:=c.box (x0:=0) (x1:=40) (y0:=0) (y1:=40) bx (h q hq); omega
def sp_aF:Sp:=fun vs H Q _=>∃ (l:Δ) (zs:List V) (M:List (Int×Int)),vs=[.ref l]/\H l=some (.lst zs)/\aJ H zs M/\M.length<=1681/\Wn.Cyc M/\(∀ p∈M,(0<=p.1/\p.1<=40)/\0<=p.2/\p.2<=40) /\
 ∀ l' ys C H',aj H H'->H l'=none->H' l'=some (.lst ys)->aJ H' ys C->iO M C->Q (.ref l') H'
theorem ok_aF (T:Txt K mg t):aW P w K mg base CX0 2 t.f_aF t.d_aF ["line"] sp_aF:=by
 refine T.F_aF.ok sc_aF (by walk_at "l") (fun _ _ _ s H vs Q E hr h=>?_)
 ·obtain ⟨l,zs,M,rfl,el,py,hz,cy,bx,k⟩:=h;refine aN (aO 1 sc_aF.nd (cg ae)) fun _ _=>aN (zH (bX En rfl (xg (wQ HX LC PySem.F.type_dict_items wj (au (ok_aO T) (rmo hr) rfl T.mg_aO T.F_aO.kp T.b_aO .nil aS (aa (pv 0) ae)))) (cG (n:=2) K rfl rfl (aU (aw (i:=2) sc_aF.nd rfl (I_ rfl)) (aU (aw (i:=3) sc_aF.nd rfl (E_ rfl)) cH))) (aK (aO 4 sc_aF.nd (aq (dH K rfl) rfl T.no_sorted (by rfl) (aa (pv 3) ae))) (ao (bX En rfl (uE rfl T.no_ai (aa ah (aa (aq (bu K rfl) rfl T.no_len (by rfl) (aa (pv 4) ae)) (aa ah ae)))) (aw (i:=5) sc_aF.nd rfl (E_ rfl)) (ao (bo (cV EM PySem.F.slot_list_extend PySem.F.type_list_extend uv (pv 1) (aa (bK (N:=["x","y"]) (cap:=[none,some 2]) rfl ⟨rfl,rfl,rfl,rfl,rfl,rfl⟩ (iX rfl T.no_ai (aa (aF (aA K rfl) (pv 4) (pv 5)) (aa (aF (aA K rfl) (pv 4) (aE bB (pv 5) ah)) ae))) (fun _ _ _=>(aw (i:=0) (show (["x","y"]:List Str).Nodup by decide +kernel) rfl (E_ rfl))) (fun _ _ _=>bL) (fun _ _ _=>(bN (aa (pv 0) (aa (pv 1) ae))))) ae))))))))) fun _ _=>dY (aD (aq (dH K rfl) rfl T.no_sorted (by rfl) (aa (pv 1) ae))) fun _ _=>?_;apply nwL fun lf H1 slf nlf elf=>?_;apply ⟨l,zs,M,rfl,slf _ _ el,py.mono slf,hz,fun d H2 s2 rw2=>?_⟩;obtain ⟨kvs,g1,g2,g3,g4,g5,g6⟩:=rw2.ob;have nd:H d=none:=slf.free rw2.nd;have elf2:=s2 _ _ elf;have s02:=slf.trans s2;have dlf:d≠lf:=fun z=>by have:=rw2.nd; rw [z,elf] at this; cases this
  apply Cb g1 ?_;refine yb g1 fun v nv=>?_;have sv:=aj.new (o:=gX "dict_items" v d) nv;have ev:=ag (H:=H2) (a:=v) (o:=gX "dict_items" v d);generalize upd H2 v (gX "dict_items" v d)=H3 at sv ev ⊢;refine ⟨v,d,kvs,rfl,ev,sv _ _ g1,fun FF hFF=>?_⟩;have m4:gA [d,lf] H2 (upd H3 d FF):=fun b o e nb=>by rw [ai (fun z=>nb (by simp [z]))]; exact sv _ _ e
  have s4:aj H (upd H3 d FF):=fun b o e=>by rw [ai (aC e nd)]; exact sv _ _ (s02 _ _ e)
  have e4:=ag (H:=H3) (a:=d) (o:=FF);have l4:upd H3 d FF lf=some (.lst []):=by rw [ai dlf.symm]; exact sv _ _ elf2
  have dF:∃ φ,FF=.ext φ:=hFF.ext;generalize upd H3 d FF=H4 at m4 s4 e4 l4 ⊢;refine qI (fun i σ' H'=>∃ (o2 o3 o4 o5:Option V) (xs:List V) (ps:List (Int×Int)),σ'=[some (.ref l),some (.ref lf),o2,o3,o4,o5]/\aj H H'/\gA [d,lf] H2 H'/\H' d=some FF/\H' lf=some (.lst xs)/\aJ H' xs ps/\ps.Nodup/\∀ q,q∈ps↔Wn.ins M q=true/\(G4 q.2:Key)∈(kvs.take i).map (·.1))
   ⟨none,none,none,none,[],[],rfl,s4,m4,e4,l4,aJ.nil,F0,fun q=>by simp⟩ ?_ ?_ ?_
  ·rintro i σ' H' _ ⟨_,_,_,_,_,_,rfl,_,_,e,_⟩;exact e
  ·rintro i kk x b σ' H5 hk ⟨o2,o3,o4,o5,xs,ps,rfl,s5,m5,e5,l5,px,pnd,pms⟩ nb;have hik:i<kvs.length:=(Aw.mp hk).1;obtain ⟨y,ll,rfl,rfl,q1,q2,q3⟩:=g5 _ _ (tL g3 hk);have tki:(kvs.take (i+1)).map (·.1)=(kvs.take i).map (·.1)++[.inl y]:=by rw [Ft,hk,Ef]; rfl
   have nyk:(G4 y:Key)∉(kvs.take i).map (·.1):=fun z=>by
    have h1:((kvs.take (i+1)).map (·.1)).Nodup:=g3.sublist (List.Sublist.map _ (FG _ _));rw [tki,Ey] at h1;exact h1.2.2 _ z _ (by simp) rfl
   rw [show kV (G4 y)=V.int y from rfl];have s6:=aj.new (o:=HO.tup [V.int y,V.ref ll]) nb;have e6:=ag (H:=H5) (a:=b) (o:=HO.tup [V.int y,V.ref ll]);generalize upd H5 b (HO.tup [V.int y,V.ref ll])=H6 at s6 e6 ⊢;have llf:ll≠lf:=fun z=>by rw [z,elf] at q2; cases q2
   have hll5:H5 ll=some (.lst ((Wn.rw M y).map V.int)):=m5 _ _ q3 (by simp only [B_,Ek,or_false]; exact fun z=>z.elim q1 llf);refine fj e6 rfl ?_;apply xZ (s6 _ _ hll5) fun lm ms nm pm pw=>?_;obtain ⟨slt,sev,scl⟩:=cy.row pm pw;have lmf:lm≠lf:=fun z=>by rw [z,s6 _ _ l5] at nm; cases nm
   have s7:=s6.trans (aj.new (o:=HO.lst (ms.map V.int)) nm);have e7:=ag (H:=H6) (a:=lm) (o:=HO.lst (ms.map V.int));generalize upd H6 lm (HO.lst (ms.map V.int))=H7 at s7 e7 ⊢;have cyb:∀ q∈ps++Wn.cl y ms,Wn.ins M q=true:=fun q hq=>by
    rcases EE.mp hq with z | z
    ·exact ((pms q).mp z).1
    ·exact ((scl q).mp z).2
   have cyn:(ps++Wn.cl y ms).Nodup:=by
    rw [Ey];refine ⟨pnd,Wn.cl_nd y slt,fun p hp q hq z=>?_⟩;subst z;have h1:=((pms p).mp hp).2;rw [((scl p).mp hq).1] at h1;exact nyk h1
   have bnd:∀ j,(ps++Wn.cl y (ms.take (2*j))).length<=1600:=fun j=>by
    obtain ⟨r,e⟩:=Wn.cl_pre y j ms
    have h1:(ps++Wn.cl y (ms.take (2*j))).Nodup:=by
     rw [e,<- EF] at cyn;exact (Ey.mp cyn).1
    refine ij cy bx h1 fun q hq=>cyb q ?_;rw [e,<- EF];exact Ea _ hq
   have lms:ms.length<=1681:=by rw [pm.length_eq]; have:=Wn.rwk_len M M.length y; rw [Wn.rwk_all] at this; omega
   apply bA e7 ?_;rw [Ξ];apply ⟨_,_,rfl,by omega,by omega,by omega,?_⟩;have c2:jM 0 ((ms.length:Nat):Int)*2=ms.length:=by unfold jM; omega
   refine pE (fun j σ' H'=>∃ (o5:Option V) (xs:List V),σ'=[some (.ref l),some (.ref lf),some (.int y),some (.ref ll),some (.ref lm),o5]/\aj H H'/\gA [d,lf] H2 H'/\H' d=some FF/\H' lm=some (.lst (ms.map V.int))/\H' lf=some (.lst xs)/\aJ H' xs (ps++Wn.cl y (ms.take (2*j))))
    ⟨o5,xs,rfl,s5.trans s7,m5.trans (s7.butL _),s7 _ _ e5,e7,s7 _ _ l5,by rw [Nat.mul_zero,Gm,show Wn.cl y []=[] from rfl,E2]; exact px.mono s7⟩ ?_ ?_
   ·rintro j σ' H8 hj ⟨o5,xs,rfl,s8,m8,e8,lm8,l8,px8⟩;have hj1:2*j+1<ms.length:=by omega
    obtain ⟨ma,hma⟩:∃ ma,ms[2*j]?=some ma:=⟨_,ξ (by omega)⟩
    obtain ⟨mb,hmb⟩:∃ mb,ms[2*j+1]?=some mb:=⟨_,ξ hj1⟩
    have ia:atI (ms.map V.int) (0+((j:Nat):Int)*2)=some (.int ma):=by
     rw [show 0+((j:Nat):Int)*2=((2*j:Nat):Int) by omega];exact bI (by rw [EU,hma]; rfl)
    have ib:atI (ms.map V.int) (0+((j:Nat):Int)*2+1)=some (.int mb):=by
     rw [show 0+((j:Nat):Int)*2+1=((2*j+1:Nat):Int) by omega];exact bI (by rw [EU,hmb]; rfl)
    have rM:∀ z∈ms,0<=z/\z<=40:=fun z hz=>by
     have h1:=(cy.ends (Wn.mem_rw.mp (pm.mem_iff.mp hz))).1;exact (bx _ h1).1
    have ra:=rM ma (EW hma);have rb:=rM mb (EW hmb);apply bP l8 ?_;apply nG ?_;apply aH (SqL.of lm8) ia ?_;apply aH (SqL.of lm8) ib ?_;apply ⟨_,_,rfl,⟨by omega,by omega,by omega,by omega⟩,fun lc nc=>?_⟩;refine qF (y:=y) (by omega) nc (fun i' o H' Q' _ s9 q=>?_) fun ys H9 s9 e9 py9=>?_
    ·apply nwT fun c H5 sc nc ec=>?_;exact q c H5 sc ec
    ·left;have l9:=s9 _ _ l8;have lcf:lc≠lf:=fun z=>by rw [z,l8] at nc; cases nc
     have bj:=bnd (j+1);rw [Wn.cl_take y j hma hmb,<- EF] at bj;have px9:=(px8.mono s9).app py9;refine ⟨lf,lc,xs,ys,rfl,rfl,l9,e9,?_,?_⟩
     ·have h1:=px9.1;rw [DZ] at h1;exact Ip (aR (by omega))
     ·have mu:gA [d,lf] H9 (upd H9 lf (.lst (xs++ys))):=(gA.refl _ _).upd (by simp);refine ⟨_,_,rfl,(s8.trans s9).later nlf,(m8.trans (s9.butL _)).trans mu,?_,?_,ag,?_⟩
      ·rw [ai dlf]; exact s9 _ _ e8
      ·rw [ai lmf]; exact s9 _ _ lm8
      ·rw [Wn.cl_take y j hma hmb,<- EF];exact px9.upd l9 (by intro ys z; cases z)
   ·rintro σ' H8 ⟨o5,xs,rfl,s8,m8,e8,lm8,l8,px8⟩;rw [show 2*jM 0 ((ms.length:Nat):Int)=ms.length by omega,EN (Av _)] at px8;refine ⟨_,_,_,_,xs,_,rfl,s8,m8,e8,l8,px8,cyn,fun q=>?_⟩;rw [EE,pms,scl,tki,EE,Ax];constructor
    ·rintro (⟨h1,h2⟩ | ⟨h1,h2⟩)
     ·exact ⟨h1,.inl h2⟩
     ·exact ⟨h2,.inr (by rw [h1])⟩
    ·rintro ⟨h1,h2 | h2⟩
     ·exact .inl ⟨h1,h2⟩
     ·exact .inr ⟨by injection h2,h1⟩
  ·rintro σ' H5 ⟨o2,o3,o4,o5,xs,ps,rfl,s5,m5,e5,l5,px,pnd,pms⟩;refine ⟨_,⟨d,kvs,FF,hFF,e5,rfl⟩,?_⟩;have s6:aj H (upd H5 d (.dK kvs)):=s5.later nd;have l6:upd H5 d (.dK kvs) lf=some (.lst xs):=by rw [ai dlf.symm]; exact l5
   have px6:=px.upd (o:=.dK kvs) e5 (by obtain ⟨φ,rfl⟩:=dF; intro ys z; cases z);generalize upd H5 d (.dK kvs)=H6 at s6 l6 px6 ⊢;apply gh l6 px6 fun l' ys qs nl' py' pq sq=>?_;apply k l' ys qs _ (s6.later (s6.free nl')) (s6.free nl') ag py' ⟨sq,pq.nodup_iff.mpr pnd,fun q=>?_⟩;rw [pq.mem_iff,pms];refine ⟨fun h=>h.1,fun h=>⟨h,?_⟩⟩;rw [EN (Av _)];obtain ⟨a,_,ha,_⟩:=cy.between h;have hr:=Wn.mem_rw.mpr ha;by_cases hv:aT kvs (.inl q.2)=none
   ·rw [g4 _ hv] at hr; cases hr
   ·exact qr.mp (by cases e:aT kvs (.inl q.2) with | none=>exact absurd e hv | some z=>rfl)
end
section
variable {K:W.Frag} {σ:L2.St} {H:Hp} {Q:VK} {te:TE} {cap:List (Option Nat)} {l:Δ}
theorem dM {a:Δ} {xs:List V} {ps:List (Int×Int)} (g:Int×Int->Int) (hs:SqL K H a xs) (pw:aJ H xs ps) (hz:xs.length<=5000) (hl:H l=none)
  (step:∀ q o1 o2 H' (Q':VK),q∈ps->aj H H'->Q' (.int (g q)) H'->te (((((cT (none::none::cap) σ).set 0 o1).set 1 o2).set 0 (some (.int q.1))).set 1 (some (.int q.2))) H' Q')
  (fin:∀ H',aj H H'->H' l=some (.lst ((ps.map g).map V.int))->Q (.ref l) H'):fu (Itl K a) (ub K 2 (jd (cR 0) (jd (cR 1) vR))) fX te (none::none::cap) l σ H Q:=by
 refine ⟨xs.length,fun i zs σ' H'=>zs=((ps.map g).map V.int).take i/\(∃ o1 o2,σ'=((cT (none::none::cap) σ).set 0 o1).set 1 o2)/\aj H H'/\H' l=some (.lst zs),⟨rfl,⟨none,none,rfl⟩,aj.new hl,ag⟩,?_,?_⟩
 ·rintro i zs σ' H' hi ⟨rfl,⟨o1,o2,rfl⟩,s,e⟩;refine ⟨⟨xs,xs[i],s.seq hs,by simp [hi]⟩,fun x H2 y=>?_⟩;obtain ⟨e2,y⟩:=y;subst e2;have hx:=y xs (s.seq hs);have hip:i<ps.length:=by rw [<- pw.1]; exact hi
  obtain ⟨b,rfl,hb⟩:=pw.2 i x _ hx (ξ hip);have hl2:i<((ps.map g).map V.int).length:=by rw [Ξ,Ξ]; exact hip
  refine fj (s _ _ hb) rfl ?_;refine dR (bY (dR (bY (jA ?_))));refine da (jW ?_);refine step ps[i] o1 o2 H2 _ (Er hip) s ⟨e,?_,?_⟩
  ·rw [FP];exact Ej (show min i _<=5000 by omega) (by decide)
  ·refine ⟨?_,⟨some _,some _,rfl⟩,s.later hl,ag⟩;rw [Ft,ξ hl2];simp
 ·rintro zs σ' H' ⟨rfl,_,s,e⟩;rw [EN (by rw [Ξ,Ξ,pw.1]; exact Av _)] at e;exact ⟨⟨xs,s.seq hs,Av _⟩,fin H' s e⟩
end
section
variable {P:D_} {w:Eh} {K:W.Frag} {mg:Str->Option ς} {base:E5} {t:Ad}
def sp_ay:Sp:=fun vs H Q _=>∃ (l:Δ) (zs:List V) (M:List (Int×Int)),vs=[.ref l]/\H l=some (.lst zs)/\aJ H zs M/\M.length<=1681/\Wn.Cyc M/\(∀ p∈M,(0<=p.1/\p.1<=40)/\0<=p.2/\p.2<=40) /\
 ∀ l' ys C H',aj H H'->H l'=none->H' l'=some (.lst ys)->aJ H' ys C->iO M C->Q (.ref l') H'
theorem ok_ay (T:Txt K mg t):aW P w K mg base CX0 2 t.f_ay t.d_ay ["_law_line"] sp_ay:=by
 refine T.F_ay.ok sc_ay (by walk_at "l") (fun _ _ _ s H vs Q E hr h=>?_)
 ·obtain ⟨l,zs,M,rfl,el,py,hz,cy,bx,k⟩:=h;have ly:=py.1;have l3:=cy.len;have ne1:M.map (·.1)≠[]:=fun e=>by have:=J2.mp e; rw [this] at l3; simp at l3
  have ne2:M.map (·.2)≠[]:=fun e=>by have:=J2.mp e; rw [this] at l3; simp at l3
  refine aN (aO 1 sc_ay.nd (aq (oQ K rfl rfl) rfl T.no_min (by rfl) (aa (bK (N:=["_law_x","_law_y"]) (cap:=[none,none]) rfl ⟨rfl,rfl,rfl,rfl,rfl,rfl⟩ (bz (pv 0)) (fun _ _ _=>(cG (n:=2) K rfl rfl (aU (aw (i:=0) (show (["_law_x","_law_y"]:List Str).Nodup by decide +kernel) rfl (E_ rfl)) (aU (aw (i:=1) (show (["_law_x","_law_y"]:List Str).Nodup by decide +kernel) rfl (E_ rfl)) cH)))) (fun _ _ _=>bL) (fun _ _ _=>(pv 0))) ae))) fun _ _=>aN (aO 2 sc_ay.nd (aq (oP K rfl rfl) rfl T.no_max (by rfl) (aa (bK (N:=["_law_x","_law_y"]) (cap:=[none,none]) rfl ⟨rfl,rfl,rfl,rfl,rfl,rfl⟩ (bz (pv 0)) (fun _ _ _=>(cG (n:=2) K rfl rfl (aU (aw (i:=0) (show (["_law_x","_law_y"]:List Str).Nodup by decide +kernel) rfl (E_ rfl)) (aU (aw (i:=1) (show (["_law_x","_law_y"]:List Str).Nodup by decide +kernel) rfl (E_ rfl)) cH)))) (fun _ _ _=>bL) (fun _ _ _=>(pv 0))) ae))) fun _ _=>aN (aO 3 sc_ay.nd (aq (oQ K rfl rfl) rfl T.no_min (by rfl) (aa (bK (N:=["_law_x","_law_y"]) (cap:=[none,none]) rfl ⟨rfl,rfl,rfl,rfl,rfl,rfl⟩ (bz (pv 0)) (fun _ _ _=>(cG (n:=2) K rfl rfl (aU (aw (i:=0) (show (["_law_x","_law_y"]:List Str).Nodup by decide +kernel) rfl (E_ rfl)) (aU (aw (i:=1) (show (["_law_x","_law_y"]:List Str).Nodup by decide +kernel) rfl (E_ rfl)) cH)))) (fun _ _ _=>bL) (fun _ _ _=>(pv 1))) ae))) fun _ _=>aN (aO 4 sc_ay.nd (aq (oP K rfl rfl) rfl T.no_max (by rfl) (aa (bK (N:=["_law_x","_law_y"]) (cap:=[none,none]) rfl ⟨rfl,rfl,rfl,rfl,rfl,rfl⟩ (bz (pv 0)) (fun _ _ _=>(cG (n:=2) K rfl rfl (aU (aw (i:=0) (show (["_law_x","_law_y"]:List Str).Nodup by decide +kernel) rfl (E_ rfl)) (aU (aw (i:=1) (show (["_law_x","_law_y"]:List Str).Nodup by decide +kernel) rfl (E_ rfl)) cH)))) (fun _ _ _=>bL) (fun _ _ _=>(pv 1))) ae))) fun _ _=>aN (aO 5 sc_ay.nd kc) fun _ _=>aN (bX En rfl (cC rfl T.no_ai (aa (aq (bu K rfl) rfl T.no_len (by rfl) (aa (pv 0) ae)) ae)) (aw (i:=6) sc_ay.nd rfl (E_ rfl)) (ao (fe (bD (bU et (aF (bw K rfl) (aF (aA K rfl) (pv 0) (pv 6)) ah) (aF (bw K rfl) (aF (aA K rfl) (pv 0) (aE dk (pv 6) ah)) ah)) (ao (sX (ie hr) (pv 5) (bN (aa (aF (bw K rfl) (aF (aA K rfl) (pv 0) (pv 6)) ah) (aa (aq (sD rfl) rfl T.no_min (by rfl) (aa (aF (bw K rfl) (aF (aA K rfl) (pv 0) (pv 6)) ah) (aa (aF (bw K rfl) (aF (aA K rfl) (pv 0) (aE dk (pv 6) ah)) ah) ae))) ae))) eu rfl)) aM)))) fun _ _=>aN (aO 7 sc_ay.nd (cg ae)) fun _ _=>aN (bX En rfl (iX rfl T.no_ai (aa (pv 3) (aa (pv 4) ae))) (aw (i:=8) sc_ay.nd rfl (E_ rfl)) (aK (aO 9 sc_ay.nd eu) (ao (bX En rfl (iX rfl T.no_ai (aa (pv 1) (aa (pv 2) ae))) (aw (i:=10) sc_ay.nd rfl (E_ rfl)) (aK (aO 9 sc_ay.nd (ka mj (pv 9) (wX (ny (ie hr) (bN (aa (pv 10) (aa (pv 8) ae))) (pv 5))))) (ao (fe (bD (bO (pv 9)) (ao (bo (cV EM Ed Ec ba (pv 7) (aa (bN (aa (pv 10) (aa (pv 8) ae))) ae)))) aM)))))))) fun _ _=>dY (aD (aq (dH K rfl) rfl T.no_sorted (by rfl) (aa (pv 7) ae))) fun _ _=>?_;apply ⟨⟨_,SqL.of el⟩,fun la na=>?_⟩;refine dM (·.1) (SqL.of el) py (by omega) na (fun q o1 o2 H' Q' _ _ q'=>?_) fun H1 s1 e1=>?_
  ·left;exact q'
  apply jy e1 ne1 fun x0 a1 a2=>?_;apply ⟨⟨_,SqL.of (s1 _ _ el)⟩,fun lb nb'=>?_⟩;refine dM (·.1) (SqL.of (s1 _ _ el)) (py.mono s1) (by omega) nb' (fun q o1 o2 H' Q' _ _ q'=>?_) fun H2 s2 e2=>?_
  ·left;exact q'
  have s2:=s1.trans s2;apply jy e2 ne1 fun x1 b1 b2=>?_;apply ⟨⟨_,SqL.of (s2 _ _ el)⟩,fun lc nc=>?_⟩;refine dM (·.2) (SqL.of (s2 _ _ el)) (py.mono s2) (by omega) nc (fun q o1 o2 H' Q' _ _ q'=>?_) fun H3 s3 e3=>?_
  ·left;exact q'
  have s3:=s2.trans s3;apply jy e3 ne2 fun y0 c1 c2=>?_;apply ⟨⟨_,SqL.of (s3 _ _ el)⟩,fun ld nd'=>?_⟩;refine dM (·.2) (SqL.of (s3 _ _ el)) (py.mono s3) (by omega) nd' (fun q o1 o2 H' Q' _ _ q'=>?_) fun H4 s4 e4=>?_
  ·left;exact q'
  have s4:=s3.trans s4;apply jy e4 ne2 fun y1 d1 d2=>?_;have bx':∀ p∈M,(x0<=p.1/\p.1<=x1)/\y0<=p.2/\p.2<=y1:=fun p hp=>by
   have h1:=a2 _ (EJ.mpr ⟨p,hp,rfl⟩);have h2:=b2 _ (EJ.mpr ⟨p,hp,rfl⟩);have h3:=c2 _ (EJ.mpr ⟨p,hp,rfl⟩);have h4:=d2 _ (EJ.mpr ⟨p,hp,rfl⟩);simp at h1 h2 h3 h4
   omega
  have bb:(0<=x0/\x0<=40)/\(0<=x1/\x1<=40)/\(0<=y0/\y0<=40)/\0<=y1/\y1<=40:=by
   obtain ⟨p1,hp1,z1⟩:=EJ.mp a1;obtain ⟨p2,hp2,z2⟩:=EJ.mp b1;obtain ⟨p3,hp3,z3⟩:=EJ.mp c1;obtain ⟨p4,hp4,z4⟩:=EJ.mp d1;have:=bx p1 hp1
   have:=bx p2 hp2
   have:=bx p3 hp3
   have:=bx p4 hp4
   omega
  clear a1 a2 b1 b2 c1 c2 d1 d2 e1 e2 e3 e4 s1 s2 s3;left;intro d nd;have nd0:H d=none:=s4.free nd;have s5:=s4.trans (aj.new (o:=HO.dT []) nd);have e5:=ag (H:=H4) (a:=d) (o:=HO.dT []);generalize upd H4 d (HO.dT [])=H5 at s5 e5 ⊢;apply bA (s5 _ _ el) ?_;refine ⟨_,rfl,by omega,by omega,?_⟩;rw [FQ];refine cu (fun i σ' H'=>∃ (o6:Option V) (kvs:List (List Key×V)),σ'=[some (.ref l),some (.int x0),some (.int x1),some (.int y0),some (.int y1),some (.ref d),o6,none,none,none,none]/\aj H H'/\H' d=some (.dT kvs)/\bR kvs (Wn.Wk M i)) ⟨none,[],rfl,s5,e5,rfl⟩ ?_ ?_
  ·rintro i σ' H6 hi ⟨o6,kvs,rfl,s6,e6,ke6⟩;rw [Ir];have el6:=s6 _ _ el;have hp:Wn.pv zs.length i<zs.length:=Wn.pv_lt hi;obtain ⟨b1,eb1,hb1⟩:=py.2 _ _ _ (ξ hp) (ξ (by omega));obtain ⟨b2,eb2,hb2⟩:=py.2 _ _ _ (ξ hi) (ξ (show i<M.length by omega));have g1:=Wn.gt_eq (ξ (show Wn.pv zs.length i<M.length by omega));have g2:=Wn.gt_eq (ξ (show i<M.length by omega));rw [<- g1] at hb1;rw [<- g2] at hb2;rw [ly] at hb1;have hb1:=s6 _ _ hb1;have hb2:=s6 _ _ hb2;have a1:atI zs ((i:Int) - 1)=some (.ref b1):=by rw [oK hi,ξ hp,eb1]
   have a2:atI zs ((i:Nat):Int)=some (.ref b2):=bI (by rw [ξ hi,eb2]);clear g1 g2 eb1 eb2;apply fk (fun σ' H'=>∃ (kvs:List (List Key×V)),σ'=[some (.ref l),some (.int x0),some (.int x1),some (.int y0),some (.int y1),some (.ref d),some (.int (i:Nat)),none,none,none,none]/\aj H H'/\H' d=some (.dT kvs)/\bR kvs (Wn.Wk M (i+1))) ?_ ?_
   ·have dv:Wn.vw (Wn.gt M (Wn.pv M.length i)) (Wn.gt M i)=if (Wn.gt M (Wn.pv M.length i)).1=(Wn.gt M i).1 then some ((Wn.gt M (Wn.pv M.length i)).1,if (Wn.gt M i).2<(Wn.gt M (Wn.pv M.length i)).2 then (Wn.gt M i).2 else (Wn.gt M (Wn.pv M.length i)).2) else none:=rfl
    have rN:=Wn.Wk_none (M:=M) (k:=i);have rS:=fun {q:Int×Int}=>Wn.Wk_some (M:=M) (k:=i) (q:=q);have rF:=fun {q:Int×Int}=>cy.fresh (k:=i) (by omega) (q:=q);generalize Wn.gt M (Wn.pv M.length i)=p at hb1 dv rN rS rF;generalize Wn.gt M i=q at hb2 dv rN rS rF;obtain ⟨px,py'⟩:=p;obtain ⟨qx,qy⟩:=q;dsimp only at hb1 hb2 dv;apply aH (SqL.of el6) a2 ?_;apply bH (SqT.of hb2) (v:=.int qx) rfl ?_;apply aH (SqL.of el6) a1 ?_;apply bH (SqT.of hb1) (v:=.int px) rfl ?_;left;by_cases c:qx=px
    ·rw [bC c];rw [if_pos c.symm] at dv;have emn:(if py'<qy then py' else qy)=(if qy<py' then qy else py'):=by split<;>split<;>omega
     apply aH (SqL.of el6) a2 ?_;apply bH (SqT.of hb2) (v:=.int qx) rfl ?_;apply aH (SqL.of el6) a2 ?_;apply bH (SqT.of hb2) (v:=.int qy) rfl ?_;apply aH (SqL.of el6) a1 ?_;apply bH (SqT.of hb1) (v:=.int py') rfl ?_;left;rw [emn];generalize (if qy<py' then qy else py')=mn at dv;refine nwT fun tk H7 stk ntk etk=>?_;have e7:=stk _ _ e6;subst c;refine ⟨d,_,rfl,qw.t (k:=ky (qx,mn)) e7 etk ?_,?_⟩
     ·have h1:=ke6.len;have h2:=Wn.Wk_len M i;exact aR (by omega)
     ·rw [rS dv];exact ⟨_,rfl,(s6.trans stk).later nd0,ag,ke6.put (rF dv)⟩
    ·rw [cx c];rw [if_neg (fun z=>c z.symm)] at dv;rw [rN dv];left;exact ⟨kvs,rfl,s6,e6,ke6⟩
   ·rintro σ' H7 ⟨kvs,rfl,s7,e7,ke7⟩;exact ⟨_,kvs,rfl,s7,e7,ke7⟩
  ·rintro σ' H6 ⟨o6,kvs,rfl,s6,e6,ke6⟩;rw [ly,Wn.Wk_all] at ke6;apply nwL fun lf H7 slf nlf elf=>?_;have nlf0:H lf=none:=s6.free nlf;have s7:=s6.trans slf;have e7:=slf _ _ e6;have dlf:d≠lf:=aC e6 nlf;apply nG ?_;apply ⟨_,_,rfl,⟨by omega,by omega,by omega,by omega⟩,?_⟩;have few:∀ (b a:Int) (w h n:Nat) (y':Int),y'=b+((h:Nat):Int)->(Wn.patc M b a w h++Wn.rowc M y' a n).length<=1600:=fun b a w h n y' hy=>by
    refine ij cy bx ?_ fun q hq=>?_
    ·rw [Ey];refine ⟨Wn.patc_nd _ _ _ _ _,Wn.rowc_nd _ _ _ _,fun p hp q hq z=>?_⟩;subst z;have h1:=Wn.mem_patc.mp hp;have h2:=Wn.mem_rowc.mp hq;omega
    ·rcases EE.mp hq with z | z
     ·exact (Wn.mem_patc.mp z).2.2
     ·exact (Wn.mem_rowc.mp z).2.2.2
   refine cu (fun i σ' H'=>∃ (o8 o9 o10:Option V) (xs:List V),σ'=[some (.ref l),some (.int x0),some (.int x1),some (.int y0),some (.int y1),some (.ref d),o6,some (.ref lf),o8,o9,o10]/\aj H H'/\H' d=some (.dT kvs)/\H' lf=some (.lst xs)/\aJ H' xs (Wn.patc M y0 x0 (x1 - x0).toNat i))
    ⟨none,none,none,[],rfl,s7,e7,elf,aJ.nil⟩ ?_ ?_
   ·rintro i σ' H8 hi ⟨o8,o9,o10,xs,rfl,s8,e8,l8,p8⟩;apply nG ?_;apply ⟨_,_,rfl,⟨by omega,by omega,by omega,by omega⟩,?_⟩;generalize hyy:y0+((i:Nat):Int)=yy;refine cu (fun j σ' H'=>∃ (o10:Option V) (xs:List V),σ'=[some (.ref l),some (.int x0),some (.int x1),some (.int y0),some (.int y1),some (.ref d),o6,some (.ref lf),some (.int yy),some (.bl (Wn.ins M (x0+((j:Nat):Int) - 1,yy))),o10]/\aj H H'/\H' d=some (.dT kvs)/\H' lf=some (.lst xs)/\aJ H' xs (Wn.patc M y0 x0 (x1 - x0).toNat i++Wn.rowc M yy x0 j))
     ⟨o10,xs,?_,s8,e8,l8,by rw [show Wn.rowc M yy x0 0=[] from rfl,E2]; exact p8⟩ ?_ ?_
    ·rw [show x0+((0:Nat):Int) - 1=x0 - 1 by omega,cy.left fun p hp=>(bx' p hp).1.1];rfl
    ·rintro j σ' H9 hj ⟨o10,xs,rfl,s9,e9,l9,p9⟩;have st:=cy.step (x0+((j:Nat):Int)) yy;have rc:=Wn.rowc_succ M yy x0 j;have bj:=few y0 x0 (x1 - x0).toNat i (j+1) yy hyy.symm;rw [rc,<- EF] at bj;have sj:x0+((j+1:Nat):Int) - 1=x0+((j:Nat):Int):=by omega
     rw [sj,rc,<- EF];generalize x0+((j:Nat):Int) - 1=xm at st ⊢;generalize x0+((j:Nat):Int)=xx at st bj ⊢;apply nwT fun tk A1 stk ntk etk=>?_;apply ⟨d,_,rfl,fz.t (k:=ky (xx,yy)) (stk _ _ e9) etk,?_⟩;rw [ke6.val];left
     have ew:(!decide (Wn.ins M (xm,yy)=decide ((xx,yy)∈Wn.W M)))=Wn.ins M (xx,yy):=by
      rw [st]
      cases Wn.ins M (xm,yy)<;>cases decide ((xx,yy)∈Wn.W M)<;>rfl
     rw [ew];refine fk (fun σ' H'=>∃ (xs:List V),σ'=[some (.ref l),some (.int x0),some (.int x1),some (.int y0),some (.int y1),some (.ref d),o6,some (.ref lf),some (.int yy),some (.bl (Wn.ins M (xx,yy))),some (.int xx)]/\aj H H'/\H' d=some (.dT kvs)/\H' lf=some (.lst xs)/\aJ H' xs (Wn.patc M y0 x0 (x1 - x0).toNat i++Wn.rowc M yy x0 j++if Wn.ins M (xx,yy)=true then [(xx,yy)] else [])) ?_ ?_
     ·left;by_cases hin:Wn.ins M (xx,yy)=true
      ·rw [hin];rw [hin,if_pos rfl] at bj;left;have l10:=stk _ _ l9;refine bP l10 ?_;apply nwT fun tc A2 stc ntc etc=>?_;have l11:=stc _ _ l10;left;have p11:=p9.mono (stk.trans stc);refine aV l11 ?_ ?_
       ·have h1:=p11.1;rw [DZ] at bj;exact aR (by omega)
       ·refine ⟨_,rfl,(s9.trans (stk.trans stc)).later nlf0,by rw [ai dlf]; exact stc _ _ (stk _ _ e9),ag,?_⟩;rw [if_pos rfl];exact (p11.upd l11 (by intro ys z; cases z)).snoc (Pt.upd (q:=(xx,yy)) ⟨tc,rfl,etc⟩ l11 (by intro ys z; cases z))
      ·rw [Bool.not_eq_true] at hin;rw [hin];left;exact ⟨xs,rfl,s9.trans stk,stk _ _ e9,stk _ _ l9,by rw [if_neg (by decide),E2]; exact p9.mono stk⟩
     ·rintro σ' A2 ⟨xs,rfl,sA,eA,lA,pA⟩;exact ⟨_,xs,rfl,sA,eA,lA,pA⟩
    ·rintro σ' H9 ⟨o10,xs,rfl,s9,e9,l9,p9⟩;refine ⟨_,_,_,xs,rfl,s9,e9,l9,?_⟩;rw [Wn.patc_succ,hyy];exact p9
   ·rintro σ' H8 ⟨o8,o9,o10,xs,rfl,s8,e8,l8,p8⟩;apply gh l8 p8 fun l' ys qs nl' py' pq sq=>?_;apply k l' ys qs _ (s8.later (s8.free nl')) (s8.free nl') ag py' ⟨sq,pq.nodup_iff.mpr (Wn.patc_nd _ _ _ _ _),fun q=>?_⟩;rw [pq.mem_iff,Wn.mem_patc];refine ⟨fun h=>h.2.2,fun h=>?_⟩;have:=cy.box bx' h
    exact ⟨⟨by omega,by omega⟩,⟨by omega,by omega⟩,h⟩
end
section
variable {cs rs:List Int} {M:List (Int×Int)}
theorem AL {α:Type} {p q r:α->Bool} (h:∀ a,p a=(q a||r a)) (d:∀ a,q a=true->r a=false):∀ l:List α,(l.filter p).length=(l.filter q).length+(l.filter r).length
 | []=>rfl
 | a::l=>by
  have ih:=AL h d l;have d:=d a;rw [Em,Em,Em,h a]
  revert d
  cases q a<;>cases r a<;>simp<;>omega
theorem sM (M:List (Int×Int)) (x y:Int):Wn.ins M (x,y)=decide (((Wn.W M).filter fun q=>decide (q.2=y)&&decide (q.1<=x)).length%2=1):=by
 unfold Wn.ins Wn.rw;dsimp only;rw [List.filter_map,Ξ,List.filter_filter]
 have e:(fun a:Int×Int=>((fun x_1:Int=>decide (x_1<=x))∘fun x:Int×Int=>x.1) a&&decide (a.2=y))=fun q=>decide (q.2=y)&&decide (q.1<=x):=by
  funext a; exact Bool.and_comm _ _
 rw [e]
theorem vY (cy:Wn.Cyc M) {x y:Int} (h:(x,y)∉M):Wn.ins M (x,y - 1)=Wn.ins M (x,y):=by
 have ev:=Wn.cyc_par (fun k=>decide ((Wn.gt M k).2=y)&&decide ((Wn.gt M k).1<=x)) (n:=M.length) (by have:=cy.len; omega);have fm:=Wn.fm_len (fun k=>Wn.vw (Wn.gt M (Wn.pv M.length k)) (Wn.gt M k)) (fun q=>(decide (q.2=y)&&decide (q.1<=x))||(decide (q.2=y - 1)&&decide (q.1<=x))) (ED M.length)
 have same:(ED M.length).filter (fun k=>(decide ((Wn.gt M (Wn.pv M.length k)).2=y)&&decide ((Wn.gt M (Wn.pv M.length k)).1<=x)) != (decide ((Wn.gt M k).2=y)&&decide ((Wn.gt M k).1<=x)))=(ED M.length).filter fun k=>(Wn.vw (Wn.gt M (Wn.pv M.length k)) (Wn.gt M k)).any fun q=>(decide (q.2=y)&&decide (q.1<=x))||(decide (q.2=y - 1)&&decide (q.1<=x)):=by
  refine KS fun k hk=>?_;rw [Et] at hk;have ad:=cy.adj k hk;have m1:Wn.gt M k∈M:=by rw [Wn.gt_eq (ξ hk)]; exact Er hk
  have m2:Wn.gt M (Wn.pv M.length k)∈M:=by rw [Wn.gt_eq (ξ (Wn.pv_lt hk))]; exact Er _
  have n1:¬ (Wn.gt M k).1=x\/¬ (Wn.gt M k).2=y:=by
   by_cases c:(Wn.gt M k).1=x
   ·exact .inr fun c2=>h (by rw [<- c,<- c2]; exact m1)
   ·exact .inl c
  have n2:¬ (Wn.gt M (Wn.pv M.length k)).1=x\/¬ (Wn.gt M (Wn.pv M.length k)).2=y:=by
   by_cases c:(Wn.gt M (Wn.pv M.length k)).1=x
   ·exact .inr fun c2=>h (by rw [<- c,<- c2]; exact m2)
   ·exact .inl c
  generalize Wn.gt M k=q at ad n1;generalize Wn.gt M (Wn.pv M.length k)=p at ad n2;obtain ⟨p1,p2⟩:=p;obtain ⟨q1,q2⟩:=q;unfold Wn.Adj at ad;unfold Wn.vw;dsimp only at ad n1 n2 ⊢;rw [GU,bne_iff_ne,ne_eq,GU,Eu,Eu,decide_eq_true_eq,decide_eq_true_eq,decide_eq_true_eq,decide_eq_true_eq];by_cases c:p1=q1
  ·rw [if_pos c,Kh,HZ,Eu,Eu,decide_eq_true_eq,decide_eq_true_eq,decide_eq_true_eq];dsimp only
   split<;>omega
  ·rw [if_neg c];simp only [Kl,FI,iff_false];omega
 rw [same,<- fm,show (ED M.length).filterMap (fun k=>Wn.vw (Wn.gt M (Wn.pv M.length k)) (Wn.gt M k))=Wn.W M from rfl,AL (p:=fun q:Int×Int=>(decide (q.2=y)&&decide (q.1<=x))||(decide (q.2=y - 1)&&decide (q.1<=x))) (q:=fun q:Int×Int=>decide (q.2=y)&&decide (q.1<=x)) (r:=fun q:Int×Int=>decide (q.2=y - 1)&&decide (q.1<=x)) (fun _=>rfl) (fun a h1=>by
  rw [Eu,decide_eq_true_eq] at h1;rw [Jf,decide_eq_false_iff_not];omega)] at ev
 rw [sM,sM];generalize ((Wn.W M).filter fun q=>decide (q.2=y)&&decide (q.1<=x)).length=a at ev ⊢;generalize ((Wn.W M).filter fun q=>decide (q.2=y - 1)&&decide (q.1<=x)).length=b at ev ⊢;rw [decide_eq_decide];omega
structure Rd (M:List (Int×Int)):Prop where
 off:∀ x y:Int,(x,y)∉M->Wn.ins M (x - 1,y)=Wn.ins M (x,y)/\Wn.ins M (x,y - 1)=Wn.ins M (x,y)/\Wn.ins M (x - 1,y - 1)=Wn.ins M (x,y)
 con:∀ g:Int×Int->Bool,(∀ x y:Int,(x,y)∈M->g (x - 1,y)=g (x,y)/\g (x,y - 1)=g (x,y))->∀ p∈M,∀ q∈M,g p=g q
 lo:∃ a:Int×Int,M.head?=some a/\a∈M/\(∀ p∈M,a.1<=p.1)/\Wn.ins M a=true
 out:∀ q,Wn.ins M q=true->∀ c:Int,(∀ p∈M,c<=p.1)->c<=q.1
theorem tK (td:Sm.cJ (nb cs rs) true M):Rd M:=by
  have cy:=kQ td;have l3:=cy.len;have nW:∀ {x y:Int},(x,y)∉M->Wn.ins M (x - 1,y)=Wn.ins M (x,y)/\Wn.ins M (x - 1,y - 1)=Wn.ins M (x,y - 1):=fun {x y} h=>by
    have e1:=cy.step x y;have e2:=cy.step x (y - 1);rw [cx fun z=>h (cy.ends z).1,Bool.bne_false] at e1;rw [cx fun z=>h (by have:=(cy.ends z).2; rwa [show y - 1+1=y by omega] at this),Bool.bne_false] at e2;exact ⟨e1.symm,e2.symm⟩
  refine ⟨fun x y h=>⟨(nW h).1,vY cy h,(nW h).2.trans (vY cy h)⟩,fun g hg p hp q hq=>?_,?_,fun q hq c hc=>?_⟩
  · have st:∀ i,i<M.length->g (Wn.gt M i)=g (Wn.gt M 0):=by
      intro i
      induction i with
      | zero=>exact fun _=>rfl
      | succ i ih =>
        intro hi;rw [<- ih (by omega)];have ad:=cy.adj (i+1) hi;have e:Wn.pv M.length (i+1)=i:=by unfold Wn.pv; rw [if_neg (by omega)]; omega
        rw [e] at ad;have m1:Wn.gt M i∈M:=by rw [Wn.gt_eq (ξ (by omega))]; exact Er _
        have m2:Wn.gt M (i+1)∈M:=by rw [Wn.gt_eq (ξ hi)]; exact Er _
        generalize Wn.gt M i=p at ad m1;generalize Wn.gt M (i+1)=q at ad m2;obtain ⟨p1,p2⟩:=p;obtain ⟨q1,q2⟩:=q;have g1:=hg _ _ m1;have g2:=hg _ _ m2;unfold Wn.Adj at ad;dsimp only at ad;rcases ad with ⟨rfl,e | e⟩ | ⟨rfl,e | e⟩
        · rw [<- g2.2,e,show p2+1 - 1=p2 by omega]
        · rw [<- g1.2,e,show q2+1 - 1=q2 by omega]
        · rw [<- g2.1,e,show p1+1 - 1=p1 by omega]
        · rw [<- g1.1,e,show q1+1 - 1=q1 by omega]
    have all:∀ p∈M,g p=g (Wn.gt M 0):=fun p hp=>by
      obtain ⟨i,hi⟩:=Ep.mp hp;rw [<- Wn.gt_eq hi];exact st i (Aw.mp hi).1
    rw [all p hp,all q hq]
  · obtain ⟨a,b,l,rfl,o,hm,hb⟩:=td.rd rfl
    have l3:=cy.len;have hle:∀ p∈a::b::l,a.1<=p.1:=fun p hp=>by have:=hm p hp; unfold Ts.ple at this; omega
    refine ⟨a,rfl,Θ,hle,?_⟩;have h0:0<(a::b::l).length:=by simp
    have ad:=cy.adj 0 h0;have g0:Wn.gt (a::b::l) 0=a:=Wn.gt_eq rfl;have hlast:Wn.pv (a::b::l).length 0<(a::b::l).length:=Wn.pv_lt h0;have gl:=Wn.gt_eq (ξ hlast);have ml:=Er hlast;rw [<- gl] at ml;have nb':Wn.gt (a::b::l) (Wn.pv (a::b::l).length 0)≠b:=fun e=>by
      have e1:Wn.gt (a::b::l) 1=b:=Wn.gt_eq rfl;have:=Wn.gt_inj cy.nd hlast (show 1<(a::b::l).length by omega) (e.trans e1.symm)
      unfold Wn.pv at this;rw [if_pos rfl] at this;omega
    have hw:(a.1,a.2)∈Wn.W (a::b::l):=by
      unfold Wn.W;rw [Hg];refine ⟨0,Et.mpr h0,?_⟩;rw [g0];generalize Wn.gt (a::b::l) (Wn.pv (a::b::l).length 0)=z at ad ml nb';rw [g0] at ad;have hz:=hm z ml;obtain ⟨zx,zy⟩:=z;obtain ⟨ax,ay⟩:=a;unfold Wn.Adj at ad;dsimp only at ad hz hb;have hne:¬ (zx=ax+1/\zy=ay):=fun e=>nb' (by rw [hb,e.1,e.2]);unfold Ts.ple at hz;dsimp only at hz;have e1:zx=ax:=by omega
      have e2:zy=ay+1:=by omega
      subst e1 e2;unfold Wn.vw;rw [if_pos rfl];dsimp only;rw [if_pos (by omega)]
    have st:=cy.step a.1 a.2;rw [cy.left hle,bC hw] at st;exact st
  · exact (cy.box (x0:=c) (x1:=(cs.length:Int)+1) (y0:=0) (y1:=(rs.length:Int)+1) (fun p hp=>by
      have:=fY td p hp
      unfold dz at this;exact ⟨⟨hc p hp,by omega⟩,by omega⟩) hq).1.1
section
variable {N:List (Int×Int)}
theorem Rd.side (A:Rd M) (B:Rd N) (dj:∀ p∈M,p∉N) {p:Int×Int} (hp:p∈M) (h:Wn.ins N p=true):∀ q∈M,Wn.ins N q=true:=fun q hq=>by
 rw [A.con (Wn.ins N) (fun x y hm=>⟨(B.off x y (dj _ hm)).1,(B.off x y (dj _ hm)).2.1⟩) q hq p hp];exact h
theorem Rd.one (A:Rd M) (B:Rd N) (dj:∀ p∈M,p∉N):(∀ q∈M,Wn.ins N q=true)->(∀ q∈N,Wn.ins M q=true)->False:=fun h1 h2=>by
 obtain ⟨a,_,ha,la,_⟩:=A.lo;obtain ⟨b,_,hb,lb,_⟩:=B.lo;have e1:=(B.off a.1 a.2 (dj a ha)).1;rw [h1 a ha] at e1;have e2:=(A.off b.1 b.2 (fun z=>dj b z hb)).1;rw [h2 b hb] at e2;have:=B.out _ e1 b.1 lb
 have:=A.out _ e2 a.1 la
 dsimp only at *;omega
theorem Rd.first (A:Rd M) (B:Rd N) (dj:∀ p∈M,p∉N) {x y:Int} (hm:Wn.ins M (x,y)=true) (hn:Wn.ins N (x,y)=true):(∀ q∈M,Wn.ins N q=true)\/∀ q∈N,Wn.ins M q=true:=by
 obtain ⟨a,_,ha,la,_⟩:=A.lo
 have key:∀ (k:Nat) (x:Int),x - a.1<k->Wn.ins M (x,y)=true->Wn.ins N (x,y)=true->(∀ q∈M,Wn.ins N q=true)\/∀ q∈N,Wn.ins M q=true:=by
  intro k
  induction k with
  | zero => intro x hx h1 _; have := A.out _ h1 a.1 la; dsimp only at this; omega
  | succ k ih =>
   intro x hx h1 h2;by_cases c1:(x,y)∈M
   ·exact .inl (A.side B dj c1 h2)
   ·by_cases c2:(x,y)∈N
    ·exact .inr (B.side A (fun p hp z=>dj p z hp) c2 h1)
    ·exact ih (x - 1) (by omega) ((A.off x y c1).1.trans h1) ((B.off x y c2).1.trans h2)
 exact key (x - a.1+1).toNat x (by have:=A.out _ hm a.1 la; dsimp only at this; omega) hm hn
theorem Rd.sub (A:Rd M) (B:Rd N) (dj:∀ p∈M,p∉N) (h:∀ q∈M,Wn.ins N q=true) {x y:Int} (hm:Wn.ins M (x,y)=true):Wn.ins N (x,y)=true:=by
 obtain ⟨a,_,ha,la,_⟩:=A.lo
 have key:∀ (k:Nat) (x:Int),x - a.1<k->Wn.ins M (x,y)=true->Wn.ins N (x,y)=true:=by
  intro k
  induction k with
  | zero => intro x hx h1; have := A.out _ h1 a.1 la; dsimp only at this; omega
  | succ k ih =>
   intro x hx h1;by_cases c1:(x,y)∈M
   ·exact h _ c1
   ·by_cases c2:(x,y)∈N
    ·exact (A.one B dj h (B.side A (fun p hp z=>dj p z hp) c2 h1)).elim
    ·exact (B.off x y c2).1.symm.trans (ih (x - 1) (by omega) ((A.off x y c1).1.trans h1))
 exact key (x - a.1+1).toNat x (by have:=A.out _ hm a.1 la; dsimp only at this; omega) hm
theorem Rd.less (A:Rd M) (B:Rd N) (dj:∀ p∈M,p∉N) (h:∀ q∈M,Wn.ins N q=true) {C D:List (Int×Int)} (ic:iO M C) (id':iO N D):C.length<D.length:=by
 obtain ⟨a,_,ha,la,_⟩:=A.lo;have e1:=(B.off a.1 a.2 (dj a ha)).1;rw [h a ha] at e1;have n1:(a.1 - 1,a.2)∉C:=fun z=>by
  have:=A.out _ ((ic.ms _).mp z) a.1 la
  dsimp only at this;omega
 have:=j3 ((a.1 - 1,a.2)::C) D (ER.mpr ⟨n1,ic.nd⟩) fun q hq=>by
  rcases B_.mp hq with rfl | hq
  ·exact (id'.ms _).mpr e1
  ·exact (id'.ms q).mpr (A.sub B dj h ((ic.ms q).mp hq))
 rw [C_] at this;omega
end
end
section
variable {K:W.Frag} {σ:L2.St} {H:Hp} {Q:VK} {te:TE} {cap:List (Option Nat)} {l:Δ}
theorem oY {a:Δ} {xs:List V} (R:Nat->Δ->Hp->Prop) (hs:SqL K H a xs) (hz:xs.length<=1000) (hl:H l=none) (mS:∀ i b H1 H2,aj H1 H2->R i b H1->R i b H2) (mU:∀ i b H1 ys o,H1 l=some (.lst ys)->b≠l->R i b H1->R i b (upd H1 l o))
  (step:∀ (i:Nat) x o H' (Q':VK),xs[i]?=some x->aj H H'->(∀ b H5,aj H' H5->H' b=none->R i b H5->Q' (.ref b) H5)->te (((cT (none::cap) σ).set 0 o).set 0 (some x)) H' Q')
  (fin:∀ (as:List Δ) H',aj H H'->H' l=some (.lst (as.map V.ref))->as.length=xs.length->(∀ (i:Nat) b,as[i]?=some b->b≠l/\H b=none/\R i b H')->Q (.ref l) H'):fu (Itl K a) (cR 0) fX te (none::cap) l σ H Q:=by
 refine ⟨xs.length,fun i ys σ' H'=>(∃ as:List Δ,ys=as.map V.ref/\as.length=i/\∀ (j:Nat) b,as[j]?=some b->b≠l/\H b=none/\R j b H')/\(∃ o,σ'=(cT (none::cap) σ).set 0 o)/\aj H H'/\H' l=some (.lst ys),⟨⟨[],rfl,rfl,fun j b e=>by simp at e⟩,⟨none,rfl⟩,aj.new hl,ag⟩,?_,?_⟩
 ·rintro i ys σ' H' hi ⟨⟨as,rfl,la,hR⟩,⟨o,rfl⟩,s,e⟩;refine ⟨⟨xs,xs[i],s.seq hs,by simp [hi]⟩,fun x H2 y=>?_⟩;obtain ⟨e2,y⟩:=y;subst e2;have hx:=y xs (s.seq hs);refine bY (da (jW ?_));refine step i x o H2 _ hx s fun b H5 s5 nb r=>⟨s5 _ _ e,by rw [Ξ]; exact cN (by omega),?_⟩
  have bl:b≠l:=(aC e nb).symm;refine ⟨⟨as++[b],by rw [Ef]; rfl,by rw [DZ,la]; rfl,fun j c ej=>?_⟩,⟨_,HB ..⟩,(s.trans s5).later hl,ag⟩;by_cases hj:j<as.length
  ·rw [FO hj] at ej;obtain ⟨q1,q2,q3⟩:=hR j c ej;exact ⟨q1,q2,mU j c _ _ _ (s5 _ _ e) q1 (mS j c _ _ s5 q3)⟩
  ·rw [E1 (by omega)] at ej
   have hj0:j - as.length=0:=by
    have hh:=(Aw.mp ej).1;rw [EO] at hh;omega
   have hji:j=i:=by omega
   rw [hj0] at ej
   cases ej;subst hji;exact ⟨bl,s.free nb,mU j b _ _ _ (s5 _ _ e) bl r⟩
 ·rintro ys σ' H' ⟨⟨as,rfl,la,hR⟩,_,s,e⟩;exact ⟨⟨xs,s.seq hs,H_ rfl⟩,fin as H' s e la hR⟩
end
section
variable {P:D_} {w:Eh} {K:W.Frag} {mg:Str->Option ς} {base:E5} {t:Ad}
structure dW (H0 H:Hp) (d:Δ) (M:Int×Int->List Int) (n:Nat):Prop where
 nd:H0 d=none
 ob:∃ kvs:List (List Key×V),H d=some (.dT kvs)/\kvs.length<=n/\(∀ q,aT kvs (ky q)=none->M q=[]) /\
  (∀ k v,aT kvs k=some v->∃ q l,k=ky q/\v=.ref l/\l≠d/\H0 l=none/\H l=some (.lst ((M q).map V.int)))/\∀ k k' v,aT kvs k=some v->aT kvs k'=some v->k=k'
theorem dW.new {H0 H:Hp} {d:Δ} (n:H0 d=none) (e:H d=some (.dT [])):dW H0 H d (fun _=>[]) 0 :=
 ⟨n,[],e,Av _,fun _ _=>rfl,fun s v h=>(by cases h),fun s s' v h=>(by cases h)⟩
theorem dW.mono {H0 H H':Hp} {d:Δ} {M:Int×Int->List Int} {n:Nat} (h:dW H0 H d M n) (m:aj H H'):dW H0 H' d M n:=by
 obtain ⟨kvs,h1,h2,h4,h5,h6⟩:=h.ob;refine ⟨h.nd,kvs,m _ _ h1,h2,h4,fun k v hv=>?_,h6⟩;obtain ⟨y,l,e1,e2,q1,q2,q3⟩:=h5 k v hv;exact ⟨y,l,e1,e2,q1,q2,m _ _ q3⟩
theorem dW.le {H0 H:Hp} {d:Δ} {M:Int×Int->List Int} {n m:Nat} (h:dW H0 H d M n) (hm:n<=m):dW H0 H d M m :=
 let ⟨kvs,h1,h2,h3⟩:=h.ob; ⟨h.nd,kvs,h1,Ew h2 hm,h3⟩
theorem dW.off0 {H0 H1 H:Hp} {d:Δ} {M:Int×Int->List Int} {n:Nat} (h:dW H0 H d M n) (f:∀ a,H0 a=none->H1 a=none):dW H1 H d M n:=by
 obtain ⟨kvs,h1,h2,h4,h5,h6⟩:=h.ob;refine ⟨f _ h.nd,kvs,h1,h2,h4,fun k v hv=>?_,h6⟩;obtain ⟨y,l,e1,e2,q1,q2,q3⟩:=h5 k v hv;exact ⟨y,l,e1,e2,q1,f _ q2,q3⟩
noncomputable def vA (M:Int×Int->List Int) (y:Int×Int) (x:Int):Int×Int->List Int:=fun z=>if z=y then M z++[x] else M z
theorem dW.add {H0 H:Hp} {d l:Δ} {M:Int×Int->List Int} {n:Nat} {kvs:List (List Key×V)} {y:Int×Int} {x:Int} (h:dW H0 H d M n) (e:H d=some (.dT kvs)) (hv:aT kvs (ky y)=some (.ref l)):H l=some (.lst ((M y).map V.int))/\dW H0 (L2.upd H l (.lst ((M y).map V.int++[.int x]))) d (vA M y x) n:=by
  obtain ⟨kvs',h1,h2,h4,h5,h6⟩:=h.ob;rw [e] at h1
  cases h1;obtain ⟨y',l',e1,e2,q1,q2,q3⟩:=h5 _ _ hv;have e1:=iW e1;injection e2 with e2;subst e1 e2;refine ⟨q3,h.nd,kvs,by rw [ai q1.symm]; exact e,h2,fun z hz=>?_,fun k v hk=>?_,h6⟩
  · unfold vA
    rw [if_neg (fun c=>by rw [c,hv] at hz; cases hz)];exact h4 z hz
  · unfold vA
    obtain ⟨z,l2,e3,e4,r1,r2,r3⟩:=h5 k v hk;by_cases hz:z=y
    · subst hz e3
      rw [hv] at hk
      cases hk;injection e4 with e4;subst e4;exact ⟨z,l,rfl,rfl,q1,q2,by rw [if_pos rfl,ag,Ef]; rfl⟩
    · have:l2≠l:=fun c=>hz (by
        have:=h6 k (ky y) v hk (by rw [hv,e4,c])
        rw [e3] at this;exact iW this)
      exact ⟨z,l2,e3,e4,r1,r2,by rw [if_neg hz,ai this]; exact r3⟩
theorem dW.put {H0 H:Hp} {d l:Δ} {M:Int×Int->List Int} {n:Nat} {kvs:List (List Key×V)} {y:Int×Int} (h:dW H0 H d M n) (e:H d=some (.dT kvs)) (hv:aT kvs (ky y)=none) (hl:H l=some (.lst [])) (n0:H0 l=none) (nd:l≠d) (fr:∀ k v,aT kvs k=some v->v≠.ref l):dW H0 (L2.upd H d (.dT (b7 kvs (ky y) (.ref l)))) d M (n+1):=by
 obtain ⟨kvs',h1,h2,h4,h5,h6⟩:=h.ob;rw [e] at h1
 cases h1;have hM:=h4 y hv;have vp:∀ k,aT (b7 kvs (ky y) (.ref l)) k=if k=ky y then some (.ref l) else aT kvs k:=fun k=>iM _ _ _ _
 refine ⟨h.nd,_,ag,by have:=cL kvs (ky y) (.ref l); omega,fun z hz=>?_,fun k v hk=>?_,fun k k' v hk hk'=>?_⟩
 ·rw [vp] at hz;by_cases c:ky z=ky y
  ·rw [if_pos c] at hz; cases hz
  ·rw [if_neg c] at hz; exact h4 z hz
 ·rw [vp] at hk;by_cases c:k=ky y
  ·rw [if_pos c] at hk
   cases hk;exact ⟨y,l,c,rfl,nd,n0,by rw [ai nd,hM]; exact hl⟩
  ·rw [if_neg c] at hk;obtain ⟨z,l2,e3,e4,r1,r2,r3⟩:=h5 k v hk;exact ⟨z,l2,e3,e4,r1,r2,by rw [ai r1]; exact r3⟩
 ·rw [vp] at hk hk';by_cases c:k=ky y<;>by_cases c':k'=ky y
  ·rw [c,c']
  ·rw [if_pos c] at hk;rw [if_neg c'] at hk'
   cases hk;exact absurd rfl (fr k' _ hk')
  ·rw [if_neg c] at hk;rw [if_pos c'] at hk'
   cases hk';exact absurd rfl (fr k _ hk)
  ·rw [if_neg c] at hk;rw [if_neg c'] at hk';exact h6 k k' v hk hk'
noncomputable def off (H:Hp) (d:Δ):Hp:=fun b=>if b=d then none else H b
theorem fc {H:Hp} {d b:Δ} (h:b≠d):off H d b=H b:=if_neg h
theorem pO {H:Hp} {d:Δ}:off H d d=none:=if_pos rfl
noncomputable def nums (Cs:List (List (Int×Int))) (os:List Nat) (q:Int×Int):List Int:=(os.filter fun i=>decide (q∈Cs.getD i [])).map fun i=>((i:Nat):Int)
theorem ux (Cs:List (List (Int×Int))) (os:List Nat) (i:Nat) (q:Int×Int):nums Cs (os++[i]) q=if q∈Cs.getD i [] then nums Cs os q++[((i:Nat):Int)] else nums Cs os q:=by
 unfold nums;rw [HC,Ef];by_cases h:q∈Cs.getD i []
 ·rw [if_pos h,Em,if_pos (bC h)]; rfl
 ·rw [if_neg h,Em,if_neg (by rw [cx h]; decide)]; simp
theorem pN (Cs:List (List (Int×Int))) (os:List Nat) (q:Int×Int):(nums Cs os q).length<=os.length:=by
 unfold nums;rw [Ξ];exact Gq _ _
def gU (Ms Cs:List (List (Int×Int))):Prop:=Cs.length=Ms.length/\∀ (i:Nat) M C,Ms[i]?=some M->Cs[i]?=some C->iO M C
theorem fE {α γ:Type}:∀ {as:List α} {R:Nat->α->γ->Prop},(∀ i b,as[i]?=some b->∃ C,R i b C)->∃ Cs:List γ,Cs.length=as.length/\∀ i b C,as[i]?=some b->Cs[i]?=some C->R i b C
 | [],_,_=>⟨[],rfl,fun i b C e=>by simp at e⟩
 | a::as,R,h=>by
  obtain ⟨C0,h0⟩:=h 0 a rfl;obtain ⟨Cs,l,hs⟩:=fE (as:=as) (R:=fun i=>R (i+1)) fun i b e=>h (i+1) b (by simpa using e);refine ⟨C0::Cs,by rw [C_,C_,l],fun i b C e1 e2=>?_⟩
  cases i with
  | zero => simp only [E3, FN] at e1 e2; rw [<- e1, <- e2]; exact h0
  | succ i => exact hs i b C (by simpa using e1) (by simpa using e2)
noncomputable abbrev m7:Pos:=⟨116,48,116,81⟩
noncomputable abbrev m9:Str:=("numbers_around"++".<locals>.":Str)++"<lambda>"
noncomputable def szC (Cs:List (List (Int×Int))) (i:Nat):Int:=((Cs.getD i []).length:Nat)
def Bm (M:List (Int×Int)):Prop:=M.length<=1681/\Wn.Cyc M/\∀ p∈M,(0<=p.1/\p.1<=40)/\0<=p.2/\p.2<=40
theorem aJ.butB {H H':Hp} {P:Δ} {xs:List V} {ps:List (Int×Int)} {tb:Array ς} (s:eJ P H H') (e:H P=some (.tbl tb)) (h:aJ H xs ps):aJ H' xs ps:=⟨h.1,fun i v q h1 h2=>by
 obtain ⟨a,e1,ha⟩:=h.2 i v q h1 h2;exact ⟨a,e1,s _ _ (aZ ha e (by intro z; cases z)) ha⟩⟩
def sp_aa (P:Δ):Sp:=fun vs H Q _=>∃ (ll:Δ) (ys:List V) (Ms:List (List (Int×Int))),vs=[.ref ll]/\H ll=some (.lst ys)/\gD H ys Ms/\Ms.length<=1000/\(∀ M∈Ms,Bm M)/\dZ P m7 m9 H /\
 ∀ d Cs os H',eJ P H H'->(Hit P m7 m9 H->aj H H')->Hit P m7 m9 H'->gU Ms Cs->os.Perm (ED Ms.length)->os.Pairwise (fun i j=>szC Cs i<=szC Cs j)->dW H H' d (nums Cs os) 2000000->Q (.ref d) H'
theorem ok_aa (T:Txt K mg t) (KB:K.In base) (hB:base.BuiltinsAt mg t.tp_numbersaround):aW P w K mg base CX0 7 t.f_aa t.d_aa ["lines"] (sp_aa t.tp_numbersaround):=by
  have lC:=W.codeHd_of_K KB T.th_numbersaround;have lB:=hB;refine T.F_aa.okT sc_aa (fun vs H Q E h=>?_) (fun cdv A outer s H vs Q E hcd hr h=>?_)
  · obtain ⟨ll,ys,Ms,rfl,_⟩:=h; rfl
  · obtain ⟨ll,ys,Ms,rfl,el,py,hz,hM,tb,k⟩:=h
    have lcode:cdv=.ref t.cd_numbersaround:=by rw [<- hcd]; exact T.tc_numbersaround
    have ly:=py.1;refine aN (fg (i:=1) sc_aa.nd rfl (I_ rfl) (bK (N:=["line"]) (cap:=[none]) rfl ⟨rfl,rfl,rfl,rfl,rfl,rfl⟩ (bz (pv 0)) (fun _ _ _=>(aw (i:=0) (show (["line"]:List Str).Nodup by decide +kernel) rfl (E_ rfl))) (fun _ _ _=>bL) (fun _ _ _=>(au (ok_aF T) (rmo hr) rfl T.mg_aF T.F_aF.kp T.b_aF .nil aS (aa (pv 0) ae))))) fun _ _=>aN (aO 2 sc_aa.nd kc) fun _ _=>aN (bX En rfl (bz (w9 (k:=0) (x:="place") (N:=["insides"]) (cap:=[1]) (rmo hr) rfl T.no_sorted rfl T.no_ai ⟨rfl,rfl,rfl,rfl,rfl,rfl,rfl,rfl⟩ lcode lC lB rfl (fun _ _ _ _=>rfl) (aa (aq (bu K rfl) rfl T.no_len (by rfl) (aa (pv 0) ae)) ae) (fun _ _ _ _ _ _=>(aq (bu K rfl) rfl T.no_len (by rfl) (aa (aF (aA K rfl) (pv 1) (pv 0)) ae))))) (aw (i:=3) sc_aa.nd rfl (E_ rfl)) (ao (bX En rfl (bz (aF (aA K rfl) (pv 1) (pv 3))) (aw (i:=4) sc_aa.nd rfl (E_ rfl)) (ao (bo (cV EM Ed Ec ba (w6 (ie hr) (pv 2) (pv 4) (cg ae) ⟨rfl,rfl,rfl,rfl⟩) (aa (pv 3) ae))))))) fun _ _=>dY (aD (pv 2)) fun _ _=>?_;apply ⟨⟨_,SqL.of el⟩,fun li ni=>?_⟩;refine oY (fun i b H'=>∃ zs C,H' b=some (.lst zs)/\aJ H' zs C/\∀ M,Ms[i]?=some M->iO M C) (SqL.of el) (by rw [ly]; exact hz) ni
      (fun i b H1 H2 s ⟨zs,C,h1,h2,h3⟩=>⟨zs,C,s _ _ h1,h2.mono s,h3⟩) (fun i b H1 ys o e hb ⟨zs,C,h1,h2,h3⟩=>⟨zs,C,by rw [ai hb]; exact h1,h2.upd e (by intro ys z; cases z),h3⟩) (fun i x o H' Q' hx s1 q=>?_) (fun as H1 s1 e1 la hR=>?_)
    · obtain ⟨hi,ex⟩:=Aw.mp hx
      have hiM:i<Ms.length:=by rw [<- ly]; exact hi
      obtain ⟨l,zs,rfl,hl,pz⟩:=py.2 i x _ hx (ξ hiM);obtain ⟨m1,cy,bx⟩:=hM _ (Er hiM);apply ⟨l,zs,Ms[i],rfl,s1 _ _ hl,pz.mono s1,m1,cy,bx,fun l' zs' C H2 s2 n2 e2 p2 ic=>?_⟩;refine q l' H2 s2 n2 ⟨zs',C,e2,p2,fun M hMi=>?_⟩;rw [ξ hiM] at hMi
      cases hMi;exact ic
    obtain ⟨Cs,lCs,hCs⟩:=fE (R:=fun i b C=>∃ zs,H1 b=some (.lst zs)/\aJ H1 zs C/\∀ M,Ms[i]?=some M->iO M C) fun i b e=>by
      obtain ⟨_,_,zs,C,h1,h2,h3⟩:=hR i b e;exact ⟨C,zs,h1,h2,h3⟩
    have lCM:Cs.length=Ms.length:=by rw [lCs,la,ly]
    have icL:gU Ms Cs:=⟨lCM,fun i M C h1 h2=>by
      have hi:i<as.length:=by rw [<- lCs]; exact (Aw.mp h2).1
      obtain ⟨zs,_,_,h3⟩:=hCs i _ C (ξ hi) h2;exact h3 M h1⟩
    have fewC:∀ (i:Nat) C,Cs[i]?=some C->C.length<=1600/\C.Nodup:=fun i C h=>by
      have hi:i<Ms.length:=by rw [<- lCM]; exact (Aw.mp h).1
      have ic:=icL.2 i _ C (ξ hi) h;obtain ⟨m1,cy,bx⟩:=hM _ (Er hi);exact ⟨ij cy bx ic.nd fun q hq=>(ic.ms q).mp hq,ic.nd⟩
    left;intro d nd;have s2:=s1.trans (aj.new (o:=HO.dT []) nd);have s12:=aj.new (o:=HO.dT []) nd;have e2:=ag (H:=H1) (a:=d) (o:=HO.dT []);generalize upd H1 d (HO.dT [])=H2 at s2 s12 e2 ⊢;have tb2:=tb.mono s2;obtain ⟨ps2,tP2⟩:=tb2.at
    have nd0:H d=none:=s1.free nd;apply uP ?_;apply bA (s2 _ _ el) ?_;refine ⟨ys.length,szC Cs,rfl,by omega,tb2,fun i hi H3 s3 Q1 q1=>?_,fun l os H3 s3 sh3 ht3 nl el3 pm pw=>?_⟩
    · have hia:i<as.length:=by omega
      have hic:i<Cs.length:=by omega
      obtain ⟨zs,h1,h2,_⟩:=hCs i _ _ (ξ hia) (ξ hic);have e13:H3 li=some (.lst (as.map V.ref)):=s3 _ _ (aZ (s12 _ _ e1) tP2 (by intro z; cases z)) (s12 _ _ e1);have h13:H3 as[i]=some (.lst zs):=s3 _ _ (aZ (s12 _ _ h1) tP2 (by intro z; cases z)) (s12 _ _ h1);apply aH (SqL.of e13) (v:=.ref as[i]) (bI (by rw [EU,ξ hia]; rfl)) ?_;apply bA h13 ?_;rw [h2.1];have:=q1 H3 (aj.refl _)
      unfold szC at this;rw [Fb,ξ hic] at this;exact this
    · rw [ly] at pm
      have dP:d≠t.tp_numbersaround:=aZ e2 tP2 (by intro z; cases z);have e3:H3 d=some (.dT []):=s3 _ _ dP e2;have dl:d≠l:=aC e2 nl;have up:∀ a o,a≠t.tp_numbersaround->H2 a=some o->H3 a=some o:=s3;have l3:∀ {a:Δ} {zs:List V},H1 a=some (.lst zs)->off H3 d a=some (.lst zs):=fun {a zs} h=>by
        rw [fc (aC h nd)];exact s3 _ _ (aZ (s12 _ _ h) tP2 (by intro z; cases z)) (s12 _ _ h)
      have ei:=l3 e1
      have hit:Hit t.tp_numbersaround m7 m9 (off H3 d):=by
        obtain ⟨ps,c,a1,a2,a3,a4⟩:=ht3;exact ⟨ps,c,by rw [fc dP.symm]; exact a1,a2,a3,by rw [fc (aZ a4 e3 (by intro z; cases z))]; exact a4⟩
      have el4:off H3 d l=some (.lst (os.map fun i=>V.int ((i:Nat):Int))):=by rw [fc dl.symm]; exact el3
      have hCy:∀ (i:Nat) C,Cs[i]?=some C->∃ b zs,as[i]?=some b/\off H3 d b=some (.lst zs)/\aJ (off H3 d) zs C:=fun i C h=>by
        have hia:i<as.length:=by rw [<- lCs]; exact (Aw.mp h).1
        obtain ⟨zs,h1,h2,_⟩:=hCs i _ _ (ξ hia) h;refine ⟨_,zs,ξ hia,l3 h1,h2.1,fun j v q g1 g2=>?_⟩;obtain ⟨a,ea,ha⟩:=h2.2 j v q g1 g2;exact ⟨a,ea,by rw [fc (aC ha nd)]; exact s3 _ _ (aZ (s12 _ _ ha) tP2 (by intro z; cases z)) (s12 _ _ ha)⟩
      have n0:=dW.new (H0:=off H3 d) pO e3;have sy:aj (off H3 d) H3:=fun a o e=>by
        by_cases c:a=d
        · rw [c,pO] at e; cases e
        · rwa [fc c] at e
      have lo:os.length=Ms.length:=by rw [pm.length_eq,Eo]
      have end_:∀ H',aj (off H3 d) H'->dW (off H3 d) H' d (nums Cs os) 2000000->Q (.ref d) H':=fun H' s' n'=>by
        refine k d Cs os H' (fun a o ha e=>?_) (fun hh a o e=>?_) (hit.mono s') icL pm pw (n'.off0 fun a ha=>?_)
        · refine s' _ _ ?_
          rw [fc (aC e nd0)];exact s3 _ _ ha (s2 _ _ e)
        · refine s' _ _ ?_
          rw [fc (aC e nd0)];exact sh3 (hh.mono s2) _ _ (s2 _ _ e)
        · cases q:H a with
          | none=>rfl
          | some o =>
            by_cases c:a=t.tp_numbersaround
            · obtain ⟨ps,_,a1,_⟩:=hit
              rw [c,a1] at ha; cases ha
            · have:=s3 _ _ c (s2 _ _ q)
              have h2:off H3 d a=H3 a:=fc (aC q nd0);rw [<- h2,ha] at this
              cases this
      clear up k sh3 s3 ht3 el3 tb tb2 e2 s1 s2 s12 py hR hCs e1 nl tP2;generalize off H3 d=Hy at *;refine ⟨l,rfl,⟨_,SqL.of (sy _ _ el4)⟩,?_⟩;refine cK (a:=l) (xs:=os.map fun i=>V.int ((i:Nat):Int)) (fun i σ' H'=>∃ (o3 o4:Option V),σ'=[some (.ref ll),some (.ref li),some (.ref d),o3,o4]/\aj Hy H'/\dW Hy H' d (nums Cs (os.take i)) (i*1600))
        ⟨none,none,rfl,sy,n0⟩ (fun i σ' H' _ ⟨_,_,_,z,_⟩=>SqL.of (z _ _ el4)) ?_ ?_
      · rintro i v σ' H4 hv ⟨o3,o4,rfl,s4,n4⟩
        rw [EU] at hv;obtain ⟨m,hm,rfl⟩:=G6.mp hv;have hio:=(Aw.mp hm).1;have hmM:m<Ms.length:=Et.mp (pm.mem_iff.mp (EW hm));have hmC:m<Cs.length:=by omega
        obtain ⟨b,zs,hb,eb,pz⟩:=hCy m _ (ξ hmC);obtain ⟨fC,ndC⟩:=fewC m _ (ξ hmC);have gC:Cs.getD m []=Cs[m]:=by rw [Fb,ξ hmC]; rfl
        have tk:os.take (i+1)=os.take i++[m]:=by rw [Ft,hm]; rfl
        have nmN:=ux Cs (os.take i) m;rw [<- tk,gC] at nmN;have lnm:=pN Cs (os.take i);have ltk:(os.take i).length<=1000:=by rw [FP]; omega
        generalize Cs[m]=C at pz fC ndC nmN;generalize nums Cs (os.take i)=B at *;apply aH (SqL.of (s4 _ _ ei)) (v:=.ref b) (bI (by rw [EU,hb]; rfl)) ?_;apply ⟨⟨_,SqL.of (s4 _ _ eb)⟩,?_⟩;refine cK (a:=b) (xs:=zs) (fun j σ' H'=>∃ (o4:Option V),σ'=[some (.ref ll),some (.ref li),some (.ref d),some (.int ((m:Nat):Int)),o4]/\aj Hy H'/\dW Hy H' d (fun q=>if q∈C.take j then B q++[((m:Nat):Int)] else B q) (i*1600+j))
          ⟨o4,rfl,s4,by rw [Gm]; exact n4⟩ (fun i σ' H' _ ⟨_,_,z,_⟩=>SqL.of (z _ _ eb)) ?_ ?_
        · rintro j v σ' H5 hv ⟨o4,rfl,s5,n5⟩
          have hj:=(Aw.mp hv).1;have hjC:j<C.length:=by rw [<- pz.1]; exact hj
          obtain ⟨ca,rfl,hca⟩:=pz.2 j v _ hv (ξ hjC);have tkC:C.take (j+1)=C.take j++[C[j]]:=by rw [Ft,ξ hjC]; rfl
          have nin:C[j]∉C.take j:=fun z=>by
            obtain ⟨i',hi'⟩:=Ep.mp z;rw [List.getElem?_take] at hi';by_cases c:i'<j
            · rw [if_pos c] at hi'
              obtain ⟨h1,h2⟩:=Aw.mp hi';have:=(JQ ndC).mp h2
              omega
            · rw [if_neg c] at hi'; cases hi'
          have eN:vA (fun q=>if q∈C.take j then B q++[((m:Nat):Int)] else B q) C[j] ((m:Nat):Int)=fun q=>if q∈C.take (j+1) then B q++[((m:Nat):Int)] else B q:=by
            funext q
            unfold vA;dsimp only;rw [tkC];by_cases c:q=C[j]
            · subst c
              rw [if_pos rfl,if_neg nin,if_pos (D6 _ (Ax.mpr rfl))]
            · rw [if_neg c]
              by_cases c2:q∈C.take j
              · rw [if_pos c2,if_pos (Ea _ c2)]
              · rw [if_neg c2,if_neg (by rw [EE,Ax]; exact fun z=>z.elim c2 c)]
          have lN:∀ q,((fun q=>if q∈C.take j then B q++[((m:Nat):Int)] else B q) q).length<=1001:=fun q=>by
            have:=lnm q
            dsimp only
            split
            · rw [DZ]; simp; omega
            · omega
          rw [<- eN];generalize (fun q=>if q∈C.take j then B q++[((m:Nat):Int)] else B q)=Mj at n5 lN;generalize hcq:C[j]=cq at hca;obtain ⟨kvs,g1,g2,g4,g5,g6⟩:=n5.ob;have sz:kvs.length<sizeLine:=Ej (Ew g2 (show i*1600+j<=1700000 by omega)) (by rw [JV]; omega);apply xP ?_;apply ⟨.inr ⟨kvs,.inl g1⟩,?_⟩;apply nwL fun ln H6 sln nln eln=>?_;have s6:=s5.trans sln;have n6:=n5.mono sln;have g16:=sln _ _ g1;have hln:Hy ln=none:=s5.free nln;have hc6:H6 ca=some (.tup ((ky cq).map kV)):=s6 _ _ hca;refine ⟨kvs,ky cq,ca,rfl,g16,hc6,sz,fun v hv=>?_,fun hv=>?_⟩
          · obtain ⟨y',l',ey,rfl,q1,q2,q3⟩:=g5 _ _ hv
            have ad:=n6.add (x:=((m:Nat):Int)) g16 hv;refine bP ad.1 ?_;apply aV ad.1 ?_ ?_
            · rw [Ξ]
              have:=lN cq
              exact aR (by omega)
            · exact ⟨_,rfl,s6.later q2,ad.2.le (by omega)⟩
          · have pt:=n6.put g16 hv eln hln (fun z=>by rw [z,g1] at nln; cases nln) (fun k v hk e=>by
              obtain ⟨y',l',_,e2,_,_,q3⟩:=g5 k v hk;rw [e2] at e;injection e with e;rw [<- e,q3] at nln
              cases nln)
            have v4:aT (b7 kvs (ky cq) (V.ref ln)) (ky cq)=some (.ref ln):=by rw [iM,if_pos rfl]
            have e4:upd H6 d (.dT (b7 kvs (ky cq) (V.ref ln))) d=_:=ag;have s7:aj Hy (upd H6 d (.dT (b7 kvs (ky cq) (V.ref ln)))):=s6.later n5.nd;generalize upd H6 d (.dT (b7 kvs (ky cq) (V.ref ln)))=H7 at pt e4 s7 ⊢;have ad:=pt.add (x:=((m:Nat):Int)) e4 v4;refine bP ad.1 ?_;apply aV ad.1 ?_ ?_
            · rw [Ξ]
              have:=lN cq
              exact aR (by omega)
            · exact ⟨_,rfl,s7.later hln,ad.2⟩
        · rintro σ' H5 ⟨o4,rfl,s5,n5⟩
          refine ⟨_,_,rfl,s5,?_⟩;rw [pz.1,EN (Av _)] at n5;have e:nums Cs (os.take (i+1))=fun q=>if q∈C then B q++[((m:Nat):Int)] else B q:=funext nmN
          rw [e];exact n5.le (by omega)
      · rintro σ' H4 ⟨o3,o4,rfl,s4,n4⟩
        left;rw [Ξ,EN (Av _)] at n4;exact end_ H4 s4 (n4.le (by omega))
end
section
variable {cs rs:List Int}
theorem AZ:∀ {L:List Sm1},(cb L).Nodup->(Rs L).Pairwise fun M N=>∀ p∈M,p∉N
 | [],_=>GD
 | e::L,h=>by
  unfold cb at h;rw [Hu,Ey] at h;have ih:=AZ (L:=L) h.2.1;unfold Rs at ih ⊢;rw [Em];by_cases c:e.1=true
  ·rw [if_pos c,EL,E6];refine ⟨fun N hN p hp z=>?_,ih⟩;exact h.2.2 p hp p (IF.mpr ⟨_,qA.mp hN,z⟩) rfl
  ·rw [if_neg c]; exact ih
theorem rl {L:List Sm1} (h:(cb L).Nodup) {i j:Nat} (hi:i<(Rs L).length) (hj:j<(Rs L).length) (ne:i≠j):∀ p∈(Rs L)[i],p∉(Rs L)[j]:=by
 have pw:=JA.mp (AZ h);rcases Nat.lt_or_gt_of_ne ne with c | c
 ·exact pw i j hi hj c
 ·exact fun p h1 h2=>pw j i hj hi c p h2 h1
theorem jB {L:List Sm1} (al:cU cs rs L) {M:List (Int×Int)} (h:M∈Rs L):Sm.cJ (nb cs rs) true M:=al.told _ (qA.mp h)
theorem yh (lc:cs.length<=39) (lr:rs.length<=39) {L:List Sm1} (al:cU cs rs L) {M:List (Int×Int)} (h:M∈Rs L):Bm M:=by
 have td:=jB al h;have:=wa (qA.mp h)
 have fw:=al.few lc lr;exact ⟨by dsimp only at this; omega,kQ td,yU lc lr td⟩
theorem pD:∀ {L:List Sm1},(∀ e∈L,Sm.cJ (nb cs rs) e.1 e.2)->2*L.length<=(cb L).length
 | [],_=>Av _
 | e::L,h=>by
  have a:=(h e Θ).len;have b:=pD (L:=L) fun x hx=>h x (Au _ hx);unfold cb at b ⊢;rw [Hu,DZ,C_];omega
theorem rm (lc:cs.length<=39) (lr:rs.length<=39) {L:List Sm1} (al:cU cs rs L):(Rs L).length<=1000:=by
 have:=pD al.told
 have fw:=al.few lc lr;have:(Rs L).length<=L.length:=by unfold Rs; rw [Ξ]; exact Gq _ _
 omega
noncomputable def p0 (M:List (Int×Int)):Int×Int:=M.head?.getD (0,0)
structure Nst (Cs:List (List (Int×Int))) (ps:Nat->Int×Int):Prop where
 own:∀ i,i<Cs.length->ps i∈Cs.getD i []
 sub:∀ i j,i<Cs.length->j<Cs.length->i≠j->ps i∈Cs.getD j []->(∀ q∈Cs.getD i [],q∈Cs.getD j [])/\szC Cs i<szC Cs j
 ne:∀ i j q,i<Cs.length->j<Cs.length->i≠j->q∈Cs.getD i []->q∈Cs.getD j []->szC Cs i≠szC Cs j
theorem cF {α:Type} {l:List α} {i:Nat} {d:α} (h:i<l.length):l.getD i d=l[i]:=by rw [Fb,ξ h]; rfl
theorem wA {L:List Sm1} (al:cU cs rs L) {Cs:List (List (Int×Int))} (ic:gU (Rs L) Cs):Nst Cs fun i=>p0 ((Rs L).getD i []):=by
 have rd:∀ i (h:i<(Rs L).length),Rd (Rs L)[i]:=fun i h=>tK (jB al (Er h));have il:∀ i (h:i<Cs.length),iO ((Rs L)[i]'(by rw [<- ic.1]; exact h)) Cs[i]:=fun i h=>ic.2 i _ _ (ξ _) (ξ h);have sub:∀ i j (hi:i<Cs.length) (hj:j<Cs.length),i≠j->(∀ q∈(Rs L)[i]'(by rw [<- ic.1]; exact hi),Wn.ins ((Rs L)[j]'(by rw [<- ic.1]; exact hj)) q=true)->(∀ q∈Cs.getD i [],q∈Cs.getD j [])/\szC Cs i<szC Cs j:=fun i j hi hj ne h=>by
  have hi':i<(Rs L).length:=by rw [<- ic.1]; exact hi
  have hj':j<(Rs L).length:=by rw [<- ic.1]; exact hj
  have dj:=rl al.nd hi' hj' ne;unfold szC;rw [cF hi,cF hj];refine ⟨fun q hq=>?_,?_⟩
  ·rw [(il j hj).ms q];exact (rd i hi').sub (rd j hj') dj h (((il i hi).ms q).mp hq)
  ·have:=(rd i hi').less (rd j hj') dj h (il i hi) (il j hj)
   omega
 refine ⟨fun i hi=>?_,fun i j hi hj ne h=>?_,fun i j q hi hj ne h1 h2=>?_⟩
 ·have hi':i<(Rs L).length:=by rw [<- ic.1]; exact hi
  obtain ⟨a,e,_,_,h⟩:=(rd i hi').lo;rw [cF hi,cF hi',(il i hi).ms];unfold p0;rw [e]; exact h
 ·have hi':i<(Rs L).length:=by rw [<- ic.1]; exact hi
  have hj':j<(Rs L).length:=by rw [<- ic.1]; exact hj
  obtain ⟨a,e,ha,_,_⟩:=(rd i hi').lo;rw [cF hi',cF hj,(il j hj).ms] at h;unfold p0 at h;rw [e] at h;exact sub i j hi hj ne ((rd i hi').side (rd j hj') (rl al.nd hi' hj' ne) ha h)
 ·have hi':i<(Rs L).length:=by rw [<- ic.1]; exact hi
  have hj':j<(Rs L).length:=by rw [<- ic.1]; exact hj
  rw [cF hi,(il i hi).ms] at h1;rw [cF hj,(il j hj).ms] at h2;rcases (rd i hi').first (rd j hj') (rl al.nd hi' hj' ne) h1 h2 with z | z
  ·have:=(sub i j hi hj ne z).2; omega
  ·have:=(sub j i hj hi (FH ne) z).2; omega
noncomputable def ar (Cs:List (List (Int×Int))) (os:List Nat) (q:Int×Int):List Nat:=os.filter fun i=>decide (q∈Cs.getD i [])
theorem iu (Cs:List (List (Int×Int))) (os:List Nat) (q:Int×Int):nums Cs os q=(ar Cs os q).map fun i=>((i:Nat):Int):=rfl
structure Ord (Cs:List (List (Int×Int))) (os:List Nat):Prop where
 pm:os.Perm (ED Cs.length)
 so:os.Pairwise fun i j=>szC Cs i<=szC Cs j
theorem iP {Cs:List (List (Int×Int))} {os:List Nat} (o:Ord Cs os) {q:Int×Int} {i:Nat}:i∈ar Cs os q↔i<Cs.length/\q∈Cs.getD i []:=by
 unfold ar;rw [E7,o.pm.mem_iff,Et,decide_eq_true_eq]
theorem oI {Cs:List (List (Int×Int))} {ps:Nat->Int×Int} (n:Nst Cs ps) {os:List Nat} (o:Ord Cs os) {i:Nat} (hi:i<Cs.length):∃ r,ar Cs os (ps i)=i::r:=by
 have hm:i∈ar Cs os (ps i):=(iP o).mpr ⟨hi,n.own i hi⟩;have so:(ar Cs os (ps i)).Pairwise fun i j=>szC Cs i<=szC Cs j:=GB _ o.so
 cases e:ar Cs os (ps i) with
 | nil=>rw [e] at hm; cases hm
 | cons k r =>
  by_cases c:k=i
  ·exact ⟨r,by rw [c]⟩
  ·rw [e] at hm so;have hk:=(iP o (q:=ps i) (i:=k)).mp (by rw [e]; exact Θ);have h1:=(E6.mp so).1 i ((B_.mp hm).resolve_left (FH c));have h2:=(n.sub i k hi hk.1 (FH c) hk.2).2;omega
theorem oy {f:Nat->Int}:∀ {a b:List Nat},a.Perm b->a.Pairwise (fun i j=>f i<=f j)->b.Pairwise (fun i j=>f i<=f j)->(∀ i∈a,∀ j∈a,i≠j->f i≠f j)->a=b
 | [],b,h,_,_,_=>(Lb.mp h).symm ▸ rfl
 | x::a,[],h,_,_,_=>by have:=h.length_eq; simp at this
 | x::a,y::b,h,s1,s2,d=>by
  have e:x=y:=by
   have hx:x∈y::b:=h.mem_iff.mp Θ;have hy:y∈x::a:=h.mem_iff.mpr Θ;rcases B_.mp hx with e | hx
   ·exact e
   ·rcases B_.mp hy with e | hy'
    ·exact e.symm
    ·have h1:=(E6.mp s1).1 y hy';have h2:=(E6.mp s2).1 x hx;by_cases c:x=y
     ·exact c
     ·exact absurd (show f x=f y by omega) (d x Θ y hy c)
  subst e;rw [oy (List.perm_cons _ |>.mp h) (E6.mp s1).2 (E6.mp s2).2 fun i hi j hj=>d i (Au _ hi) j (Au _ hj)]
theorem su {Cs:List (List (Int×Int))} {ps:Nat->Int×Int} (n:Nst Cs ps) {os os':List Nat} (o:Ord Cs os) (o':Ord Cs os') (q:Int×Int):ar Cs os q=ar Cs os' q:=by
 refine oy (f:=szC Cs) ((o.pm.trans o'.pm.symm).filter _) (GB _ o.so) (GB _ o'.so) fun i hi j hj ne=>?_;have h1:=(iP o).mp hi;have h2:=(iP o).mp hj;exact n.ne i j q h1.1 h2.1 ne h1.2 h2.2
noncomputable def nxr:List Nat->Int
 | k::_=>((k:Nat):Int)
 | []=>-1
noncomputable def nx (Cs:List (List (Int×Int))) (os:List Nat) (q:Int×Int):Int:=nxr (ar Cs os q).tail
end
section
variable {P:D_} {w:Eh} {K:W.Frag} {mg:Str->Option ς} {base:E5} {t:Ad}
def Trn (P:Δ) (H H':Hp):Prop:=eJ P H H'/\(Hit P m7 m9 H->aj H H')/\Hit P m7 m9 H'
theorem Trn.pre {P:Δ} {H H1 H2:Hp} (s:aj H H1) (h:Trn P H1 H2):Trn P H H2:=⟨(s.toB P).trans h.1,fun z=>s.trans (h.2.1 (z.mono s)),h.2.2⟩
theorem Trn.post {P:Δ} {H H1 H2:Hp} (h:Trn P H H1) (s:aj H1 H2):Trn P H H2:=⟨h.1.trans (s.toB P),fun z=>(h.2.1 z).trans s,h.2.2.mono s⟩
theorem Trn.free {P:Δ} {H H1:Hp} (h:Trn P H H1) {a:Δ} (n:H1 a=none):H a=none:=by
 cases q:H a with
 | none=>rfl
 | some o =>
  by_cases c:a=P
  ·obtain ⟨ps,_,e,_⟩:=h.2.2;rw [c,e] at n; cases n
  ·have:=h.1 _ _ c q
   rw [n] at this; cases this
theorem Trn.lst {P a:Δ} {H H1:Hp} {o:HO} {ps:Array ς} (h:Trn P H H1) (tP:H P=some (.tbl ps)) (e:H a=some o) (h1:∀ ps,o≠HO.tbl ps):H1 a=some o:=h.1 _ _ (aZ e tP (h1 _)) e
theorem Trn.pts {P:Δ} {H H1:Hp} {ps:Array ς} {xs:List V} {qs:List (Int×Int)} (h:Trn P H H1) (tP:H P=some (.tbl ps)) (p:aJ H xs qs):aJ H1 xs qs:=p.butB h.1 tP
theorem Trn.lns {P:Δ} {H H1:Hp} {ps:Array ς} {xs:List V} {Ms:List (List (Int×Int))} (h:Trn P H H1) (tP:H P=some (.tbl ps)) (p:gD H xs Ms):gD H1 xs Ms:=⟨p.1,fun i v M e1 e2=>by
 obtain ⟨l,zs,e,h3,h4⟩:=p.2 i v M e1 e2;exact ⟨l,zs,e,h.lst tP h3 (by intro _ z; cases z),h.pts tP h4⟩⟩
theorem eR {H:Hp}:∀ ns:List Int,RepL H (ns.map IB) (ns.map V.int)
 | []=>by simp only [Hs,RepL]
 | n::ns=>by
  simp only [EL,RepL];exact ⟨_,_,rfl,by simp only [Rep],eR ns⟩
theorem pG:∀ ns:List Int,Hi (ns.map IB)=true
 | []=>rfl
 | _::r=>by simp [Hi,Kw,pG r]
theorem uM {H:Hp} {Q:VK} {l:Δ} {n:Int} {ns:List Int} (e:H l=some (.lst ((n::ns).map V.int))) (q:Q (.int ((0:Nat):Int)) H):tm (.ref l) [.int n] H Q :=
 ⟨l,_,_,.int n,.int n,0,.int n,rfl,rfl,e,eR _,by simp only [Rep],pG _,rfl,by simp [La],rfl,by simp [Gv],fun m dm h=>absurd h (Nat.not_lt_zero _),q⟩
def sp_aH (C P:Δ):Sp:=fun vs H Q _=>∃ (p:Δ) (s:Int) (cs rs:List Int),vs=[.ref p]/\aP C H p s cs rs/\cs.length<=39/\rs.length<=39/\dZ P m7 m9 H /\
 ∀ l L Cs os H',Trn P H H'->H l=none->mI cs rs L->gU (Rs L) Cs->Ord Cs os->H' l=some (.lst ((ED Cs.length).map fun i=>V.int (nx Cs os (p0 ((Rs L).getD i [])))))->Q (.ref l) H'
theorem ok_aH (T:Txt K mg t) (KB:K.In base) (hB:base.BuiltinsAt mg t.tp_numbersaround):aW P w K mg base CX0 12 t.f_aH t.d_aH ["cloth"] (sp_aH t.a_af t.tp_numbersaround):=by
 have G_aa:=ok_aa (P:=P) (w:=w) (base:=base) T KB hB;refine T.F_aH.ok sc_aH (by walk_at "l") (fun _ _ _ s H vs Q E hr h=>?_)
 ·obtain ⟨p,s,cs,rs,rfl,hc,lc,lr,tb,k⟩:=h;refine aN (aO 1 sc_aH.nd (au (ok_at T) (rmo hr) rfl T.mg_at T.F_at.kp T.b_at .nil aS (aa (pv 0) ae))) fun _ _=>aN (aO 2 sc_aH.nd (au G_aa (rmo hr) rfl T.mg_aa T.F_aa.kp T.b_aa .nil aS (aa (pv 1) ae))) fun _ _=>aN (aO 3 sc_aH.nd (cg ae)) fun _ _=>aN (bX En rfl (nz rfl T.no_a1 (aa (pv 1) ae)) (cG (n:=2) K rfl rfl (aU (aw (i:=4) sc_aH.nd rfl (E_ rfl)) (aU (aw (i:=5) sc_aH.nd rfl (E_ rfl)) cH))) (aK (aO 6 sc_aH.nd (zE (ie hr) (pv 2) (aF (aA K rfl) (pv 5) ah) (fun _ _=>rfl))) (aK (aO 7 sc_aH.nd (aE bB (cV EM PySem.F.slot_list_index PySem.F.type_list_index (uw hr.units) (pv 6) (aa (pv 4) ae)) ah)) (ao (bo (cV EM Ed Ec ba (pv 3) (aa (kg (bU fL (pv 7) (aq (bu K rfl) rfl T.no_len (by rfl) (aa (pv 6) ae))) (aF (aA K rfl) (pv 6) (pv 7)) (fy dw ah)) ae))))))) fun _ _=>dY (aD (pv 3)) fun _ _=>?_;apply ⟨p,s,cs,rs,rfl,hc,lc,lr,fun ll ys L H1 s1 nl el al py=>?_⟩;have tb1:=tb.mono s1;obtain ⟨ps1,tP1⟩:=tb1.at
  have fw:=rm lc lr al.some;apply ⟨ll,ys,Rs L,rfl,el,py,fw,fun M hM=>yh lc lr al.some hM,tb1,fun d Cs os H2 sb sh ht ic pm so nt=>?_⟩;have t2:Trn t.tp_numbersaround H1 H2:=⟨sb,sh,ht⟩
  have od:Ord Cs os:=⟨by rw [ic.1]; exact pm,so⟩
  have ns:=wA al.some ic;have el2:=t2.lst tP1 el (by intro _ z; cases z);have py2:=t2.lns tP1 py;have t02:=t2.pre s1;have lCs:=ic.1;have nd0:=s1.free nt.nd;apply nwL fun lf H3 slf nlf elf=>?_;have nlf0:=t02.free nlf;left;have el3:=slf _ _ el2;refine ⟨ll,rfl,⟨_,SqL.of el3⟩,?_⟩;refine t9 (a:=ll) (xs:=ys) (fun i σ' H'=>∃ (o4 o5 o6 o7:Option V),σ'=[some (.ref p),some (.ref ll),some (.ref d),some (.ref lf),o4,o5,o6,o7]/\aj H2 H'/\H' lf=some (.lst ((ED i).map fun i=>V.int (nx Cs os (p0 ((Rs L).getD i []))))))
   ⟨none,none,none,none,rfl,slf,elf⟩ (fun i σ' H' _ ⟨_,_,_,_,_,z,_⟩=>SqL.of (z _ _ el2)) ?_ ?_
  ·rintro i v σ' H4 Ti hv ⟨o4,o5,o6,o7,rfl,s4,e4⟩ nT;have hi:i<ys.length:=(Aw.mp hv).1;have hiM:i<(Rs L).length:=by rw [<- py2.1]; exact hi
   have hiC:i<Cs.length:=by omega
   obtain ⟨l,zs,rfl,hl,pz⟩:=(py2.mono s4).2 i v _ hv (ξ hiM);obtain ⟨a,ha,hmem,_⟩:=(tK (jB al.some (Er hiM))).lo;have gM:(Rs L).getD i []=(Rs L)[i]:=cF hiM;have ep:p0 ((Rs L).getD i [])=a:=by rw [gM]; unfold p0; rw [ha]; rfl
   obtain ⟨r,er⟩:=oI ns od hiC;have ex:nx Cs os (p0 ((Rs L).getD i []))=nxr r:=by unfold nx; rw [er]; rfl
   rw [ep] at er;obtain ⟨kvs,g1,g2,g4,g5,g6⟩:=nt.ob;have hz0:zs[0]?≠none:=fun z=>by
    have:=LV.mp z
    have l1:=pz.1;have:(Rs L)[i].length=0:=by omega
    rw [Ln.mp this] at ha; cases ha
   obtain ⟨v0,hv0⟩:=Option.ne_none_iff_exists'.mp hz0;obtain ⟨a0,rfl,ha0⟩:=pz.2 0 v0 a hv0 (by rw [<- List.head?_eq_getElem?]; exact ha);have sT:=aj.new (o:=HO.tup [V.int (i:Nat),V.ref l]) nT;have eT:=ag (H:=H4) (a:=Ti) (o:=HO.tup [V.int (i:Nat),V.ref l]);generalize upd H4 Ti (HO.tup [V.int (i:Nat),V.ref l])=H5 at sT eT ⊢;have s5:=s4.trans sT;refine fj eT rfl ?_;apply aH (SqL.of (sT _ _ hl)) (v:=.ref a0) (bI (j:=0) hv0) ?_
   have ev:∃ ln,aT kvs (ky a)=some (.ref ln)/\H2 ln=some (.lst ((nums Cs os a).map V.int)):=by
    cases q:aT kvs (ky a) with
    | none =>
     have:=g4 a q
     rw [iu,er] at this
     cases this
    | some v =>
     obtain ⟨q',ln,e1,e2,_,_,e3⟩:=g5 _ _ q;have:=iW e1
     subst this;exact ⟨ln,by rw [e2],e3⟩
   obtain ⟨ln,hln,eln⟩:=ev;rw [iu,er,EL] at eln;refine xK (s5 _ _ g1) (show H5 a0=some (.tup ((ky a).map kV)) from sT _ _ ha0) hln ?_;left;have eln5:=s5 _ _ eln;refine bP eln5 ?_;apply uM eln5 ?_;apply bP (sT _ _ e4) ?_;apply bA eln5 ?_;left;have fin:∀ x:Int,x=nx Cs os (p0 ((Rs L).getD i []))->∃ (o4 o5 o6 o7:Option V),[some (V.ref p),some (.ref ll),some (.ref d),some (.ref lf),some (.int (i:Nat)),some (.ref l),some (.ref ln),some (.int (((0:Nat):Int)+1))]=[some (.ref p),some (.ref ll),some (.ref d),some (.ref lf),o4,o5,o6,o7]/\aj H2 (upd H5 lf (.lst ((ED i).map (fun i=>V.int (nx Cs os (p0 ((Rs L).getD i []))))++[V.int x])))/\upd H5 lf (.lst ((ED i).map (fun i=>V.int (nx Cs os (p0 ((Rs L).getD i []))))++[V.int x])) lf=some (.lst ((ED (i+1)).map fun i=>V.int (nx Cs os (p0 ((Rs L).getD i []))))):=fun x hx =>
    ⟨_,_,_,_,rfl,s5.later nlf,by rw [ag,Fw,Ef,hx]; rfl⟩
   have ln4:((ED i).map fun i=>V.int (nx Cs os (p0 ((Rs L).getD i [])))).length<sizeLine:=by
    rw [Ξ,Eo];exact aR (by omega)
   cases r with
   | nil =>
    rw [cx (by simp)];apply aV (sT _ _ e4) ln4 ?_;exact fin _ ex.symm
   | cons k' r' =>
    rw [bC (by simp; omega)];apply aH (SqL.of eln5) (v:=.int ((k':Nat):Int)) (bI (j:=1) rfl) ?_;apply aV (sT _ _ e4) ln4 ?_;exact fin _ ex.symm
  ·rintro σ' H4 ⟨o4,o5,o6,o7,rfl,s4,e4⟩;apply k lf L Cs os H4 (t02.post s4) nlf0 al ic od ?_;rw [e4,py2.1,<- lCs]
def sp_al (C:Δ):Sp:=fun vs H Q _=>∃ (p:Δ) (x y s:Int) (cs rs:List Int),vs=[.ref p,.int x,.int y]/\aP C H p s cs rs/\ig x y cs rs/\Q .non H
theorem ok_al (T:Txt K mg t):aW P w K mg base CX0 3 t.f_al t.d_al ["board","x","y"] (sp_al t.a_af) :=
 (okx_al T).down fun vs H Q E hh=>by
  obtain ⟨p,x,y,s,cs,rs,rfl,hc,hi,q⟩:=hh;exact ⟨p,x,y,s,cs,rs,rfl,hc,.inl ⟨hi,q⟩⟩
def sp_as (C P:Δ):Sp:=fun vs H Q _=>∃ (p:Δ) (x y s:Int) (cs rs:List Int),vs=[.ref p,.int x,.int y]/\aP C H p s cs rs/\cs.length<=39/\rs.length<=39/\ig x y cs rs/\dZ P m7 m9 H /\
 ∀ l L Cs os H',Trn P H H'->H l=none->mI cs rs L->gU (Rs L) Cs->Ord Cs os->H' l=some (.lst ((nums Cs os (x,y)).map V.int))->Q (.ref l) H'
theorem ok_as (T:Txt K mg t) (KB:K.In base) (hB:base.BuiltinsAt mg t.tp_numbersaround):aW P w K mg base CX0 12 t.f_as t.d_as ["cloth","x","y"] (sp_as t.a_af t.tp_numbersaround):=by
 have G_aa:=ok_aa (P:=P) (w:=w) (base:=base) T KB hB;refine T.F_as.ok sc_as (by walk_at "l") (fun _ _ _ s H vs Q E hr h=>?_)
 ·obtain ⟨p,x,y,s,cs,rs,rfl,hc,lc,lr,hi,tb,k⟩:=h;refine ⟨_,(aK (bo (au (ok_al T) (rmo hr) rfl T.mg_al T.F_al.kp T.b_al .nil aS (aa (pv 0) (aa (pv 1) (aa (pv 2) ae))))) (ao (aD (wY (ie hr) (au G_aa (rmo hr) rfl T.mg_aa T.F_aa.kp T.b_aa .nil aS (aa (au (ok_at T) (rmo hr) rfl T.mg_at T.F_at.kp T.b_at .nil aS (aa (pv 0) ae)) ae)) (bN (aa (pv 1) (aa (pv 2) ae))) (cg ae) ⟨rfl,rfl,rfl,rfl⟩)))),?_⟩;apply ⟨p,x,y,s,cs,rs,rfl,hc,hi,?_⟩;apply ⟨p,s,cs,rs,rfl,hc,lc,lr,fun ll ys L H1 s1 nl el al py=>?_⟩;have tb1:=tb.mono s1;have fw:=rm lc lr al.some;apply ⟨ll,ys,Rs L,rfl,el,py,fw,fun M hM=>yh lc lr al.some hM,tb1,fun d Cs os H2 sb sh ht ic pm so nt=>?_⟩;have t02:Trn t.tp_numbersaround H H2:=Trn.pre s1 ⟨sb,sh,ht⟩;have od:Ord Cs os:=⟨by rw [ic.1]; exact pm,so⟩
  obtain ⟨kvs,g1,g2,g4,g5,g6⟩:=nt.ob;apply zZ g1 ?_;apply nwT fun tk H3 stk ntk etk=>?_;apply nwL fun le H4 sle nle ele=>?_;have s24:=stk.trans sle;refine ⟨_,fz.t (k:=ky (x,y)) (s24 _ _ g1) (sle _ _ etk),?_⟩;have t04:=t02.post s24
  cases q:aT kvs (ky (x,y)) with
  | none =>
   refine k le L Cs os H4 t04 (t02.free (stk.free nle)) al ic od ?_
   show H4 le=_
   rw [g4 _ q];exact ele
  | some v =>
   obtain ⟨q',ln,e1,rfl,_,e2,e3⟩:=g5 _ _ q;have:=iW e1
   subst this;exact k ln L Cs os H4 t04 (s1.free e2) al ic od (s24 _ _ e3)
noncomputable def zh:List Str:=["BadSize","BadBit","NoCell","NoLine","NoStep","NoPoint"]
noncomputable def t7 (nm:Str):List Bool:=zh.map (fun x=>decide (x=nm))++[true]
structure CD (K:W.Frag) (t:Ad) (C:Δ) (nm:Str):Prop where
 xi:eI K C
 ct:W.exmOne K (.ref C) (.ref t.a_aR)=some true
 k1:W.kitOne K (.ref C) (.ref t.a_aw)=some (decide (("BadSize":Str)=nm))
 k2:W.kitOne K (.ref C) (.ref t.a_aA)=some (decide (("BadBit":Str)=nm))
 k3:W.kitOne K (.ref C) (.ref t.a_ae)=some (decide (("NoCell":Str)=nm))
 k4:W.kitOne K (.ref C) (.ref t.a_aC)=some (decide (("NoLine":Str)=nm))
 k5:W.kitOne K (.ref C) (.ref t.a_aJ)=some (decide (("NoStep":Str)=nm))
 k6:W.kitOne K (.ref C) (.ref t.a_az)=some (decide (("NoPoint":Str)=nm))
 kv:W.kitOne K (.ref C) (.type "ValueError")=some true
def sp_aM (K:W.Frag) (t:Ad):Sp:=fun vs H Q _=>∃ (e C:Δ) (nm:Str),vs=[.ref e]/\H e=some (DE e C)/\CD K t C nm/\∀ l,H l=none->Q (.ref l) (upd H l (.lst ((t7 nm).map V.bl)))
theorem qW (T:Txt K mg t):vt P w K mg base 1 t.f_aM t.d_aM ["_law_e"] (sp_aM K t):=by
 refine T.F_aM.okQ sc_aM (by walk_at "l") (fun _ _ _ s H vs Q E hr h=>?_)
 ·obtain ⟨e,C,nm,rfl,he,c,k⟩:=h;refine ⟨_,(ao (aD (cg (aa (aq (cn K rfl) rfl T.no_aL (by rfl) (aa (pv 0) (aa (eD (v:=.ref _) rfl T.mg_aw rfl) ae))) (aa (aq (cn K rfl) rfl T.no_aL (by rfl) (aa (pv 0) (aa (eD (v:=.ref _) rfl T.mg_aA rfl) ae))) (aa (aq (cn K rfl) rfl T.no_aL (by rfl) (aa (pv 0) (aa (eD (v:=.ref _) rfl T.mg_ae rfl) ae))) (aa (aq (cn K rfl) rfl T.no_aL (by rfl) (aa (pv 0) (aa (eD (v:=.ref _) rfl T.mg_aC rfl) ae))) (aa (aq (cn K rfl) rfl T.no_aL (by rfl) (aa (pv 0) (aa (eD (v:=.ref _) rfl T.mg_aJ rfl) ae))) (aa (aq (cn K rfl) rfl T.no_aL (by rfl) (aa (pv 0) (aa (eD (v:=.ref _) rfl T.mg_az rfl) ae))) (aa (aq (cn K rfl) rfl T.no_aL (by rfl) (aa (pv 0) (aa (bW (v:=.ty "ValueError") rfl T.no_aY (by rfl:FA "ValueError"=some (.type "ValueError")) rfl) ae))) ae)))))))))),?_⟩;apply gf he c.xi c.k1 ?_;apply gf he c.xi c.k2 ?_;apply gf he c.xi c.k3 ?_;apply gf he c.xi c.k4 ?_;apply gf he c.xi c.k5 ?_;apply gf he c.xi c.k6 ?_;apply xU he c.xi c.kv ?_;left;exact ⟨by show 7<=D7; decide,k⟩
def sp_aX:Sp:=fun vs H Q _=>∃ (nm:Str),vs=[.str nm]/\∀ l H',aj H H'->H' l=some (.lst ((t7 nm).map V.bl))->Q (.ref l) H'
theorem ok_aX (T:Txt K mg t):aW P w K mg base CX0 1 t.f_aX t.d_aX ["_law_word"] sp_aX:=by
 refine T.F_aX.ok sc_aX (by walk_at "l") (fun _ _ _ s H vs Q E hr h=>?_)
 ·obtain ⟨nm,rfl,k⟩:=h;refine ⟨_,(aK (aO 1 sc_aX.nd (cg (aa bS (aa bS (aa bS (aa bS (aa bS (aa bS ae)))))))) (ao (aD (aE wJ (bK (N:=["_law_one","_law_word"]) (cap:=[none,some 0]) rfl ⟨rfl,rfl,rfl,rfl,rfl,rfl⟩ (bz (pv 1)) (fun _ _ _=>(aw (i:=0) (show (["_law_one","_law_word"]:List Str).Nodup by decide +kernel) rfl (E_ rfl))) (fun _ _ _=>bL) (fun _ _ _=>(ka et (pv 0) (pv 1)))) (cg (aa eu ae)))))),?_⟩;apply ⟨by show 6<=D7; decide,fun l1 n1=>?_⟩;have e0:[V.str "BadSize",V.str "BadBit",V.str "NoCell",V.str "NoLine",V.str "NoStep",V.str "NoPoint"]=zh.map V.str:=rfl;rw [e0];have s1:=aj.new (o:=HO.lst (zh.map V.str)) n1;apply ⟨⟨_,SqL.of ag⟩,fun l2 n2=>?_⟩;refine jP (fun v=>match v with | .str x=>.bl (decide (x=nm)) | _=>.non) (SqL.of ag) (by rw [Ξ]; decide) n2 (fun x o H' Q' hx s2 q=>?_) (fun H' s2 e2=>?_)
  ·obtain ⟨i,_,rfl⟩:=EJ.mp hx;left;exact q H' (aj.refl _)
  ·apply ⟨by show 1<=D7; decide,fun l3 n3=>?_⟩;have s3:=aj.new (o:=HO.lst [V.bl true]) n3;rw [Ez] at e2;refine xF (s3 _ _ e2) ag (by rw [Ξ]; show 6+1<=D7; decide) fun l4 n4=>?_;have s4:=aj.new (o:=HO.lst ((t7 nm).map V.bl)) n4
   have e4:zh.map ((fun v=>match v with | .str x=>V.bl (decide (x=nm)) | _=>V.non)∘V.str)++[V.bl true]=(t7 nm).map V.bl:=by
    unfold t7;rw [Ef,Ez]; rfl
   rw [e4];exact k l4 _ (s1.trans (s2.trans (s3.trans s4))) ag
theorem Txt.c_NoCell (T:Txt K mg t):CD K t t.a_ae "NoCell":=⟨T.xi_ae,T.cat_ae,T.kt_ae_aw,T.kt_ae_aA,T.kt_ae_ae,T.kt_ae_aC,T.kt_ae_aJ,T.kt_ae_az,T.kv_ae⟩
def rO (C NC:Δ):Sp:=fun vs H Q E=>∃ (p:Δ) (x y s:Int) (cs rs:List Int),vs=[.ref p,.int x,.int y]/\aP C H p s cs rs/\¬ ig x y cs rs/\E (.ref NC) none H
theorem qX (T:Txt K mg t):aW P w K mg base (CX1 P w) 4 t.f_as t.d_as ["cloth","x","y"] (rO t.a_af t.a_ae):=by
 refine T.F_as.ok1 sc_as (by walk_at "l") (fun _ _ _ s H vs Q E hr h=>?_)
 ·obtain ⟨p,x,y,s,cs,rs,rfl,hc,n,k⟩:=h;refine ⟨_,(aK (bo (au (okx_al T) (rmo hr) rfl T.mg_al T.F_al.kp T.b_al .nil bZ (aa (pv 0) (aa (pv 1) (aa (pv 2) ae))))) uH),?_⟩;left;exact ⟨p,x,y,s,cs,rs,rfl,hc,.inr ⟨n,k⟩⟩
def sp_ad (C:Δ):Sp:=fun vs H Q _=>∃ (p:Δ) (x y s:Int) (cs rs:List Int),vs=[.ref p,.int x,.int y]/\aP C H p s cs rs/\¬ ig x y cs rs /\
 ∀ l H',aj H H'->H' l=some (.lst ((t7 "NoCell").map V.bl))->Q (.ref l) H'
theorem ok_ad (T:Txt K mg t):aW P w K mg base CX0 5 t.f_ad t.d_ad ["_law_cloth","_law_x","_law_y"] (sp_ad t.a_af):=by
 have GX_as:=qX (P:=P) (w:=w) (base:=base) T;refine T.F_ad.ok sc_ad (by walk_at "l") (fun _ _ _ s H vs Q E hr h=>?_)
 ·obtain ⟨p,x,y,s,cs,rs,rfl,hc,n,z⟩:=h;refine aN (aO 3 sc_ad.nd (cg ae)) fun _ _=>aN (B2 (i:=4) sc_ad.nd rfl rfl rfl T.mg_aR (fun _ _=>(ao (bo (wV GX_as (rmo hr) rfl T.mg_as T.F_as.kp T.b_as .nil C1 (aa (pv 0) (aa (pv 1) (aa (pv 2) ae))))))) (fun _=>(ao (aO 3 sc_ad.nd (wU (qW T) (dG.mark (dG.mono hr.q (by first | decide | omega))) rfl T.mg_aM T.F_aM.kp T.b_aM .nil (aa (pv 4) ae)))))) fun _ _=>dY (aD (pv 3)) fun _ _=>?_;apply ⟨El _,fun l1 n1=>?_⟩;have s1:=aj.new (o:=HO.lst []) n1;apply ⟨p,x,y,s,cs,rs,rfl,hc.mono s1,n,t.a_ae,rfl,T.cat_ae,fun e he=>?_⟩;apply ⟨e,t.a_ae,_,rfl,ag,T.c_NoCell,fun l hl=>?_⟩;dsimp only [Dh];left;exact z l _ (s1.trans ((aj.new he).trans (aj.new hl))) ag
end
section
variable {K:W.Frag} {σ:L2.St} {H:Hp} {Q:VK} {te:TE} {tt:TT} {cap:List (Option Nat)} {l:Δ}
theorem i9 {a:Δ} {xs:List V} (p:Nat->Bool) (f:Nat->Int×Int) (hs:SqL K H a xs) (hz:xs.length<=1000) (hl:H l=none)
  (test:∀ (i:Nat) x o1 o2 H' (Q':Bool->Hp->Prop),xs[i]?=some x->aj H H'->(∀ H5,aj H' H5->Q' (p i) H5)->tt (((((cT (none::none::cap) σ).set 0 o1).set 1 o2).set 0 (some (.int (i:Nat)))).set 1 (some x)) H' Q')
  (step:∀ (i:Nat) x o1 o2 H' (Q':VK),xs[i]?=some x->p i=true->aj H H'->(∀ c H5,aj H' H5->H5 c=some (.tup [.int (f i).1,.int (f i).2])->Q' (.ref c) H5)->te (((((cT (none::none::cap) σ).set 0 o1).set 1 o2).set 0 (some (.int (i:Nat)))).set 1 (some x)) H' Q')
  (fin:∀ ys H',aj H H'->H' l=some (.lst ys)->aJ H' ys (((ED xs.length).filter p).map f)->Q (.ref l) H'):fu (Ite K a) (ub K 2 (jd (cR 0) (jd (cR 1) vR))) tt te (none::none::cap) l σ H Q:=by
 refine ⟨xs.length,fun i ys σ' H'=>aJ H' ys (((ED i).filter p).map f)/\(∃ o1 o2,σ'=((cT (none::none::cap) σ).set 0 o1).set 1 o2)/\aj H H'/\H' l=some (.lst ys),⟨aJ.nil,⟨none,none,rfl⟩,aj.new hl,ag⟩,?_,?_⟩
 ·rintro i ys σ' H' hi ⟨pw,⟨o1,o2,rfl⟩,s,e⟩;refine ⟨⟨xs,xs[i],s.seq hs,by simp [hi]⟩,fun v H2 z=>?_⟩;obtain ⟨T,rfl,hT,z⟩:=z;obtain ⟨x,ex,rfl⟩:=z xs (s.seq hs);have sT:=aj.new (o:=HO.tup [.int (i:Nat),x]) hT
  have tk:((ED (i+1)).filter p).map f=((ED i).filter p).map f++(if p i=true then [f i] else []):=by
   rw [Fw,HC,Ef]
   congr 1
   cases hp:p i<;>simp [hp]
  refine fj ag rfl (dR (bY (dR (bY (jA ?_)))));refine test i x o1 o2 _ _ ex (s.trans sT) fun H5 s5=>?_;have s25:=sT.trans s5;by_cases hp:p i=true
  ·rw [if_pos hp];rw [if_pos hp] at tk;refine step i x o1 o2 H5 _ ex hp (s.trans s25) fun c H6 s6 hc=>⟨s6 _ _ (s25 _ _ e),?_,?_⟩
   ·rw [pw.1,Ξ];have:=Gq p (ED i)
    rw [Eo] at this;exact cN (by omega)
   ·have e6:=s6 _ _ (s25 _ _ e);refine ⟨?_,⟨some _,some _,rfl⟩,((s.trans s25).trans s6).later hl,ag⟩;rw [tk];exact ((pw.mono (s25.trans s6)).upd e6 (by intro ys z; cases z)).snoc (Pt.upd (q:=f i) ⟨c,rfl,hc⟩ e6 (by intro ys z; cases z))
  ·rw [if_neg hp];rw [if_neg hp,E2] at tk;exact ⟨by rw [tk]; exact pw.mono s25,⟨some _,some _,rfl⟩,s.trans s25,s25 _ _ e⟩
 ·rintro ys σ' H' ⟨pw,_,s,e⟩;exact ⟨⟨xs,s.seq hs,Av _⟩,fin ys H' s e pw⟩
end
section
variable {P:D_} {w:Eh} {K:W.Frag} {mg:Str->Option ς} {base:E5} {t:Ad}
def DcV (H:Hp) (v:V) (C:List (Int×Int)):Prop:=∃ d kvs,v=.ref d/\H d=some (.dT kvs)/\bR kvs C
def PwD (H:Hp) (xs:List V) (Cs:List (List (Int×Int))):Prop:=xs.length=Cs.length/\∀ (i:Nat) v C,xs[i]?=some v->Cs[i]?=some C->DcV H v C
theorem PwD.mono {H H':Hp} {xs:List V} {Cs:List (List (Int×Int))} (s:aj H H') (h:PwD H xs Cs):PwD H' xs Cs:=⟨h.1,fun i v C h1 h2=>by
 obtain ⟨d,kvs,e,h3,h4⟩:=h.2 i v C h1 h2;exact ⟨d,kvs,e,s _ _ h3,h4⟩⟩
theorem PwD.at {H:Hp} {xs:List V} {Cs:List (List (Int×Int))} (h:PwD H xs Cs) {i:Nat} {v:V} (e:xs[i]?=some v):∃ d kvs,v=.ref d/\H d=some (.dT kvs)/\bR kvs (Cs.getD i [])/\i<Cs.length:=by
 have hi:i<Cs.length:=by rw [<- h.1]; exact (Aw.mp e).1
 obtain ⟨d,kvs,e1,e2,e3⟩:=h.2 i v _ e (ξ hi);exact ⟨d,kvs,e1,e2,by rw [cF hi]; exact e3,hi⟩
theorem PwD.get {H:Hp} {xs:List V} {Cs:List (List (Int×Int))} (h:PwD H xs Cs) {i:Nat} (hi:i<Cs.length):∃ d kvs,xs[i]?=some (.ref d)/\H d=some (.dT kvs)/\bR kvs (Cs.getD i []):=by
 have hx:i<xs.length:=by rw [h.1]; exact hi
 obtain ⟨d,kvs,e1,e2,e3,_⟩:=h.at (ξ hx);exact ⟨d,kvs,by rw [ξ hx,e1],e2,e3⟩
noncomputable def prs (Cs:List (List (Int×Int))) (p:Nat->Bool):List (Int×Int):=((ED Cs.length).filter p).map fun i=>(szC Cs i,((i:Nat):Int))
def sp_aD:Sp:=fun vs H Q _=>∃ (lp ce:Δ) (q:Int×Int) (xs:List V) (Cs:List (List (Int×Int))),vs=[.ref lp,.ref ce]/\H lp=some (.lst xs)/\PwD H xs Cs/\Cs.length<=1000/\H ce=some (.tup [.int q.1,.int q.2]) /\
 ∀ (l:Δ) (qs:List (Int×Int)) (H':Hp),aj H H'->qs.Perm (prs Cs fun i=>decide (q∈Cs.getD i []))->qs.Pairwise Ts.ple->H' l=some (.lst ((qs.map (·.2)).map V.int))->Q (.ref l) H'
theorem ok_aD (T:Txt K mg t):aW P w K mg base CX0 2 t.f_aD t.d_aD ["_law_patches","_law_cell"] sp_aD:=by
 refine T.F_aD.ok sc_aD (by walk_at "l") (fun _ _ _ s H vs Q E hr h=>?_)
 ·obtain ⟨lp,ce,q,xs,Cs,rfl,el,pd,hz,hc,k⟩:=h;have lx:=pd.1;refine ⟨_,(ao (aD (bK (N:=["_law_size","_law_at"]) (cap:=[none,none]) rfl ⟨rfl,rfl,rfl,rfl,rfl,rfl⟩ (bz (aq (dH K rfl) rfl T.no_sorted (by rfl) (aa (bK (N:=["_law_at","_law_patch_here","_law_cell"]) (cap:=[none,none,some 1]) rfl ⟨rfl,rfl,rfl,rfl,rfl,rfl⟩ (nz rfl T.no_a1 (aa (pv 0) ae)) (fun _ _ _=>(cG (n:=2) K rfl rfl (aU (aw (i:=0) (show (["_law_at","_law_patch_here","_law_cell"]:List Str).Nodup by decide +kernel) rfl (E_ rfl)) (aU (aw (i:=1) (show (["_law_at","_law_patch_here","_law_cell"]:List Str).Nodup by decide +kernel) rfl (E_ rfl)) cH)))) (fun _ _ _=>(nE (xr (ny (ie hr) (pv 2) (pv 1))))) (fun _ _ _=>(bN (aa (aq iR rfl T.no_len (by rfl) (aa (pv 1) ae)) (aa (pv 0) ae))))) ae))) (fun _ _ _=>(cG (n:=2) K rfl rfl (aU (aw (i:=0) (show (["_law_size","_law_at"]:List Str).Nodup by decide +kernel) rfl (E_ rfl)) (aU (aw (i:=1) (show (["_law_size","_law_at"]:List Str).Nodup by decide +kernel) rfl (E_ rfl)) cH)))) (fun _ _ _=>bL) (fun _ _ _=>(pv 1))))),?_⟩;apply ⟨lp,rfl,⟨_,SqL.of el⟩,fun lc nc=>?_⟩;refine i9 (fun i=>decide (q∈Cs.getD i [])) (fun i=>(szC Cs i,((i:Nat):Int))) (SqL.of el) (by omega) nc (fun i x o1 o2 H' Q' hx s1 q'=>?_) (fun i x o1 o2 H' Q' hx _ s1 q'=>?_) (fun ys H1 s1 e1 pw=>?_)
  ·obtain ⟨d,kvs,rfl,hd,ke,_⟩:=pd.at hx;apply ⟨d,_,rfl,fz.t (k:=ky q) (s1 _ _ hd) (s1 _ _ hc),?_⟩;rw [ke.val];exact ⟨_,rfl,q' H' (aj.refl _)⟩
  ·obtain ⟨d,kvs,rfl,hd,ke,_⟩:=pd.at hx;apply ⟨d,_,rfl,s1 _ _ hd,?_⟩;apply nwT fun tp H2 stp ntp etp=>?_;refine q' tp H2 stp ?_;rw [etp,ke.len]; rfl
  left;rw [lx] at pw;refine gh e1 pw fun l2 zs qs n2 p2 pm so=>?_;have s2:=aj.new (o:=HO.lst zs) n2;have e2:=ag (H:=H1) (a:=l2) (o:=HO.lst zs);generalize upd H1 l2 (HO.lst zs)=H2 at s2 e2 p2 ⊢
  have lq:qs.length<=1000:=by
   rw [pm.length_eq,Ξ];have:=Gq (fun i=>decide (q∈Cs.getD i [])) (ED Cs.length)
   rw [Eo] at this;omega
  refine ⟨l2,rfl,⟨_,SqL.of e2⟩,fun l3 n3=>?_⟩;refine dM (·.2) (SqL.of e2) p2 (by rw [p2.1]; omega) n3 (fun q o1 o2 H' Q' _ _ q'=>?_) fun H3 s3 e3=>?_
  ·left;exact q'
  ·exact k l3 qs H3 ((s1.trans s2).trans s3) pm so e3
theorem sJ {α:Type} {f:α->Bool}:∀ {l:List α} {i:Nat} {x:α},l[i]?=some x->(∀ p∈l.take i,f p=false)->f x=true->l.find? f=some x
 | [],_,_,e,_,_=>by simp at e
 | a::l,0,x,e,_,h=>by
  simp only [E3,FN] at e;rw [Fx,e,h]
 | a::l,i+1,x,e,no,h=>by
  rw [Fx,no a (by simp)];exact sJ (i:=i) (by simpa using e) (fun p hp=>no p (by simp [hp])) h
noncomputable def nxt (Cs:List (List (Int×Int))) (at_:Nat) (p:Int×Int):Bool:=decide (p.2≠((at_:Nat):Int))&&decide (p.1 > szC Cs at_)&&(Cs.getD at_ []).all fun q=>decide (q∈Cs.getD p.2.toNat [])
noncomputable def nq (Cs:List (List (Int×Int))) (at_:Nat) (qs:List (Int×Int)):Int:=match qs.find? (nxt Cs at_) with
 | some p=>p.2
 | none=>-1
def sp_aS:Sp:=fun vs H Q _=>∃ (lp:Δ) (at_:Nat) (xs:List V) (Cs:List (List (Int×Int))),vs=[.ref lp,.int ((at_:Nat):Int)]/\H lp=some (.lst xs)/\PwD H xs Cs/\Cs.length<=1000/\at_<Cs.length/\(∀ C∈Cs,C.length<=1600) /\
 ∀ (qs:List (Int×Int)) (H':Hp),aj H H'->qs.Perm (prs Cs fun _=>true)->qs.Pairwise Ts.ple->Q (.int (nq Cs at_ qs)) H'
theorem ok_aS (T:Txt K mg t):aW P w K mg base CX0 2 t.f_aS t.d_aS ["_law_patches","_law_at"] sp_aS:=by
 refine T.F_aS.ok sc_aS (by walk_at "l") (fun _ _ _ s H vs Q E hr h=>?_)
 ·obtain ⟨lp,at_,xs,Cs,rfl,el,pd,hz,ha,few,k⟩:=h;have lx:=pd.1;refine ⟨_,(aK (bX En rfl (bz (aq (dH K rfl) rfl T.no_sorted (by rfl) (aa (bK (N:=["_law_k","_law_patch_here"]) (cap:=[none,none]) rfl ⟨rfl,rfl,rfl,rfl,rfl,rfl⟩ (nz rfl T.no_a1 (aa (pv 0) ae)) (fun _ _ _=>(cG (n:=2) K rfl rfl (aU (aw (i:=0) (show (["_law_k","_law_patch_here"]:List Str).Nodup by decide +kernel) rfl (E_ rfl)) (aU (aw (i:=1) (show (["_law_k","_law_patch_here"]:List Str).Nodup by decide +kernel) rfl (E_ rfl)) cH)))) (fun _ _ _=>bL) (fun _ _ _=>(bN (aa (aq iR rfl T.no_len (by rfl) (aa (pv 1) ae)) (aa (pv 0) ae))))) ae))) (cG (n:=2) K rfl rfl (aU (aw (i:=2) sc_aS.nd rfl (E_ rfl)) (aU (aw (i:=3) sc_aS.nd rfl (I_ rfl)) cH))) (ao (bD (PW.pt (fN (bU mj (pv 3) (pv 1)) (fN (bU wK (pv 2) (aq iR rfl T.no_len (by rfl) (aa (aF (aA K rfl) (pv 0) (pv 1)) ae))) (fi (bO (aq (mO K rfl rfl) rfl T.no_all (by rfl) (aa (xc P w rfl rfl (bK (N:=["_law_cell","_law_patches","_law_other"]) (cap:=[none,some 0,some 3]) rfl ⟨rfl,rfl,rfl,rfl,rfl,rfl⟩ (xh P w rfl rfl (aF (aA K rfl) (pv 0) (pv 1))) (fun _ _ _=>(aw (i:=0) (show (["_law_cell","_law_patches","_law_other"]:List Str).Nodup by decide +kernel) rfl (E_ rfl))) (fun _ _ _=>bL) (fun _ _ _=>(wX (ny (ie hr) (pv 0) (aF (aA K rfl) (pv 1) (pv 2))))))) ae))))))) (ao (aD (pv 3))) aM))) (ao (aD (fy dw ah)))),?_⟩;apply ⟨lp,rfl,⟨_,SqL.of el⟩,fun lc nc=>?_⟩;refine i9 (fun _=>true) (fun i=>(szC Cs i,((i:Nat):Int))) (SqL.of el) (by omega) nc (fun i x o1 o2 H' Q' hx s1 q'=>?_) (fun i x o1 o2 H' Q' hx _ s1 q'=>?_) (fun ys H1 s1 e1 pw=>?_)
  ·exact q' H' (aj.refl _)
  ·obtain ⟨d,kvs,rfl,hd,ke,_⟩:=pd.at hx;apply ⟨d,_,rfl,s1 _ _ hd,?_⟩;apply nwT fun tp H2 stp ntp etp=>?_;refine q' tp H2 stp ?_;rw [etp,ke.len]; rfl
  left;rw [lx] at pw;refine gh e1 pw fun l2 zs qs n2 p2 pm so=>?_;have s2:=s1.trans (aj.new (o:=HO.lst zs) n2);have e2:=ag (H:=H1) (a:=l2) (o:=HO.lst zs);generalize upd H1 l2 (HO.lst zs)=H2 at s2 e2 p2 ⊢;have k2:=fun H' (s':aj H2 H')=>k qs H' (s2.trans s') pm so;have hp:∀ p∈qs,∃ i,i<Cs.length/\p=(szC Cs i,((i:Nat):Int)):=fun p hp=>by
   obtain ⟨i,hi,e⟩:=EJ.mp (pm.mem_iff.mp hp);exact ⟨i,Et.mp (E7.mp hi).1,e.symm⟩
  refine ⟨l2,rfl,⟨_,SqL.of e2⟩,?_⟩;refine cK (a:=l2) (xs:=zs) (fun i σ' H'=>∃ (o2 o3:Option V),σ'=[some (.ref lp),some (.int ((at_:Nat):Int)),o2,o3]/\aj H2 H'/\∀ p∈qs.take i,nxt Cs at_ p=false)
   ⟨none,none,rfl,aj.refl _,fun p hp=>by simp at hp⟩ (fun i σ' H' _ ⟨_,_,_,z,_⟩=>SqL.of (z _ _ e2)) ?_ ?_
  ·rintro i v σ' H3 hv ⟨o2,o3,rfl,s3,no⟩;have hiz:=(Aw.mp hv).1;have hiq:i<qs.length:=by rw [<- p2.1]; exact hiz
   obtain ⟨b,rfl,hb⟩:=p2.2 i v _ hv (ξ hiq);obtain ⟨j,hj,ej⟩:=hp _ (Er hiq);have tk:qs.take (i+1)=qs.take i++[qs[i]]:=by rw [Ft,ξ hiq]; rfl
   have found:nxt Cs at_ qs[i]=true->nq Cs at_ qs=((j:Nat):Int):=fun h=>by
    have:qs.find? (nxt Cs at_)=some qs[i]:=sJ (ξ hiq) no h
    unfold nq;rw [this,ej]
   have next:nxt Cs at_ qs[i]=false->∀ p∈qs.take (i+1),nxt Cs at_ p=false:=fun h p hp=>by
    rw [tk,EE,Ax] at hp;rcases hp with z | z
    ·exact no p z
    ·rw [z]; exact h
   have eN:nxt Cs at_ qs[i]=(decide (((j:Nat):Int)≠((at_:Nat):Int))&&decide (szC Cs j > szC Cs at_)&&(Cs.getD at_ []).all fun q=>decide (q∈Cs.getD j [])):=by rw [ej]; unfold nxt; rfl
   rw [eN] at found next;rw [ej] at hb;have s23:=s2.trans s3;have pd3:=pd.mono s23;have el3:=s23 _ _ el;obtain ⟨dA,kA,xA,hA,keA⟩:=pd3.get ha;obtain ⟨dJ,kJ,xJ,hJ,keJ⟩:=pd3.get hj;have lA:((kA.length:Nat):Int)=szC Cs at_:=by unfold szC; rw [keA.len]
   refine fj (s3 _ _ hb) rfl ?_;left;by_cases c1:((j:Nat):Int)=((at_:Nat):Int)
   ·rw [bC c1];left;exact ⟨_,_,rfl,s3,next (by rw [cx (by simpa using c1)]; rfl)⟩
   ·rw [cx c1];apply aH (SqL.of el3) (v:=.ref dA) (bI xA) ?_;apply ⟨dA,_,rfl,hA,?_⟩;rw [lA];left;by_cases c2:szC Cs j > szC Cs at_
    ·rw [bC c2];have nJA:dJ≠dA:=fun e=>by
      rw [e,hA] at hJ
      cases hJ;have h1:=keA.len;have h2:=keJ.len;unfold szC at c2;omega
     apply ya ?_;apply uL ?_;apply aH (SqL.of el3) (v:=.ref dA) (bI xA) ?_;refine ⟨dA,kA,rfl,hA,fun F hF lb nb=>?_⟩;have sf:∀ {a:Δ} {o:HO},a≠dA->H3 a=some o->upd H3 dA F a=some o:=fun h e=>by rw [ai h]; exact e
     refine oX (fun k=>(aT kJ k).isSome) ag (by rw [keA.len]; have:=few (Cs.getD at_ []) (by rw [cF ha]; exact Er ha); omega) nb (fun i' k' v' b' o' H' Q' hk' hb' s' q'=>?_) (fun H' s' e'=>?_)
     ·have hb4:=s' _ _ (sf (aZ hb' hA (by intro z; cases z)) hb');apply aH (SqL.of (s' _ _ (sf (aZ el3 hA (by intro z; cases z)) el3))) (v:=.ref dJ) (bI xJ) ?_;apply ⟨dJ,_,rfl,fz.t (k:=k') (s' _ _ (sf nJA hJ)) hb4,?_⟩;exact q' H' (aj.refl _)
     ·have lbA:lb≠dA:=fun e=>by rw [e,ag] at nb; cases nb
      have e4:upd H' dA (.dT kA) lb=some (.lst ((kA.map fun kv=>(aT kJ kv.1).isSome).map V.bl)):=by rw [ai lbA,e',Ez]; rfl
      have s4:aj H3 (upd H' dA (.dT kA)):=fun a o e=>by
       by_cases c:a=dA
       ·rw [c,hA] at e
        cases e;rw [c,ag]
       ·rw [ai c];exact s' _ _ (sf c e)
      refine ⟨_,⟨H3,dA,kA,F,hF,fun b xs e=>s' _ _ (sf (aZ e hA (by intro z; cases z)) e),s' _ _ ag,rfl⟩,?_⟩
      have eall:(kA.map fun kv=>(aT kJ kv.1).isSome).all id=(Cs.getD at_ []).all fun q=>decide (q∈Cs.getD j []):=by
       have h1:(kA.map fun kv=>(aT kJ kv.1).isSome)=(kA.map (·.1)).map fun k=>(aT kJ k).isSome:=by rw [Ez]; rfl
       have h2:kA.map (·.1)=(Cs.getD at_ []).map ky:=keA;rw [h1,h2,Ez,List.all_map]
       congr 1
       funext q
       exact keJ.val q
      apply ri e4 ?_;rw [eall];generalize upd H' dA (.dT kA)=H4 at s4 ⊢;refine ⟨_,rfl,?_⟩
      cases c3:(Cs.getD at_ []).all fun q=>decide (q∈Cs.getD j []) with
      | true =>
       left;have:=k2 H4 (s3.trans s4)
       rw [found (by rw [c3,bC c2,bC c1]; rfl)] at this;exact this
      | false =>
       left;exact ⟨_,_,rfl,s3.trans s4,next (by rw [c3,Hw])⟩
    ·rw [cx c2];left;exact ⟨_,_,rfl,s3,next (by rw [cx c2,Hw,Js])⟩
  ·rintro σ' H3 ⟨o2,o3,rfl,s3,no⟩;left
   have e:nq Cs at_ qs=-1:=by
    unfold nq;rw [Mn.mpr fun p hp=>by rw [no p (by rw [p2.1,EN (Av _)]; exact hp)]; decide]
   rw [<- e];exact k2 H3 s3
end
section
theorem qL {cs rs:List Int} {e:Sm1} (h:Sm.cJ (nb cs rs) e.1 e.2):hd e∈e.2/\nb cs rs (hd e)≠[]:=by
 obtain ⟨a,b,l,z,hb,_⟩:=h.path;unfold hd;rw [z];exact ⟨Θ,fun z=>by rw [List.headD_cons] at z; rw [z] at hb; cases hb⟩
theorem sr {cs rs:List Int} {L:List Sm1} (h:cU cs rs L):L.Nodup:=by
 have key:∀ (L:List Sm1),(∀ e∈L,e.2≠[])->(cb L).Nodup->L.Nodup:=by
  intro L
  induction L with
  | nil => intro _ _; exact F0
  | cons e L ih =>
   intro hne hn;unfold cb at hn ih;rw [Hu,Ey] at hn;refine ER.mpr ⟨fun hm=>?_,ih (fun e he=>hne e (Au _ he)) hn.2.1⟩;obtain ⟨q,hq⟩:=List.exists_mem_of_ne_nil _ (hne e Θ);exact hn.2.2 q hq q (IF.mpr ⟨e,hm,hq⟩) rfl
 refine key L (fun e he z=>?_) h.nd;have:=(h.told e he).len
 rw [z] at this; simp at this
theorem oH {cs rs:List Int} {L L':List Sm1} (h:mI cs rs L) (h':mI cs rs L') {e:Sm1} (he:e∈L):e∈L':=by
 have td:=h.some.told e he;obtain ⟨m1,m2⟩:=qL td;obtain ⟨e',he',hq⟩:=ir.mp (h'.cov _ (fY td _ m1) m2);obtain ⟨z1,z2⟩:=td.uniq (dN cs rs) (h'.some.told e' he') m1 hq;rw [show e=e' from GY z1 z2]; exact he'
theorem si {cs rs:List Int} {L L':List Sm1} (h:mI cs rs L) (h':mI cs rs L'):L=L':=by
 have:=Sm.mX (c:=fun _=>true) (le:=fun a b=>Ts.ple (hd a) (hd b)) (sr h.some) (sr h'.some) h.srt h'.srt (fun a ha b hb h1 h2=>by
  have e:hd a=hd b:=Sm.xp h1 h2;have t1:=h.some.told a ha;have t2:=h.some.told b hb;obtain ⟨z1,z2⟩:=t1.uniq (dN cs rs) t2 (qL t1).1 (by rw [e]; exact (qL t2).1);exact GY z1 z2) fun e _=>⟨oH h h',oH h' h⟩
 rwa [J5.mpr fun _ _=>rfl,J5.mpr fun _ _=>rfl] at this
theorem qM {Ms Cs Cs':List (List (Int×Int))} (h:gU Ms Cs) (h':gU Ms Cs'):Cs=Cs':=by
 refine GS fun i=>?_;by_cases hi:i<Ms.length
 ·have h1:i<Cs.length:=by rw [h.1]; exact hi
  have h2:i<Cs'.length:=by rw [h'.1]; exact hi
  rw [ξ h1,ξ h2];exact congrArg some ((h.2 i _ _ (ξ hi) (ξ h1)).uniq (h'.2 i _ _ (ξ hi) (ξ h2)))
 ·rw [FJ (by rw [h.1]; omega),FJ (by rw [h'.1]; omega)]
end
section
variable {Cs:List (List (Int×Int))} {ps:Nat->Int×Int} {os:List Nat}
theorem BU (Cs:List (List (Int×Int))):∃ os,Ord Cs os:=by
 refine ⟨(ED Cs.length).mergeSort fun i j=>decide (szC Cs i<=szC Cs j),List.mergeSort_perm _ _,?_⟩;refine (List.pairwise_mergeSort (fun a b c h1 h2=>?_) (fun a b=>?_) _).imp fun {a b} h=>of_decide_eq_true h
 ·rw [decide_eq_true_eq] at *; omega
 ·rw [HZ,decide_eq_true_eq,decide_eq_true_eq]; omega
theorem iB {p:Nat->Bool} {x:Int×Int} (h:x∈prs Cs p):∃ i,i<Cs.length/\p i=true/\x=(szC Cs i,((i:Nat):Int)):=by
 obtain ⟨i,hi,e⟩:=EJ.mp h;rw [E7,Et] at hi;exact ⟨i,hi.1,hi.2,e.symm⟩
theorem mr {p:Nat->Bool} {qs:List (Int×Int)} (pm:qs.Perm (prs Cs p)) (so:qs.Pairwise Ts.ple):(qs.map fun x=>x.2.toNat).Perm ((ED Cs.length).filter p)/\(qs.map fun x=>x.2.toNat).Pairwise (fun i j=>szC Cs i<=szC Cs j)/\qs.map (·.2)=(qs.map fun x=>x.2.toNat).map fun i=>((i:Nat):Int):=by
 refine ⟨?_,?_,?_⟩
 ·have:=pm.map fun x:Int×Int=>x.2.toNat
  unfold prs at this;rw [Ez] at this;have e:((fun x:Int×Int=>x.2.toNat)∘fun i:Nat=>(szC Cs i,((i:Nat):Int)))=id:=by funext i; simp
  rw [e,MK] at this;exact this
 ·rw [Fd];refine so.imp_of_mem fun {a b} ha hb h=>?_;obtain ⟨i,_,_,rfl⟩:=iB (pm.mem_iff.mp ha);obtain ⟨j,_,_,rfl⟩:=iB (pm.mem_iff.mp hb);unfold Ts.ple at h;dsimp only at h ⊢;rw [FQ,FQ];omega
 ·rw [Ez];refine Ga fun a ha=>?_;obtain ⟨i,_,_,rfl⟩:=iB (pm.mem_iff.mp ha);simp
theorem Bp (n:Nst Cs ps) (o:Ord Cs os) {q:Int×Int} {qs:List (Int×Int)} (pm:qs.Perm (prs Cs fun i=>decide (q∈Cs.getD i []))) (so:qs.Pairwise Ts.ple):qs.map (·.2)=nums Cs os q:=by
 obtain ⟨h1,h2,h3⟩:=mr pm so;rw [h3,iu]
 congr 1
 have pa:(ar Cs os q).Perm ((ED Cs.length).filter fun i=>decide (q∈Cs.getD i [])):=o.pm.filter _;refine oy (f:=szC Cs) (h1.trans pa.symm) h2 (GB _ o.so) fun i hi j hj ne=>?_;have m1:=(iP o).mp (pa.mem_iff.mpr (h1.mem_iff.mp hi));have m2:=(iP o).mp (pa.mem_iff.mpr (h1.mem_iff.mp hj));exact n.ne i j q m1.1 m2.1 ne m1.2 m2.2
theorem BM (n:Nst Cs ps) {at_ i:Nat} (ha:at_<Cs.length) (hi:i<Cs.length):nxt Cs at_ (szC Cs i,((i:Nat):Int))=(decide (ps at_∈Cs.getD i [])&&decide (i≠at_)):=by
 unfold nxt;dsimp only;rw [FQ];by_cases c:i=at_
 ·subst c; simp
 ·have c':((i:Nat):Int)≠((at_:Nat):Int):=by omega
  rw [bC c',bC c,Bool.and_true,J7];by_cases m:ps at_∈Cs.getD i []
  ·obtain ⟨h1,h2⟩:=n.sub at_ i ha hi (FH c) m;rw [bC m,bC (show szC Cs i > szC Cs at_ from h2),J7,Fy];exact fun q hq=>bC (h1 q hq)
  ·rw [cx m,Jf];right
   rw [JG];intro z;exact m (of_decide_eq_true (Fy.mp z _ (n.own at_ ha)))
theorem CY (n:Nst Cs ps) (o:Ord Cs os) {at_:Nat} (ha:at_<Cs.length) {qs:List (Int×Int)} (pm:qs.Perm (prs Cs fun _=>true)) (so:qs.Pairwise Ts.ple):nq Cs at_ qs=nx Cs os (ps at_):=by
 obtain ⟨h1,h2,h3⟩:=mr pm so;have o':Ord Cs (qs.map fun x=>x.2.toNat):=⟨by rw [J5.mpr fun _ _=>rfl] at h1; exact h1,h2⟩
 obtain ⟨r,er⟩:=oI n o ha;have er':ar Cs (qs.map fun x=>x.2.toNat) (ps at_)=at_::r:=by rw [su n o' o]; exact er
 have nd:(at_::r).Nodup:=by
  rw [<- er];unfold ar;exact GB _ (o.pm.nodup_iff.mpr List.nodup_range)
 have hf:∀ x∈qs,nxt Cs at_ x=(decide (ps at_∈Cs.getD x.2.toNat [])&&decide (x.2.toNat≠at_)):=fun x hx=>by
  obtain ⟨i,hi,_,rfl⟩:=iB (pm.mem_iff.mp hx);rw [BM n ha hi];dsimp only;rw [FQ]
 have key:(qs.find? (nxt Cs at_)).map (fun x=>x.2.toNat)=r.head?:=by
  have e1:qs.find? (nxt Cs at_)=qs.find? fun x=>decide (ps at_∈Cs.getD x.2.toNat [])&&decide (x.2.toNat≠at_):=by
   clear pm so h1 h2 h3 o' er'
   induction qs with
   | nil=>rfl
   | cons x qs ih =>
    rw [Fx,Fx,hf x Θ,ih fun y hy=>hf y (Au _ hy)]
  have e2:(qs.find? fun x=>decide (ps at_∈Cs.getD x.2.toNat [])&&decide (x.2.toNat≠at_)).map (fun x=>x.2.toNat)=(qs.map fun x=>x.2.toNat).find? fun i=>decide (ps at_∈Cs.getD i [])&&decide (i≠at_):=by
   rw [List.find?_map]; rfl
  have e3:(qs.map fun x=>x.2.toNat).find? (fun i=>decide (ps at_∈Cs.getD i [])&&decide (i≠at_))=((qs.map fun x=>x.2.toNat).filter fun i=>decide (ps at_∈Cs.getD i [])).find? fun i=>decide (i≠at_):=by
   rw [List.find?_filter]
   congr 1
   funext i
   simp
  rw [e1,e2,e3]
  show (ar Cs (qs.map fun x=>x.2.toNat) (ps at_)).find? (fun i=>decide (i≠at_))=_
  rw [er',Fx,cx (by simp)]
  cases r with
  | nil => rfl
  | cons k r =>
   rw [Fx,bC (show k≠at_ from fun z=>(ER.mp nd).1 (by rw [<- z]; exact Θ))];rfl
 unfold nx nq;rw [er]
 show _=nxr r
 cases q:qs.find? (nxt Cs at_) with
 | none =>
  rw [q] at key
  cases r with
  | nil => rfl
  | cons k r => cases key
 | some x =>
  rw [q] at key
  cases r with
  | nil => cases key
  | cons k r =>
   have e:x.2.toNat=k:=E4 key;obtain ⟨i,_,_,rfl⟩:=iB (pm.mem_iff.mp (LU q))
   show ((i:Nat):Int)=_
   rw [<- e]; simp [nxr]
end
section
variable {K:W.Frag} {σ:L2.St} {H:Hp} {Q:VK} {te:TE} {cap:List (Option Nat)} {l:Δ}
theorem fF {a:Δ} {xs:List V} (R:Nat->V->Hp->Prop) (hs:SqL K H a xs) (hz:xs.length<2000) (hl:H l=none) (mS:∀ i v H1 H2,aj H1 H2->R i v H1->R i v H2) (mU:∀ i v H1 ys o,H1 l=some (.lst ys)->R i v H1->R i v (upd H1 l o))
  (step:∀ (i:Nat) x o H' (Q':VK),xs[i]?=some x->aj H H'->(∀ v H5,aj H' H5->R i v H5->Q' v H5)->te (((cT (none::cap) σ).set 0 o).set 0 (some x)) H' Q')
  (fin:∀ (ys:List V) H',aj H H'->H' l=some (.lst ys)->ys.length=xs.length->(∀ (i:Nat) v,ys[i]?=some v->R i v H')->Q (.ref l) H'):fu (Itl K a) (cR 0) fX te (none::cap) l σ H Q:=by
 refine ⟨xs.length,fun i ys σ' H'=>(ys.length=i/\∀ (j:Nat) v,ys[j]?=some v->R j v H')/\(∃ o,σ'=(cT (none::cap) σ).set 0 o)/\aj H H'/\H' l=some (.lst ys),⟨⟨rfl,fun j b e=>by simp at e⟩,⟨none,rfl⟩,aj.new hl,ag⟩,?_,?_⟩
 ·rintro i ys σ' H' hi ⟨⟨la,hR⟩,⟨o,rfl⟩,s,e⟩;refine ⟨⟨xs,xs[i],s.seq hs,by simp [hi]⟩,fun x H2 y=>?_⟩;obtain ⟨e2,y⟩:=y;subst e2;have hx:=y xs (s.seq hs);refine bY (da (jW ?_));refine step i x o H2 _ hx s fun v H5 s5 r=>⟨s5 _ _ e,aR (by omega),⟨by rw [DZ,la]; rfl,fun j c ej=>?_⟩,⟨_,HB ..⟩,(s.trans s5).later hl,ag⟩
  by_cases hj:j<ys.length
  ·rw [FO hj] at ej;exact mU j c _ _ _ (s5 _ _ e) (mS j c _ _ s5 (hR j c ej))
  ·rw [E1 (by omega)] at ej
   have hj0:j - ys.length=0:=by
    have hh:=(Aw.mp ej).1;rw [EO] at hh;omega
   have hji:j=i:=by omega
   rw [hj0] at ej
   cases ej;subst hji;exact mU j v _ _ _ (s5 _ _ e) r
 ·rintro ys σ' H' ⟨⟨la,hR⟩,_,s,e⟩;exact ⟨⟨xs,s.seq hs,H_ rfl⟩,fin ys H' s e la hR⟩
end
section
variable {P:D_} {w:Eh} {K:W.Frag} {mg:Str->Option ς} {base:E5} {t:Ad}
theorem tX {K:W.Frag} {c P:Δ} {od:Option Δ} {sl:Array (Option ς)} {vs:Array ς} (l:K.lookup c=some ⟨.type "code",od,.fields vs,sl⟩)
  (h:((match (vs[11]?:Option ς) with | some (.ref P')=>P'==P | _=>false)&&(match vs.getD 18 .none with | .str _ _=>true | _=>false)&&(match vs.getD 7 .none with | .int _ _=>true | _=>false)&&(match vs.getD 9 .none with | .bool _=>true | _=>false)&&(match vs.getD 10 .none with | .int _ _=>true | _=>false)&&c != P)=true):W.codeHdIn K c P=true:=by
 unfold W.codeHdIn;rw [l];exact h
structure jJ (C P:Δ) (H:Hp) (ls lp ld p:Δ) (zs:List Int) (s:Int) (cs rs:List Int) (xs:List V) (Cs:List (List (Int×Int))) (ds:List Int):Prop where
 so:H ls=some (.lst (zs.map V.int))
 cl:aP C H p s cs rs
 pt:H lp=some (.lst xs)
 pd:PwD H xs Cs
 du:H ld=some (.lst (ds.map V.int))
 hi:Hit P m7 m9 H
section
variable {C P' ls lp ld p:Δ} {H H':Hp} {zs:List Int} {s:Int} {cs rs:List Int} {xs:List V} {Cs:List (List (Int×Int))} {ds:List Int}
theorem jJ.mono (h:jJ C P' H ls lp ld p zs s cs rs xs Cs ds) (e:aj H H'):jJ C P' H' ls lp ld p zs s cs rs xs Cs ds:=⟨e _ _ h.so,h.cl.mono e,e _ _ h.pt,h.pd.mono e,e _ _ h.du,h.hi.mono e⟩
theorem jJ.upd {l:Δ} {us:List V} {o:HO} (h:jJ C P' H ls lp ld p zs s cs rs xs Cs ds) (e:H l=some (.lst us)) (n1:ls≠l) (n2:lp≠l) (n3:ld≠l):jJ C P' (L2.upd H l o) ls lp ld p zs s cs rs xs Cs ds:=by
 obtain ⟨dx,a,b,h1,h2,h3⟩:=h.cl.ob;refine ⟨by rw [ai n1]; exact h.so,⟨dx,a,b,by rw [ai (aZ h1 e (by intro z; cases z))]; exact h1,by rw [ai (aZ h2 e (by intro z; cases z))]; exact h2,by rw [ai (aZ h3 e (by intro z; cases z))]; exact h3⟩,by rw [ai n2]; exact h.pt,⟨h.pd.1,fun i v C h1 h2=>?_⟩,by rw [ai n3]; exact h.du,h.hi.upd e (by intro _ z; cases z) (by intro _ z; cases z)⟩;obtain ⟨d,kvs,e1,e2,e3⟩:=h.pd.2 i v C h1 h2;exact ⟨d,kvs,e1,by rw [ai (aZ e2 e (by intro z; cases z))]; exact e2,e3⟩
end
def Bl (H:Hp) (us:List V):Prop:=us=[]\/∃ b r ys,us=.ref b::r/\H b=some (.tup ys)
theorem pW {H:Hp} {us:List V} {l m:Δ} {zs:List Int} (h:Bl H us) (e:H l=some (.lst us)) (e':H m=some (.lst (zs.map V.int))) (ne:zs≠[]):m≠l:=aZ e' e (by
 intro z;injection z with z;rcases h with h | ⟨b,r,ys,h,_⟩
 ·rw [h] at z; exact ne (J2.mp z)
 ·rw [h] at z
  cases zs with
  | nil => exact ne rfl
  | cons y zs => cases z)
theorem xt {H:Hp} {us xs:List V} {l m d:Δ} {kvs:List (List Key×V)} (h:Bl H us) (e:H l=some (.lst us)) (e':H m=some (.lst xs)) (h0:xs[0]?=some (.ref d)) (hd:H d=some (.dT kvs)):m≠l:=aZ e' e (by
 intro z;injection z with z;rw [z] at h0;rcases h with h | ⟨b,r,ys,h,hb⟩
 ·rw [h] at h0; cases h0
 ·rw [h] at h0
  cases h0;rw [hb] at hd
  cases hd)
theorem CV:∀ {C:List (Int×Int)},C.Nodup->(C.map ky).Nodup:=fun h=>by
 unfold LH;rw [Fd];exact IW (fun {a b} (h:a≠b) z=>h (iW z)) h
def sp_law (K:W.Frag):Sp:=fun vs H Q _=>∃ (a:Δ) (ns:List Int),vs=[.ref a]/\SqL K H a (ns.map V.int)/\ns.length<=63/\(∃ c P,W.tabIn K "numbers_around"=some (c,P)/\H P=some (.tbl #[]))/\∀ H',Q (.bl true) H'
theorem BN (T:Txt K mg t) (KB:K.In base) (hB:base.BuiltinsAt mg t.tp_numbersaround):aW P w K mg base CX0 16 t.f_law t.d_law ["_law_script"] (sp_law K):=by
  have G_aH:=ok_aH (P:=P) (w:=w) (base:=base) T KB hB;have G_as:=ok_as (P:=P) (w:=w) (base:=base) T KB hB;refine T.F_law.ok cE (fun vs H Q E h=>?_) (fun cdv A outer s H vs Q E hr h=>?_)
  · obtain ⟨a,ns,rfl,_⟩:=h; rfl
  · obtain ⟨a,ns,rfl,hS,hl,⟨c0,P0,hP0,tb⟩,z⟩:=h
    rw [T.tb_numbersaround] at hP0;injection hP0 with hP0;injection hP0 with _ hP0;rw [<- hP0] at tb;clear hP0;refine aN (fg (i:=1) cE.nd rfl (I_ rfl) (au (ok_aB T) (rmo hr) rfl T.mg_aB T.F_aB.kp T.b_aB .nil aS (aa (pv 0) (aa ah ae)))) fun _ _=>aN (aO 2 cE.nd (au (ok_aT T) (rmo hr) rfl T.mg_aT T.F_aT.kp T.b_aT .nil aS (aa (pv 1) ae))) fun _ _=>aN (aO 3 cE.nd (au (ok_aU T) (rmo hr) rfl T.mg_aU T.F_aU.kp T.b_aU .nil aS (aa (pv 2) ae))) fun _ _=>aN (fg (i:=4) cE.nd rfl (I_ rfl) (aE bB (aq (bu K rfl) rfl T.no_len (by rfl) (aa (aF (bw K rfl) (pv 2) ah) ae)) ah)) fun _ _=>aN (fg (i:=5) cE.nd rfl (I_ rfl) (aE bB (aq (bu K rfl) rfl T.no_len (by rfl) (aa (aF (bw K rfl) (pv 2) ah) ae)) ah)) fun _ _=>aN (fg (i:=6) cE.nd rfl (I_ rfl) (bK (N:=["_law_line"]) (cap:=[none]) rfl ⟨rfl,rfl,rfl,rfl,rfl,rfl⟩ (bz (au (ok_at T) (rmo hr) rfl T.mg_at T.F_at.kp T.b_at .nil aS (aa (pv 3) ae))) (fun _ _ _=>(aw (i:=0) (show (["_law_line"]:List Str).Nodup by decide +kernel) rfl (E_ rfl))) (fun _ _ _=>bL) (fun _ _ _=>(eQ (vC rfl hr.units) rfl T.no_dict (by rfl) (aa (bK (N:=["_law_cell"]) (cap:=[none]) rfl ⟨rfl,rfl,rfl,rfl,rfl,rfl⟩ (xj K rfl (au (ok_ay T) (rmo hr) rfl T.mg_ay T.F_ay.kp T.b_ay .nil aS (aa (pv 0) ae))) (fun _ _ _=>(aw (i:=0) (show (["_law_cell"]:List Str).Nodup by decide +kernel) rfl (E_ rfl))) (fun _ _ _=>bL) (fun _ _ _=>(bN (aa (pv 0) (aa eu ae))))) ae))))) fun _ _=>aN (nB (i:=7) cE.nd rfl (E_ rfl) (N:=["_law_at","_law_patches"]) (cap:=[none,some 6]) rfl ⟨rfl,rfl,rfl,rfl,rfl,rfl⟩ (cC rfl T.no_ai (aa (aq (bu K rfl) rfl T.no_len (by rfl) (aa (pv 6) ae)) ae)) (fun _ _ _=>(aw (i:=0) (show (["_law_at","_law_patches"]:List Str).Nodup by decide +kernel) rfl (E_ rfl))) (fun _ _ _=>bL) (fun _ _ _=>(au (ok_aS T) (rmo hr) rfl T.mg_aS T.F_aS.kp T.b_aS .nil aS (aa (pv 1) (aa (pv 0) ae)))) (by rfl)) fun _ _=>aN (aO 8 cE.nd (au G_aH (rmo hr) rfl T.mg_aH T.F_aH.kp T.b_aH .nil aS (aa (pv 3) ae))) fun _ _=>aN (bD (cY (bO (au (ok_aE T) (rmo hr) rfl T.mg_aE T.F_aE.kp T.b_aE .nil aS (aa (pv 8) (aa (pv 7) ae))))) (ao (aD eu)) aM) fun _ _=>aN (bo (cV EM Ed Ec ba (pv 8) (aa (fy dw ah) ae))) fun _ _=>aN (bX En rfl (bz (au (ok_at T) (rmo hr) rfl T.mg_at T.F_at.kp T.b_at .nil aS (aa (pv 3) ae))) (aw (i:=9) cE.nd rfl (E_ rfl)) (ao (bo (wQ EM PySem.F.slot_list_clear PySem.F.type_list_clear wg (pv 9))))) fun _ _=>aN (nB (i:=10) cE.nd rfl (E_ rfl) (N:=["_law_k","_law_some","_law_wide","_law_tall"]) (cap:=[none,some 1,some 4,some 5]) rfl ⟨rfl,rfl,rfl,rfl,rfl,rfl⟩ (cC rfl T.no_ai (aa ah ae)) (fun _ _ _=>(aw (i:=0) (show (["_law_k","_law_some","_law_wide","_law_tall"]:List Str).Nodup by decide +kernel) rfl (E_ rfl))) (fun _ _ _=>bL) (fun _ _ _=>(bN (aa (aE cf (aF (aA K rfl) (pv 1) (aE bB ah (aE fM ah (pv 0)))) (pv 2)) (aa (aE cf (aF (aA K rfl) (pv 1) (aE bB ah (aE fM ah (pv 0)))) (pv 3)) ae)))) (by rfl)) fun _ _=>aN (bX En rfl (bz (aE wJ (pv 10) (bK (N:=["_law_patch_here"]) (cap:=[none]) rfl ⟨rfl,rfl,rfl,rfl,rfl,rfl⟩ (bz (pv 6)) (fun _ _ _=>(aw (i:=0) (show (["_law_patch_here"]:List Str).Nodup by decide +kernel) rfl (E_ rfl))) (fun _ _ _=>bL) (fun _ _ _=>(aF (aA K rfl) (aq (qC rfl) rfl T.no_sorted (by rfl) (aa (pv 0) ae)) ah))))) (aw (i:=11) cE.nd rfl (E_ rfl)) (ao (bX En rfl (cC rfl T.no_ai (aa ah ae)) (aw (i:=12) cE.nd rfl (E_ rfl)) (aK (aO 8 cE.nd (au G_as (rmo hr) rfl T.mg_as T.F_as.kp T.b_as .nil aS (aa (pv 3) (aa (aF (bw K rfl) (pv 11) ah) (aa (aF (bw K rfl) (pv 11) ah) ae))))) (aK (bD (cY (bO (au (ok_aE T) (rmo hr) rfl T.mg_aE T.F_aE.kp T.b_aE .nil aS (aa (pv 8) (aa (au (ok_aD T) (rmo hr) rfl T.mg_aD T.F_aD.kp T.b_aD .nil aS (aa (pv 6) (aa (pv 11) ae))) ae))))) (ao (aD eu)) aM) (ao (bo (cV EM Ed Ec ba (pv 8) (aa (fy dw ah) ae))))))))) fun _ _=>aN (bX En rfl (bz (cg (aa (bN (aa (fy dw ah) (aa ah ae))) (aa (bN (aa (pv 4) (aa ah ae))) (aa (bN (aa ah (aa (pv 5) ae))) (aa (bN (aa (aE dk (pv 4) ah) (aa (fy dw ah) ae))) ae)))))) (cG (n:=2) K rfl rfl (aU (aw (i:=13) cE.nd rfl (E_ rfl)) (aU (aw (i:=14) cE.nd rfl (E_ rfl)) cH))) (ao (bD (bU (qZ hr.units) (au (ok_ad T) (rmo hr) rfl T.mg_ad T.F_ad.kp T.b_ad .nil aS (aa (pv 3) (aa (pv 13) (aa (pv 14) ae)))) (au (ok_aX T) (rmo hr) rfl T.mg_aX T.F_aX.kp T.b_aX .nil aS (aa bS ae))) (ao (aD eu)) aM))) fun _ _=>dY (aD (au (ok_aE T) (rmo hr) rfl T.mg_aE T.F_aE.kp T.b_aE .nil aS (aa (au G_aH (rmo hr) rfl T.mg_aH T.F_aH.kp T.b_aH .nil aS (aa (pv 3) ae)) (aa (pv 7) ae)))) fun _ _=>?_;apply ⟨a,24,ns,rfl,hS,hl,by decide,fun ls zs H1 s1 es lz _ sm=>?_⟩;apply ⟨ls,zs,rfl,es,by omega,fun pp s cs rs H2 s2 pl=>?_⟩;apply ⟨pp,true,s,cs,rs,rfl,pl,fun p H3 s3 hC=>?_⟩;have pl:=pl.mono s3;have s13:=s2.trans s3;have es:=s13 _ _ es;have tb3:=(s1.trans s13) _ _ tb;obtain ⟨⟨c,r,hp,hc,hr'⟩,shh,bc,br⟩:=id pl;have lc:cs.length<=39:=bc.1;have lr:rs.length<=39:=br.1;apply bH (SqT.of hp) (v:=.ref c) rfl ?_;apply bA hc ?_;rw [Ξ];apply bH (SqT.of hp) (v:=.ref r) rfl ?_;apply bA hr' ?_;rw [Ξ];left;clear s1 s2 s3 s13 pl hp hc hr' tb;refine ⟨p,s,cs,rs,rfl,hC,lc,lr,fun ll ys L H4 s4 nll ell al py=>?_⟩;have ly:=py.1;have fw:=rm lc lr al.some;have ok4:∀ M∈Rs L,Bm M:=fun M hM=>yh lc lr al.some hM;apply ⟨⟨_,SqL.of ell⟩,fun lp nlp=>?_⟩;refine fF (fun i v H'=>∃ C,DcV H' v C/\∀ M,(Rs L)[i]?=some M->iO M C) (SqL.of ell) (by omega) nlp (fun i v H1 H2 s ⟨C,⟨d,kvs,e1,e2,e3⟩,h⟩=>⟨C,⟨d,kvs,e1,s _ _ e2,e3⟩,h⟩)
      (fun i v H1 ys o e ⟨C,⟨d,kvs,e1,e2,e3⟩,h⟩=>⟨C,⟨d,kvs,e1,by rw [ai (aZ e2 e (by intro z; cases z))]; exact e2,e3⟩,h⟩) (fun i x o H' Q' hx s5 q=>?_) (fun xs H5 s5 elp lxs hR=>?_)
    · have hi:=(Aw.mp hx).1
      have hiM:i<(Rs L).length:=by rw [<- ly]; exact hi
      obtain ⟨l,us,rfl,hl,pz⟩:=py.2 i x _ hx (ξ hiM);obtain ⟨m1,cy,bx⟩:=ok4 _ (Er hiM);apply ⟨l,us,(Rs L)[i],rfl,s5 _ _ hl,pz.mono s5,m1,cy,bx,fun lq uq C H6 s6 nq' eq' pq ic=>?_⟩;have fC:=ij cy bx ic.nd fun q hq=>(ic.ms q).mp hq;apply ⟨⟨_,SqL.of eq'⟩,fun lt nlt=>?_⟩;refine fF (fun j v H'=>∃ b c,v=.ref b/\H' b=some (.tup [.ref c,.bl true])/\∀ q,C[j]?=some q->H' c=some (.tup ((ky q).map kV))) (SqL.of eq') (by rw [pq.1]; omega) nlt (fun j v H1 H2 s ⟨b,c,e1,e2,e3⟩=>⟨b,c,e1,s _ _ e2,fun q hq=>s _ _ (e3 q hq)⟩)
        (fun j v H1 ys o e ⟨b,c,e1,e2,e3⟩=>⟨b,c,e1,by rw [ai (aZ e2 e (by intro z; cases z))]; exact e2,fun q hq=>by rw [ai (aZ (e3 q hq) e (by intro z; cases z))]; exact e3 q hq⟩) (fun j x o H' Q' hx s7 q=>?_) (fun ws H7 s7 ew lw hW=>?_)
      · have hj:j<C.length:=by rw [<- pq.1]; exact (Aw.mp hx).1
        obtain ⟨c,rfl,hc⟩:=pq.2 j x _ hx (ξ hj);apply nwT fun tp H7 stp ntp etp=>?_;refine q (.ref tp) H7 stp ⟨tp,c,rfl,etp,fun q' hq'=>?_⟩;rw [ξ hj] at hq'
        cases hq';exact stp _ _ (s7 _ _ hc)
      apply xM (ps:=C.map fun q=>(ky q,V.bl true)) ew ⟨by rw [lw,Ξ,pq.1],fun j y p h1 h2=>?_⟩ (by rw [Ez]; exact CV ic.nd) (by rw [Ξ]; omega) fun d nd=>?_
      · rw [EU] at h2
        obtain ⟨q',hq',rfl⟩:=G6.mp h2;obtain ⟨b,c,e1,e2,e3⟩:=hW j y h1;exact ⟨b,c,e1,e2,e3 q' hq'⟩
      · refine q (.ref d) _ (s6.trans (s7.trans (aj.new nd))) ⟨C,⟨d,_,rfl,ag,by unfold bR; rw [Ez]; rfl⟩,fun M hM=>?_⟩
        rw [ξ hiM] at hM
        cases hM;exact ic
    obtain ⟨Cs,lCs,hCs⟩:=fE (R:=fun i v C=>DcV H5 v C/\∀ M,(Rs L)[i]?=some M->iO M C) fun i v e=>hR i v e;have icL:gU (Rs L) Cs:=⟨by omega,fun i M C h1 h2=>by
      have hi:i<xs.length:=by rw [<- lCs]; exact (Aw.mp h2).1
      exact (hCs i _ C (ξ hi) h2).2 M h1⟩
    have pd5:PwD H5 xs Cs:=⟨lCs.symm,fun i v C h1 h2=>(hCs i v C h1 h2).1⟩
    have few:∀ C∈Cs,C.length<=1600:=fun C hC'=>by
      obtain ⟨i,hi⟩:=Ep.mp hC';have hiM:i<(Rs L).length:=by rw [<- icL.1]; exact (Aw.mp hi).1
      have ic:=icL.2 i _ C (ξ hiM) hi;obtain ⟨m1,cy,bx⟩:=ok4 _ (Er hiM);exact ij cy bx ic.nd fun q hq=>(ic.ms q).mp hq
    have inn:∀ (i:Nat),i<Cs.length->∀ q∈Cs.getD i [],ig q.1 q.2 cs rs:=fun i hi q hq=>by
      have hiM:i<(Rs L).length:=by rw [<- icL.1]; exact hi
      have ic:=icL.2 i _ _ (ξ hiM) (ξ hi);rw [cF hi] at hq;have td:=jB al.some (Er hiM);exact (kQ td).box (fun p' hp'=>by have:=fY td p' hp'; unfold dz at this; omega) ((ic.ms q).mp hq)
    have nst:=wA al.some icL;obtain ⟨os,od⟩:=BU Cs;have lC:Cs.length<=1000:=by rw [icL.1]; exact fw
    have hCn:∀ os',Ord Cs os'->∀ q,ar Cs os' q=ar Cs os q:=fun os' o' q=>su nst o' od q;have uq:∀ {L':List Sm1} {Cs':List (List (Int×Int))},mI cs rs L'->gU (Rs L') Cs'->L'=L/\Cs'=Cs:=fun h1 h2=>by
      have e:=si h1 al;subst e;exact ⟨rfl,qM h2 icL⟩
    generalize hps:(fun i=>p0 ((Rs L).getD i []))=ps at nst;have hps':∀ i,p0 ((Rs L).getD i [])=ps i:=fun i=>congrFun hps i;clear hR hCs hps ok4;have s45:=s4.trans s5;have hC:=hC.mono s45;have es:=s45 _ _ es;have tb5:=s45 _ _ tb3;clear s4 s5 s45 tb3 py ell nlp nll;apply bA elp ?_;refine ⟨_,rfl,by omega,by omega,?_⟩;rw [FQ];refine fun ldu ndu=>?_;refine fG (fun i=>V.int (nx Cs os (ps i))) (by omega) ndu (fun i o H' Q' hi s6 q=>?_) (fun H6 s6 edu0=>?_)
    · rw [Ir]
      apply ⟨lp,i,xs,Cs,rfl,s6 _ _ elp,pd5.mono s6,lC,by omega,few,fun qs H7 s7 pm so=>?_⟩;rw [CY nst od (by omega) pm so];exact q H7 s7
    have edu:H6 ldu=some (.lst (((ED Cs.length).map fun i=>nx Cs os (ps i)).map V.int)):=by rw [edu0,<- lCs,Ez]; rfl
    clear edu0;have es:=s6 _ _ es;have hC:=hC.mono s6;have elp:=s6 _ _ elp;have pd6:=pd5.mono s6;have tb6:=s6 _ _ tb5;clear s6 pd5 tb5 ndu;generalize hds:((ED Cs.length).map fun i=>nx Cs os (ps i))=ds at edu;have lds:ds.length=Cs.length:=by rw [<- hds,Ξ,Eo]
    apply ⟨p,s,cs,rs,rfl,hC,lc,lr,dZ.new tb6,fun lnf L' Cs' os' H7 tr nlf al' ic' od' enf=>?_⟩;obtain ⟨eL,eC⟩:=uq al' ic';subst eL eC
    have enf:H7 lnf=some (.lst (ds.map V.int)):=by
      rw [enf,<- hds,Ez]
      congr 2
      refine Ga fun i _=>?_;rw [hps']
      show V.int (nx Cs' os' (ps i))=V.int (nx Cs' os (ps i))
      unfold nx;rw [hCn os' od']
    have lw7:jJ t.a_af t.tp_numbersaround H7 ls lp ldu p zs s cs rs xs Cs' ds:=by
      obtain ⟨dx,a,b,h1,h2,h3⟩:=hC.ob;refine ⟨tr.lst tb6 es (by intro _ z; cases z),⟨dx,a,b,tr.lst tb6 h1 (by intro _ z; cases z),tr.lst tb6 h2 (by intro _ z; cases z),tr.lst tb6 h3 (by intro _ z; cases z)⟩,tr.lst tb6 elp (by intro _ z; cases z),⟨pd6.1,fun i v C h1 h2=>?_⟩,tr.lst tb6 edu (by intro _ z; cases z),tr.2.2⟩;obtain ⟨d,kvs,e1,e2,e3⟩:=pd6.2 i v C h1 h2;exact ⟨d,kvs,e1,tr.lst tb6 e2 (by intro _ z; cases z),e3⟩
    have n1:ls≠lnf:=aC es nlf;have n2:lp≠lnf:=aC elp nlf;have n3:ldu≠lnf:=aC edu nlf;clear tr es elp pd6 edu tb6 al' ic' hC;apply ⟨.ref lnf,.ref ldu,.list (ds.map IB),rfl,j4 (by omega),eS enf,eS lw7.du,fun H8 s8=>?_⟩;have enf8:=s8 _ _ enf;have lw8:=lw7.mono s8;apply bP enf8 ?_;apply aV enf8 (by rw [Ξ]; exact aR (by omega)) ?_;have lw9:=lw8.upd (o:=.lst (ds.map V.int++[.int (-1)])) enf8 n1 n2 n3;generalize upd H8 lnf (.lst (ds.map V.int++[.int (-1)]))=H9 at lw9 ⊢;clear lw7 lw8 s8 enf enf8 n1 n2 n3;apply ⟨p,s,cs,rs,rfl,lw9.cl,lc,lr,fun l2 y2 L2 H10 s10 nl2 el2 al2 py2=>?_⟩;have eL2:=si al2 al;subst eL2;have lw10:=lw9.mono s10;refine ⟨l2,rfl,⟨_,SqL.of el2⟩,?_⟩;have zne:zs≠[]:=fun e=>by rw [e] at lz; simp at lz
    have ly2:y2.length=Cs'.length:=by rw [py2.1,icL.1]
    have first:∀ (H':Hp),jJ t.a_af t.tp_numbersaround H' ls lp ldu p zs s cs rs xs Cs' ds->0<Cs'.length->ds≠[]/\∃ d kvs,xs[0]?=some (.ref d)/\H' d=some (.dT kvs):=fun H' lw h0=>by
      refine ⟨fun e=>by rw [e] at lds; simp at lds; omega,?_⟩;obtain ⟨d,kvs,h1,h2,_⟩:=lw.pd.get h0;exact ⟨d,kvs,h1,h2⟩
    refine cK (a:=l2) (xs:=y2) (fun i σ' H'=>∃ (o9:Option V),σ'=[some (.ref a),some (.ref ls),some (.ref pp),some (.ref p),some (.int ((cs.length:Nat)+1)),some (.int ((rs.length:Nat)+1)),some (.ref lp),some (.ref ldu),some (.ref lnf),o9,none,none,none,none,none] /\
        jJ t.a_af t.tp_numbersaround H' ls lp ldu p zs s cs rs xs Cs' ds/\H' l2=some (.lst y2)/\∀ v∈y2,∃ l us,v=.ref l/\H' l=some (.lst us)/\Bl H' us)
      ⟨none,rfl,lw10,el2,fun v hv=>?_⟩ (fun i σ' H' _ ⟨_,_,_,z,_⟩=>SqL.of z) ?_ ?_
    · obtain ⟨i,hi⟩:=Ep.mp hv
      have hiM:i<(Rs L2).length:=by rw [<- py2.1]; exact (Aw.mp hi).1
      obtain ⟨l,us,e1,e2,e3⟩:=py2.2 i v _ hi (ξ hiM);refine ⟨l,us,e1,e2,?_⟩
      cases us with
      | nil=>exact .inl rfl
      | cons u us =>
        have h0:0<(Rs L2)[i].length:=by rw [<- e3.1]; simp
        obtain ⟨b,rfl,hb⟩:=e3.2 0 u _ rfl (ξ h0);exact .inr ⟨b,us,_,rfl,hb⟩
    · rintro i v σ' H11 hv ⟨o9,rfl,lw,e2,hall⟩
      have hv':=EW hv;obtain ⟨l,us,rfl,hl,pt⟩:=hall v hv';have h0:0<Cs'.length:=by rw [<- ly2]; exact JX hv'
      obtain ⟨dne,d0,k0,hx0,hd0⟩:=first H11 lw h0;have nl:l2≠l:=fun e=>by
        rw [<- e,e2] at hl
        cases hl;rcases pt with h | ⟨b,r,ys,h,hb⟩
        · rw [h] at hv'; cases hv'
        · obtain ⟨l',us',e1,e3,_⟩:=hall (.ref b) (by rw [h]; exact Θ)
          cases e1;rw [hb] at e3
          cases e3
      apply bP hl ?_;refine xH hl ?_;refine ⟨_,rfl,lw.upd hl (pW pt hl lw.so zne) (xt pt hl lw.pt hx0 hd0) (pW pt hl lw.du dne),by rw [ai nl]; exact e2,fun v' hv'=>?_⟩;obtain ⟨l',us',e1,e3,pt'⟩:=hall v' hv';by_cases c:l'=l
      · exact ⟨l',[],e1,by rw [c,ag],.inl rfl⟩
      · refine ⟨l',us',e1,by rw [ai c]; exact e3,?_⟩
        rcases pt' with h | ⟨b,r,ys,h,hb⟩
        · exact .inl h
        · exact .inr ⟨b,r,ys,h,by rw [ai (aZ hb hl (by intro z; cases z))]; exact hb⟩
    rintro σ' H11 ⟨o9,rfl,lw11,_⟩;clear lw9 lw10 s10 nl2 el2 py2 first;apply ⟨6,rfl,by omega,by omega,fun lc6 nc6=>?_⟩;refine mT (fun i v H'=>∃ (b:Δ) (q:Int×Int),v=.ref b/\b≠lc6/\H' b=some (.tup [.int q.1,.int q.2])/\ig q.1 q.2 cs rs) (by decide) nc6 (fun i v H1 H2 s ⟨b,q,e1,e2,e3,e4⟩=>⟨b,q,e1,e2,s _ _ e3 e2,e4⟩) (fun i o H' Q' hi s12 hl6 q=>?_) (fun y6 H12 s12 e6 l6 h6=>?_)
    · rw [Ir]
      have i6:i<6:=hi;have es12:=s12 _ _ lw11.so;apply cw (.inl ⟨by omega,by omega⟩) ?_;apply aH (SqL.of es12) (bG (i:=12+2*((i:Nat):Int)) (by omega) (by omega)) ?_;apply cw (show (0:Int)<(cs.length:Nat)+1 by omega) ?_;apply cw (.inl ⟨by omega,by omega⟩) ?_;apply aH (SqL.of es12) (bG (i:=13+2*((i:Nat):Int)) (by omega) (by omega)) ?_;apply cw (show (0:Int)<(rs.length:Nat)+1 by omega) ?_;left;generalize zs.getD (12+2*((i:Nat):Int)).toNat 0=za;generalize zs.getD (13+2*((i:Nat):Int)).toNat 0=zb;have k0:=GX za (show ((cs.length:Nat):Int)+1≠0 by omega);have k1:=Hh za (show (0:Int)<(cs.length:Nat)+1 by omega);have t0:=GX zb (show ((rs.length:Nat):Int)+1≠0 by omega);have t1:=Hh zb (show (0:Int)<(rs.length:Nat)+1 by omega);generalize za%(((cs.length:Nat):Int)+1)=px at k0 k1 ⊢;generalize zb%(((rs.length:Nat):Int)+1)=py at t0 t1 ⊢;refine nwT fun tp H13 stp ntp etp=>?_;obtain ⟨y6,e6⟩:=hl6;exact q (.ref tp) H13 stp ⟨tp,(px,py),rfl,(fun e=>by rw [e,e6] at ntp; cases ntp),etp,⟨k0,k1⟩,t0,t1⟩
    have lw12:=lw11.mono s12;clear lw11 s12;apply ⟨⟨_,SqL.of lw12.pt⟩,fun lb7 nb7=>?_⟩;refine fF (fun i v H'=>∃ (b:Δ) (q:Int×Int),v=.ref b/\H' b=some (.tup [.int q.1,.int q.2])/\ig q.1 q.2 cs rs) (SqL.of lw12.pt) (by rw [lw12.pd.1]; omega) nb7 (fun i v H1 H2 s ⟨b,q,e1,e2,e3⟩=>⟨b,q,e1,s _ _ e2,e3⟩)
      (fun i v H1 ys o e ⟨b,q,e1,e2,e3⟩=>⟨b,q,e1,by rw [ai (aZ e2 e (by intro z; cases z))]; exact e2,e3⟩) (fun i x o H' Q' hx s13 q=>?_) (fun y7 H13 s13 e7 l7 h7=>?_)
    · obtain ⟨d,kvs,rfl,hd,ke,hi⟩:=lw12.pd.at hx
      apply xY (ps:=Cs'.getD i []) (s13 _ _ hd) ke fun l' us g nl' hp pm _=>?_;have hne:us≠[]:=fun e=>by
        have:=nst.own i hi
        rw [e] at pm;rw [Lb.mp pm] at this
        cases this
      obtain ⟨u,us',rfl⟩:=List.exists_cons_of_ne_nil hne;obtain ⟨b,rfl,hb⟩:=hp u Θ;have sl:=aj.new (o:=HO.lst (.ref b::us')) nl';apply aH (SqL.of ag) (v:=.ref b) (bI (j:=0) rfl) ?_;exact q (.ref b) _ sl ⟨b,g (.ref b),rfl,sl _ _ hb,inn i hi _ (pm.mem_iff.mp (EJ.mpr ⟨_,Θ,rfl⟩))⟩
    have lw13:=lw12.mono s13;have e6':=s13 _ _ e6;have h67:∀ v∈y6++y7,∃ (b:Δ) (q:Int×Int),v=.ref b/\H13 b=some (.tup [.int q.1,.int q.2])/\ig q.1 q.2 cs rs:=fun v hv=>by
      rcases EE.mp hv with z | z
      · obtain ⟨i,hi⟩:=Ep.mp z
        obtain ⟨b,q,e1,_,e3,e4⟩:=h6 i v hi;exact ⟨b,q,e1,s13 _ _ e3,e4⟩
      · obtain ⟨i,hi⟩:=Ep.mp z
        exact h7 i v hi
    clear lw12 s13 e6 h6 h7;apply xF e6' e7 (by rw [l6,l7,lw13.pd.1]; have:D7=16777216:=JV; omega) fun la na=>?_;have sA:=aj.new (o:=HO.lst (y6++y7)) na;have eA:=ag (H:=H13) (a:=la) (o:=HO.lst (y6++y7));generalize upd H13 la (HO.lst (y6++y7))=H14 at sA eA ⊢;have lw14:=lw13.mono sA;have h14:∀ v∈y6++y7,∃ (b:Δ) (q:Int×Int),v=.ref b/\H14 b=some (.tup [.int q.1,.int q.2])/\ig q.1 q.2 cs rs:=fun v hv=>by
      obtain ⟨b,q,e1,e2,e3⟩:=h67 v hv;exact ⟨b,q,e1,sA _ _ e2,e3⟩
    clear lw13 sA h67 e6' e7 na;generalize y6++y7=yA at eA h14;refine ⟨la,rfl,⟨_,SqL.of eA⟩,?_⟩;refine cK (a:=la) (xs:=yA) (fun i σ' H'=>∃ (o8 o11 o12:Option V),σ'=[some (.ref a),some (.ref ls),some (.ref pp),some (.ref p),some (.int ((cs.length:Nat)+1)),some (.int ((rs.length:Nat)+1)),some (.ref lp),some (.ref ldu),o8,o9,some (.ref lc6),o11,o12,none,none] /\
        jJ t.a_af t.tp_numbersaround H' ls lp ldu p zs s cs rs xs Cs' ds/\H' la=some (.lst yA)/\∀ v∈yA,∃ (b:Δ) (q:Int×Int),v=.ref b/\H' b=some (.tup [.int q.1,.int q.2])/\ig q.1 q.2 cs rs)
      ⟨_,_,_,rfl,lw14,eA,h14⟩ (fun i σ' H' _ ⟨_,_,_,_,_,z,_⟩=>SqL.of z) ?_ ?_
    · rintro i v σ' H15 hv ⟨o8,o11,o12,rfl,lw15,eA15,h15⟩
      obtain ⟨b,q,rfl,hb,hin⟩:=h15 v (EW hv);apply ⟨2,rfl,by omega,by omega,?_⟩;refine cu (fun j σ' H'=>∃ (o8 o12:Option V),σ'=[some (.ref a),some (.ref ls),some (.ref pp),some (.ref p),some (.int ((cs.length:Nat)+1)),some (.int ((rs.length:Nat)+1)),some (.ref lp),some (.ref ldu),o8,o9,some (.ref lc6),some (.ref b),o12,none,none] /\
          aj H15 H'/\jJ t.a_af t.tp_numbersaround H' ls lp ldu p zs s cs rs xs Cs' ds)
        ⟨_,_,rfl,aj.refl _,lw15⟩ ?_ ?_
      · rintro j σ' H16 hj ⟨o8,o12,rfl,s16,lw16⟩
        have hb16:=s16 _ _ hb;apply bH (SqT.of hb16) (v:=.int q.1) rfl ?_;apply bH (SqT.of hb16) (v:=.int q.2) rfl ?_;apply ⟨p,q.1,q.2,s,cs,rs,rfl,lw16.cl,lc,lr,hin,.inr lw16.hi,fun lf L' Cs2 os2 H17 tr nlf al' ic' od2 ef=>?_⟩;obtain ⟨eL,eC⟩:=uq al' ic';subst eL eC;have s17:=tr.2.1 lw16.hi;have lw17:=lw16.mono s17;have hb17:=s17 _ _ hb16;rw [iu,hCn os2 od2,<- iu] at ef;have ef:H17 lf=some (.lst ((nums Cs2 os q).map V.int)):=ef;apply ⟨lp,b,q,xs,Cs2,rfl,lw17.pt,lw17.pd,lC,hb17,fun lg qs H18 s18 pm so eg=>?_⟩;rw [Bp nst od pm so] at eg;have ef18:=s18 _ _ ef
        have lN:(nums Cs2 os q).length<=1000:=by
          have:=pN Cs2 os q
          rw [od.pm.length_eq,Eo] at this;omega
        apply ⟨.ref lf,.ref lg,.list ((nums Cs2 os q).map IB),rfl,j4 lN,eS ef18,eS eg,fun H19 s19=>?_⟩;have ef19:=s19 _ _ ef18;have lw19:=lw17.mono (s18.trans s19);apply bP ef19 ?_;apply aV ef19 (by rw [Ξ]; exact aR (by omega)) ?_;exact ⟨_,_,rfl,s16.trans ((s17.trans (s18.trans s19)).later nlf),lw19.upd ef19 (aC lw16.so nlf) (aC lw16.pt nlf) (aC lw16.du nlf)⟩
      · rintro σ' H16 ⟨o8,o12,rfl,s16,lw16⟩
        refine ⟨_,_,_,rfl,lw16,s16 _ _ eA15,fun v hv=>?_⟩;obtain ⟨b,q,e1,e2,e3⟩:=h15 v hv;exact ⟨b,q,e1,s16 _ _ e2,e3⟩
    rintro σ' H15 ⟨o8,o11,o12,rfl,lw15,_⟩;clear lw14 h14 eA;apply nwT fun t1 A1 st1 nt1 et1=>?_;apply nwT fun t2 A2 st2 nt2 et2=>?_;apply nwT fun t3 A3 st3 nt3 et3=>?_;apply nwT fun t4 A4 st4 nt4 et4=>?_;apply nwL fun lb A5 slb nlb elb=>?_
    have bad:∀ v∈[V.ref t1,V.ref t2,V.ref t3,V.ref t4],∃ (b:Δ) (q:Int×Int),v=.ref b/\A5 b=some (.tup [.int q.1,.int q.2])/\¬ ig q.1 q.2 cs rs:=by
      intro v hv;symm at hv;unfold ig;rcases hv with rfl | rfl | rfl | rfl
      · exact ⟨t1,(-1,0),rfl,slb _ _ (st4 _ _ (st3 _ _ (st2 _ _ et1))),by dsimp only; omega⟩
      · exact ⟨t2,((cs.length:Nat)+1,0),rfl,slb _ _ (st4 _ _ (st3 _ _ et2)),by dsimp only; omega⟩
      · exact ⟨t3,(0,(rs.length:Nat)+1),rfl,slb _ _ (st4 _ _ et3),by dsimp only; omega⟩
      · exact ⟨t4,((cs.length:Nat)+1 - 1,-1),rfl,slb _ _ et4,by dsimp only; omega⟩
    have lwA:=lw15.mono (((st1.trans st2).trans (st3.trans st4)).trans slb);clear lw15 st1 st2 st3 st4 slb et1 et2 et3 et4;generalize hyl:[V.ref t1,V.ref t2,V.ref t3,V.ref t4]=yl at elb bad;refine ⟨lb,rfl,⟨_,SqL.of elb⟩,?_⟩;refine cK (a:=lb) (xs:=yl) (fun i σ' H'=>∃ (o13 o14:Option V),σ'=[some (.ref a),some (.ref ls),some (.ref pp),some (.ref p),some (.int ((cs.length:Nat)+1)),some (.int ((rs.length:Nat)+1)),some (.ref lp),some (.ref ldu),o8,o9,some (.ref lc6),o11,o12,o13,o14]/\aj A5 H')
      ⟨_,_,rfl,aj.refl _⟩ (fun i σ' H' _ ⟨_,_,_,z⟩=>SqL.of (z _ _ elb)) ?_ ?_
    · rintro i v σ' A6 hv ⟨o13,o14,rfl,sA6⟩
      obtain ⟨b,q,rfl,hb,hq⟩:=bad v (EW hv);refine fj (sA6 _ _ hb) rfl ?_;apply ⟨p,q.1,q.2,s,cs,rs,rfl,lwA.cl.mono sA6,hq,fun l1 A8 s8 q1=>?_⟩;apply ⟨"NoCell",rfl,fun l2 A9 s9 q2=>?_⟩;apply rk (s9 _ _ q1) q2 ?_;rw [bC rfl];left;exact ⟨_,_,rfl,sA6.trans (s8.trans s9)⟩
    rintro σ' A6 ⟨o13,o14,rfl,sA6⟩;have lwB:=lwA.mono sA6;apply ⟨p,s,cs,rs,rfl,lwB.cl,lc,lr,.inr lwB.hi,fun lf L' Cs2 os2 H17 tr nlf al' ic' od2 ef=>?_⟩;obtain ⟨eL,eC⟩:=uq al' ic';subst eL eC;have lwC:=lwB.mono (tr.2.1 lwB.hi)
    have ef:H17 lf=some (.lst (ds.map V.int)):=by
      rw [ef,<- hds,Ez]
      congr 2
      refine Ga fun i _=>?_;rw [hps']
      show V.int (nx Cs2 os2 (ps i))=V.int (nx Cs2 os (ps i))
      unfold nx;rw [hCn os2 od2]
    apply ⟨.ref lf,.ref ldu,.list (ds.map IB),rfl,j4 (by omega),eS ef,eS lwC.du,fun H18 s18=>?_⟩;left;exact z _
end
end My
namespace PySem.W.Fast
theorem tw7326814468942709117:True:=⟨⟩
theorem tw4565190646436822279:True:=⟨⟩
theorem tw11383473212301105918:True:=⟨⟩
theorem tw9948295370020014168:True:=⟨⟩
theorem tw17763565125049555848:True:=⟨⟩
theorem tw1381508595912418247:True:=⟨⟩
theorem tw10079147841500738473:True:=⟨⟩
theorem tw853440429877014057:True:=⟨⟩
theorem tw2619015002792474410:True:=⟨⟩
theorem tw7533516463932140339:True:=⟨⟩
theorem tw5360941110365482201:True:=⟨⟩
theorem tw516605544985022755:True:=⟨⟩
theorem tw18158359667247966182:True:=⟨⟩
theorem tw17977798194608149516:True:=⟨⟩
theorem tw14501399425072389263:True:=⟨⟩
theorem tw13712625236177632300:True:=⟨⟩
theorem tw8263102901766503713:True:=⟨⟩
theorem tw9033696817177489595:True:=⟨⟩
theorem tw18408680360634248485:True:=⟨⟩
theorem tw10505116803838546703:True:=⟨⟩
theorem tw11872392557904251815:True:=⟨⟩
theorem tw855037536885973429:True:=⟨⟩
theorem tw9045792933623153077:True:=⟨⟩
theorem tw9569157472005291730:True:=⟨⟩
theorem tw11253362899209968967:True:=⟨⟩
theorem tw2468763264428237889:True:=⟨⟩
theorem tw10728326293508924753:True:=⟨⟩
theorem tw5965841621722925496:True:=⟨⟩
theorem tw16668163096670525472:True:=⟨⟩
theorem tw3517027112772403688:True:=⟨⟩
theorem tw3964375839502093416:True:=⟨⟩
theorem tw11166964888141347642:True:=⟨⟩
theorem tw10541775383205042217:True:=⟨⟩
theorem tw5834618045914747208:True:=⟨⟩
theorem tw2434102555457005095:True:=⟨⟩
theorem tw3222515036424407992:True:=⟨⟩
theorem tw6211138555699394972:True:=⟨⟩
theorem tw4856948457701043044:True:=⟨⟩
theorem tw3669136989776713647:True:=⟨⟩
theorem tw8659388382766941415:True:=⟨⟩
theorem tw3948818597500051341:True:=⟨⟩
theorem tw17971384981407841783:True:=⟨⟩
theorem tw7525326133749442126:True:=⟨⟩
theorem tw18236374144893312418:True:=⟨⟩
theorem tw2873493067696148136:True:=⟨⟩
theorem tw635085206671215:True:=⟨⟩
theorem tw15587669616923897214:True:=⟨⟩
theorem tw17095862805888751558:True:=⟨⟩
theorem tw1986609824343749856:True:=⟨⟩
theorem tw4542595429032589894:True:=⟨⟩
theorem tw13975555506737911334:True:=⟨⟩
theorem tw9539086581289669462:True:=⟨⟩
theorem tw8668300257362990329:True:=⟨⟩
theorem tw9765266956187840942:True:=⟨⟩
theorem tw15569429140428941482:True:=⟨⟩
theorem tw17938684837699612195:True:=⟨⟩
theorem tw1820142752266227178:True:=⟨⟩
theorem tw15732433124240608057:True:=⟨⟩
theorem tw5514896873929995589:True:=⟨⟩
theorem tw10322759634033052538:True:=⟨⟩
theorem tw13597629303700450202:True:=⟨⟩
theorem tw17244274258844426799:True:=⟨⟩
theorem tw16418145267818580735:True:=⟨⟩
theorem tw1684330323462205956:True:=⟨⟩
theorem tw6611043863524288821:True:=⟨⟩
theorem tw2933707399418024750:True:=⟨⟩
theorem tw15211325690568119224:True:=⟨⟩
theorem tw7415431130521341368:True:=⟨⟩
theorem tw16790957562018059118:True:=⟨⟩
theorem tw16921475756078885779:True:=⟨⟩
theorem tw5237727816477673251:True:=⟨⟩
theorem tw883377130331662465:True:=⟨⟩
theorem tw12846634101204514855:True:=⟨⟩
theorem tw5659428219344781196:True:=⟨⟩
theorem tw11054541269724588872:True:=⟨⟩
theorem tw13708989061682371552:True:=⟨⟩
theorem tw11667557810252391698:True:=⟨⟩
theorem tw17690629918220867817:True:=⟨⟩
theorem tw8267280819207176676:True:=⟨⟩
theorem tw4127046474099746409:True:=⟨⟩
theorem tw12624487576047435860:True:=⟨⟩
theorem tw1123405469437619096:True:=⟨⟩
theorem tw1659076937998148300:True:=⟨⟩
theorem tw310041988220740919:True:=⟨⟩
theorem tw16319599896138414847:True:=⟨⟩
theorem tw2016660713159296761:True:=⟨⟩
theorem tw10468534689240625891:True:=⟨⟩
theorem tw17084170626102833677:True:=⟨⟩
theorem tw5565276293043202076:True:=⟨⟩
theorem tw16552624583876934141:True:=⟨⟩
theorem tw1531124439229594618:True:=⟨⟩
theorem tw10957358312783195380:True:=⟨⟩
theorem tw9217490565727070145:True:=⟨⟩
theorem tw8639625189085188278:True:=⟨⟩
theorem tw17721814884402179466:True:=⟨⟩
theorem tw16971914644790383668:True:=⟨⟩
theorem tw6013771867208246456:True:=⟨⟩
theorem tw11300493176232825220:True:=⟨⟩
theorem tw1471911162095675076:True:=⟨⟩
theorem tw12745319093184560057:True:=⟨⟩
theorem tw202220211794333477:True:=⟨⟩
theorem tw16252592303562213537:True:=⟨⟩
theorem tw3998387618389887719:True:=⟨⟩
theorem tw11103001385333455939:True:=⟨⟩
theorem tw6461885739855647192:True:=⟨⟩
theorem tw5582467836776980201:True:=⟨⟩
theorem tw3793968379965859351:True:=⟨⟩
theorem tw2682396059608026456:True:=⟨⟩
theorem tw9867015427640465082:True:=⟨⟩
theorem tw2291045540228195209:True:=⟨⟩
theorem tw17547078898621643131:True:=⟨⟩
theorem tw1865048403589276662:True:=⟨⟩
theorem tw12606351629594803497:True:=⟨⟩
theorem tw7129656350430432877:True:=⟨⟩
theorem tw10882820155159849360:True:=⟨⟩
theorem tw3662771947394846447:True:=⟨⟩
theorem tw17256402205518527660:True:=⟨⟩
theorem tw9356264906562905927:True:=⟨⟩
theorem tw5860642080322252490:True:=⟨⟩
theorem tw9165160038095566792:True:=⟨⟩
theorem tw14347725001936475926:True:=⟨⟩
theorem tw11914581167292784582:True:=⟨⟩
theorem tw8136221004153956509:True:=⟨⟩
theorem tw4005135982205571713:True:=⟨⟩
theorem tw2023826792704390836:True:=⟨⟩
theorem tw15819054183298097732:True:=⟨⟩
theorem tw10233195027637494639:True:=⟨⟩
theorem tw6691356239372274912:True:=⟨⟩
theorem tw17184333343395618645:True:=⟨⟩
theorem tw15804850979456498462:True:=⟨⟩
theorem tw12254044084545075616:True:=⟨⟩
theorem tw782236609439932098:True:=⟨⟩
theorem tw925743449917293584:True:=⟨⟩
theorem tw9163717503752477519:True:=⟨⟩
theorem tw4200656813396779484:True:=⟨⟩
theorem tw2014741724847840274:True:=⟨⟩
theorem tw11131677883417136784:True:=⟨⟩
theorem tw17285577042167388987:True:=⟨⟩
theorem tw15676603808144183369:True:=⟨⟩
theorem tw7480513837641283790:True:=⟨⟩
theorem tw4871482727249045762:True:=⟨⟩
theorem tw3169735943199833273:True:=⟨⟩
theorem tw16184985349772241946:True:=⟨⟩
theorem tw9371772463145119915:True:=⟨⟩
theorem tw9983377963213171374:True:=⟨⟩
theorem tw3957491287291003205:True:=⟨⟩
theorem tw10600977840938343270:True:=⟨⟩
theorem tw7961064134353723605:True:=⟨⟩
theorem tw2604483748926506362:True:=⟨⟩
theorem tw11706082677059605993:True:=⟨⟩
theorem tw9467365519202433244:True:=⟨⟩
theorem tw15963525495613477682:True:=⟨⟩
theorem tw7880600910350340010:True:=⟨⟩
theorem tw17215279433750573673:True:=⟨⟩
theorem tw5841979140579332482:True:=⟨⟩
theorem tw2817709391295372120:True:=⟨⟩
theorem tw9435040699936737906:True:=⟨⟩
theorem tw3383538268908861116:True:=⟨⟩
theorem tw12709998239950085486:True:=⟨⟩
theorem tw12624111777720581830:True:=⟨⟩
theorem tw7412825489562593091:True:=⟨⟩
theorem tw16656552853334051882:True:=⟨⟩
theorem tw12400053361195799274:True:=⟨⟩
theorem tw1149325627807948283:True:=⟨⟩
theorem tw8281037400536418878:True:=⟨⟩
theorem tw1006879325195915720:True:=⟨⟩
theorem tw1758578457208569761:True:=⟨⟩
theorem tw17948688006905127072:True:=⟨⟩
theorem tw9005451593494874406:True:=⟨⟩
theorem tw14192172163268886041:True:=⟨⟩
theorem tw3886993711461830479:True:=⟨⟩
theorem tw15713263779095339518:True:=⟨⟩
theorem tw18410804724748151896:True:=⟨⟩
theorem tw310348895979731033:True:=⟨⟩
theorem tw11698848575167451739:True:=⟨⟩
theorem tw8402812644024489570:True:=⟨⟩
theorem tw6345504565913796488:True:=⟨⟩
theorem tw15309877294202306512:True:=⟨⟩
theorem tw232150096744277673:True:=⟨⟩
theorem tw8672519980628778311:True:=⟨⟩
theorem tw118383004159348343:True:=⟨⟩
theorem tw13906155885373910204:True:=⟨⟩
theorem tw5325678263258098723:True:=⟨⟩
theorem tw10602468332744541713:True:=⟨⟩
theorem tw6935903716168919517:True:=⟨⟩
theorem tw4110243346746349632:True:=⟨⟩
theorem tw16122121394800675931:True:=⟨⟩
theorem tw11585635841864868983:True:=⟨⟩
theorem tw12080498610964327044:True:=⟨⟩
theorem tw4187931595392113534:True:=⟨⟩
theorem tw238604499327618485:True:=⟨⟩
theorem tw6985761125213599087:True:=⟨⟩
theorem tw8743104652237067805:True:=⟨⟩
theorem tw3042518677391236030:True:=⟨⟩
theorem tw5888835650308680203:True:=⟨⟩
theorem tw7334040213438420447:True:=⟨⟩
theorem tw2259526665743848297:True:=⟨⟩
theorem tw13540336545695997130:True:=⟨⟩
theorem tw3646032443363155841:True:=⟨⟩
theorem tw9795000257772292923:True:=⟨⟩
theorem tw5007275947346455439:True:=⟨⟩
theorem tw309893357300045786:True:=⟨⟩
theorem tw4157988642868998545:True:=⟨⟩
theorem tw16372500661097297389:True:=⟨⟩
theorem tw17173141984494084900:True:=⟨⟩
theorem tw7076131549800685572:True:=⟨⟩
theorem tw6799784102781983997:True:=⟨⟩
theorem tw14247621810777509921:True:=⟨⟩
theorem tw11812416622244692527:True:=⟨⟩
theorem tw12948864776417621813:True:=⟨⟩
theorem tw4507242105493927122:True:=⟨⟩
theorem tw11624896905865176031:True:=⟨⟩
theorem tw911725068755965609:True:=⟨⟩
theorem tw8230497606405421188:True:=⟨⟩
theorem tw13693309052831484241:True:=⟨⟩
theorem tw4930994517439200970:True:=⟨⟩
theorem tw2845412830777488541:True:=⟨⟩
theorem tw3637137805091134126:True:=⟨⟩
theorem tw7371540200592556642:True:=⟨⟩
theorem tw4838073225105134272:True:=⟨⟩
theorem tw17578655611129234038:True:=⟨⟩
theorem tw2277725478346670775:True:=⟨⟩
theorem tw10932295779941127599:True:=⟨⟩
theorem tw8056004136382362386:True:=⟨⟩
theorem tw15958780480342390538:True:=⟨⟩
theorem tw18340237411106189262:True:=⟨⟩
theorem tw17828506599420845575:True:=⟨⟩
theorem tw13580418711630482836:True:=⟨⟩
theorem tw17924127902262585853:True:=⟨⟩
theorem tw1648253167940303935:True:=⟨⟩
theorem tw7668930737606941159:True:=⟨⟩
theorem tw17963830312004391815:True:=⟨⟩
theorem tw7314923739761091807:True:=⟨⟩
theorem tw2833881147918186513:True:=⟨⟩
theorem tw3060715902773814147:True:=⟨⟩
theorem tw13789242396186255270:True:=⟨⟩
theorem tw13264227718439840727:True:=⟨⟩
theorem tw10155925416691566531:True:=⟨⟩
theorem tw7008965204960148341:True:=⟨⟩
theorem tw10486835382959741788:True:=⟨⟩
theorem tw2324343782918822292:True:=⟨⟩
theorem tw1913594151870696822:True:=⟨⟩
theorem tw4055790083907671674:True:=⟨⟩
theorem tw10476128042011732732:True:=⟨⟩
theorem tw11341555894715550243:True:=⟨⟩
theorem tw12459203188698648207:True:=⟨⟩
theorem tw7735444627920507294:True:=⟨⟩
theorem tw17708511343055280688:True:=⟨⟩
theorem tw6055141357449431750:True:=⟨⟩
theorem tw13825249310144217380:True:=⟨⟩
theorem tw15551018923436985973:True:=⟨⟩
theorem tw5404244791235245443:True:=⟨⟩
theorem tw6875347349596971455:True:=⟨⟩
theorem tw9628710977198410878:True:=⟨⟩
theorem tw12503901280924140649:True:=⟨⟩
theorem tw7009282188852933541:True:=⟨⟩
theorem tw2570519403886019066:True:=⟨⟩
theorem tw6677167189542263281:True:=⟨⟩
theorem tw6550588445933637592:True:=⟨⟩
theorem tw10673658967795567471:True:=⟨⟩
theorem tw13281831498573668697:True:=⟨⟩
theorem tw7684510256014715619:True:=⟨⟩
theorem tw9941969210248986499:True:=⟨⟩
theorem tw14688928056155027428:True:=⟨⟩
theorem tw13130791762155965348:True:=⟨⟩
theorem tw1842276682868714973:True:=⟨⟩
theorem tw3753190766036509821:True:=⟨⟩
theorem tw14897620583009699134:True:=⟨⟩
theorem tw2959173350404250623:True:=⟨⟩
theorem tw9656841221907480925:True:=⟨⟩
theorem tw13376151151502401516:True:=⟨⟩
theorem tw3320957562633209929:True:=⟨⟩
theorem tw2590129556392949270:True:=⟨⟩
theorem tw5358082976500247253:True:=⟨⟩
theorem tw3920121650259619584:True:=⟨⟩
theorem tw3890368068807811522:True:=⟨⟩
theorem tw15461857943487810800:True:=⟨⟩
theorem tw77812990409617987:True:=⟨⟩
theorem tw11037427342642712650:True:=⟨⟩
theorem tw15339172954985555809:True:=⟨⟩
theorem tw12762425994875818586:True:=⟨⟩
theorem tw10234586347493026155:True:=⟨⟩
theorem tw7823498033988260578:True:=⟨⟩
theorem tw14722472666924140511:True:=⟨⟩
theorem tw2127957044363946607:True:=⟨⟩
theorem tw3839300601752566396:True:=⟨⟩
theorem tw1534372546642754504:True:=⟨⟩
theorem tw12909742457306034182:True:=⟨⟩
theorem tw17999466601363733504:True:=⟨⟩
theorem tw9690009127392542820:True:=⟨⟩
theorem tw4026143068052773771:True:=⟨⟩
theorem tw11515263209897197416:True:=⟨⟩
theorem tw8024978189123320134:True:=⟨⟩
theorem tw12793823261382611314:True:=⟨⟩
theorem tw17995654020652944182:True:=⟨⟩
theorem tw5919109228663703604:True:=⟨⟩
theorem tw513888656248339788:True:=⟨⟩
theorem tw10228877031754054023:True:=⟨⟩
theorem tw9457662832728465955:True:=⟨⟩
theorem tw18415875944786285229:True:=⟨⟩
theorem tw89108795404139117:True:=⟨⟩
theorem tw16643338935347562574:True:=⟨⟩
theorem tw11057006496974462730:True:=⟨⟩
theorem tw2876936628004950557:True:=⟨⟩
theorem tw13078539088077437799:True:=⟨⟩
theorem tw3322920612218592182:True:=⟨⟩
theorem tw13691466624967331791:True:=⟨⟩
theorem tw5850636076960709266:True:=⟨⟩
theorem tw1127923485675531317:True:=⟨⟩
theorem tw12727387768674788271:True:=⟨⟩
theorem tw252015540425893259:True:=⟨⟩
theorem tw12799955001553696783:True:=⟨⟩
theorem tw14518642221207999810:True:=⟨⟩
theorem tw4028304794368301076:True:=⟨⟩
theorem tw258385012374777774:True:=⟨⟩
theorem tw7959364582677291047:True:=⟨⟩
theorem tw13540371441634192495:True:=⟨⟩
theorem tw13982686227169350345:True:=⟨⟩
theorem tw3183695635281992790:True:=⟨⟩
theorem tw7805280074801695177:True:=⟨⟩
theorem tw6502774811040086741:True:=⟨⟩
theorem tw15161462522957746709:True:=⟨⟩
theorem tw16318106404159585842:True:=⟨⟩
theorem tw14739267347746628243:True:=⟨⟩
theorem tw11187986446454391901:True:=⟨⟩
theorem tw7714985807670369810:True:=⟨⟩
theorem tw9112257557029969204:True:=⟨⟩
theorem tw17330682731419989238:True:=⟨⟩
theorem tw5067391011646196089:True:=⟨⟩
theorem tw16045090636206176587:True:=⟨⟩
theorem tw3484204740281033451:True:=⟨⟩
theorem tw10869212858931685135:True:=⟨⟩
theorem tw11097397516818947343:True:=⟨⟩
theorem tw12789335131721266498:True:=⟨⟩
theorem tw7274927676290847435:True:=⟨⟩
theorem tw318256162618030876:True:=⟨⟩
theorem tw15361811574614806260:True:=⟨⟩
theorem tw6380496941509313523:True:=⟨⟩
theorem tw5717906371438039455:True:=⟨⟩
theorem tw14790791644823437598:True:=⟨⟩
theorem tw12119017812382521491:True:=⟨⟩
theorem tw4898150618703939002:True:=⟨⟩
theorem tw17688295245804672151:True:=⟨⟩
theorem tw15260695260515253120:True:=⟨⟩
theorem tw6224720950299003313:True:=⟨⟩
theorem tw3170231547542981667:True:=⟨⟩
theorem tw11023901629424815448:True:=⟨⟩
theorem tw5770596894202086854:True:=⟨⟩
theorem tw14821606313283621193:True:=⟨⟩
theorem tw10200334572367166902:True:=⟨⟩
theorem tw11033469193528291654:True:=⟨⟩
theorem tw10002163443195629047:True:=⟨⟩
theorem tw9190869911845925586:True:=⟨⟩
theorem tw17649353393291882665:True:=⟨⟩
theorem tw17454382753691382570:True:=⟨⟩
theorem tw2331033730735611084:True:=⟨⟩
theorem tw12935316858477706653:True:=⟨⟩
theorem tw440960048593420543:True:=⟨⟩
theorem tw15839876184958649083:True:=⟨⟩
theorem tw7718579025949652557:True:=⟨⟩
theorem tw13182100720629033701:True:=⟨⟩
theorem tw7212878483561059528:True:=⟨⟩
theorem tw3636396515735580804:True:=⟨⟩
theorem tw7136443058109544805:True:=⟨⟩
theorem tw6774176015674538915:True:=⟨⟩
theorem tw15806333057576602843:True:=⟨⟩
theorem tw14249522667291255695:True:=⟨⟩
theorem tw16327793216279052260:True:=⟨⟩
theorem tw15319014039416046435:True:=⟨⟩
theorem tw3934278266196541562:True:=⟨⟩
theorem tw9089843677133718550:True:=⟨⟩
theorem tw6796432616718126775:True:=⟨⟩
theorem tw4370898386762789907:True:=⟨⟩
theorem tw9796774789191833726:True:=⟨⟩
theorem tw10544670522012593029:True:=⟨⟩
theorem tw9887803837359082542:True:=⟨⟩
theorem tw10986626351682048662:True:=⟨⟩
theorem tw9092911968954941832:True:=⟨⟩
theorem tw6418761290113996301:True:=⟨⟩
theorem tw7489150545215334449:True:=⟨⟩
theorem tw2166016159204184551:True:=⟨⟩
theorem tw14091910923942304068:True:=⟨⟩
theorem tw14050994627694826385:True:=⟨⟩
theorem tw166133207197133369:True:=⟨⟩
theorem tw8684231591745351268:True:=⟨⟩
theorem tw2250250695145173996:True:=⟨⟩
theorem tw8083943862321307194:True:=⟨⟩
theorem tw9711846396060831959:True:=⟨⟩
theorem tw11788159821242394641:True:=⟨⟩
theorem tw11553996447282731569:True:=⟨⟩
theorem tw15390116707067252413:True:=⟨⟩
theorem tw173033856459182489:True:=⟨⟩
theorem tw6826614897648935721:True:=⟨⟩
theorem tw16708305350641778329:True:=⟨⟩
theorem tw1725230727458271511:True:=⟨⟩
theorem tw15117616820946085982:True:=⟨⟩
theorem tw1990666648295635455:True:=⟨⟩
theorem tw660589853393739677:True:=⟨⟩
theorem tw1633473029041457298:True:=⟨⟩
theorem tw12964659858485067879:True:=⟨⟩
end PySem.W.Fast
open PySem PySem.W PyProof.Rows
set_option maxRecDepth 100000 in
set_option maxHeartbeats 0 in
theorem PySem.Challenge.cw_sashiko_k15_seams_around_holds : PySem.Challenge.rw_sashiko_k15_seams_around.Holds := by
 w_on; o_law; k_head; (case hw=>w_witness2)
 k_fill
 refine L2.walk_ofT (g:="numbers_around") (l:=PySem.Challenge.rw_sashiko_k15_seams_around) (n:=63) (k:=16) (x:="_law_script") (CX:=L2.CX0) (sp:=My.sp_law) rfl (by decide) rfl ⟨rfl,by decide,by decide⟩ (fun w h Y=>PySem.W.km_in_of Y) (by first | rfl | kernel_rfl) ?F ?S ?C
 case F =>
  intro w mg fa h KX G hmg
  have T:∃ t:My.Ad,My.Txt (L2.KOf KX) mg t:=by
   dsimp only [L2.KOf];refine' My.txt_mk KX G ?aC_a0 ?ga_a0 ?rd_a0 ?aC_af ?pg_af ?hd_af ?po_af ?sa_af ?mk_af ?kc_af ?na_columns_count ?na_rows_count ?na_col_bits ?na_row_bits ?na_first_colour ?a_av ?F_av ?a_aj ?F_aj ?a_aN ?F_aN ?a_ax ?F_ax ?a_aG ?F_aG ?a_al ?F_al ?fc_aq ?F_aq ?a_ak ?i_ak ?F_ak ?a_ah ?i_ah ?F_ah ?a_ag ?i_ag ?F_ag ?a_ac ?i_ac ?F_ac ?a_ar ?i_ar ?F_ar ?a_ab ?i_ab ?F_ab ?a_am ?F_am ?a_aI ?F_aI ?a_ao ?F_ao ?a_aQ ?F_aQ ?a_ap ?F_ap ?a_au ?F_au ?a_aW ?F_aW ?a_an ?F_an ?a_aK ?F_aK ?a_at ?F_at ?a_aO ?F_aO ?a_aF ?F_aF ?a_aa ?F_aa ?a_aH ?F_aH ?a_as ?F_as ?a_aB ?F_aB ?a_aP ?F_aP ?a_aV ?F_aV ?a_aT ?F_aT ?a_aU ?F_aU ?a_ay ?F_ay ?a_aE ?F_aE ?a_aM ?F_aM ?a_aX ?F_aX ?a_aD ?F_aD ?a_aS ?F_aS ?a_ad ?F_ad ?a_law ?F_law ?aX_aR ?aX_aw ?aX_aA ?aX_ae ?aX_aC ?aX_aJ ?aX_az ?bb ?bm ?bt ?ogs ?otk ?x_aw ?xg_BadSize ?sb_aw ?x_aA ?xg_BadBit ?sb_aA ?x_ae ?xg_NoCell ?sb_ae ?kt_ae_aw ?kt_ae_aA ?kt_ae_ae ?kt_ae_aC ?kt_ae_aJ ?kt_ae_az ?kv_ae ?x_aC ?xg_NoLine ?sb_aC ?x_aJ ?xg_NoStep ?sb_aJ ?x_az ?xg_NoPoint ?sb_az ?v_LONGEST_SIDE ?z_aL ?z_int ?z_bool ?z_all ?z_len ?z_aZ ?z_list ?z_ai ?z_abs ?z_str ?z_zip ?z_aY ?z_sorted ?z_min ?z_max ?z_reversed ?z_a1 ?z_dict ?tb_numbersaround ?th_numbersaround ?tl_numbersaround ?tc_numbersaround
   (case aC_a0 | aC_af | aX_aR | aX_aw | aX_aA | aX_ae | aX_aC | aX_aJ | aX_az | a_av | a_aj | a_aN | a_ax | a_aG | a_al | a_am | a_aI | a_ao | a_aQ | a_ap | a_au | a_aW | a_an | a_aK | a_at | a_aO | a_aF | a_aa | a_aH | a_as | a_aB | a_aP | a_aV | a_aT | a_aU | a_ay | a_aE | a_aM | a_aX | a_aD | a_aS | a_ad | a_law=>(unfold My.QNs; k_is))
   (case z_aL | z_int | z_bool | z_all | z_len | z_aZ | z_list | z_ai | z_abs | z_str | z_zip | z_aY | z_sorted | z_min | z_max | z_reversed | z_a1 | z_dict=>(unfold My.QNn; k_is))
   (case a_ak | a_ah | a_ag | a_ac | a_ar | a_ab=>(unfold My.QFi; k_is))
   (case ga_a0 | rd_a0 | pg_af | hd_af | po_af | sa_af | mk_af | kc_af | fc_aq | bb | bm | bt | ogs | otk | sb_aw | sb_aA | sb_ae | sb_aC | sb_aJ | sb_az | v_LONGEST_SIDE=>k_is)
   (case na_columns_count | na_rows_count | na_col_bits | na_row_bits | na_first_colour=>(unfold My.QFn; k_is))
   (case i_ak | i_ah | i_ag | i_ac | i_ar | i_ab=>(unfold My.QIf; k_is))
   (case kt_ae_aw | kt_ae_aA | kt_ae_ae | kt_ae_aC | kt_ae_aJ | kt_ae_az=>(unfold My.QKt; kit_is))
   (case x_aw | x_aA | x_ae | x_aC | x_aJ | x_az=>(unfold My.QXc; k_exc))
   (case F_av | F_aj | F_aN | F_ax | F_aG | F_al | F_aq | F_ak | F_ah | F_ag | F_ac | F_ar | F_ab | F_am | F_aI | F_ao | F_aQ | F_ap | F_au | F_aW | F_an | F_aK | F_at | F_aO | F_aF | F_aa | F_aH | F_as | F_aB | F_aP | F_aV | F_aT | F_aU | F_ay | F_aE | F_aM | F_aX | F_aD | F_aS | F_ad | F_law=>exact L2.fun_mk (by k_is) (by k_is) (by k_is))
   (case tb_numbersaround=>exact L2.tab_mk (by k_is) (by k_is) rfl (by k_is) rfl)
   (case th_numbersaround=>exact My.tX (by k_is) (by first | rfl | kernel_rfl))
   (case xg_BadSize | xg_BadBit | xg_NoCell | xg_NoLine | xg_NoStep | xg_NoPoint=>exact ⟨by k_is,by k_is,by k_is,by k_is,by k_is⟩)
   (case tl_numbersaround=>first | k_is | exact Option.isNone_iff_eq_none.mp (by first | rfl | kernel_rfl))
   (case kv_ae=>kit_is)
   (case tc_numbersaround=>rfl)
  obtain ⟨t,T⟩:=T;have e0:=hmg.symm.trans T.mg_law
  cases e0;exact ⟨t.d_law,t.cd_numbersaround,t.tp_numbersaround,T.tb_numbersaround,T.tl_numbersaround,T.F_law.bl fun _ _ _ _ _ _ _=>rfl,fun base KB _ hB=>My.BN T KB hB⟩
 case S=>exact fun K H a c P ns hl ht hP hS=>⟨a,ns,rfl,hS,hl,⟨c,P,ht,hP⟩,fun _=>rfl⟩
 case C=>exact fun _ _ _ _ z=>z
