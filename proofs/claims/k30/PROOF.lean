import PyProof.Rows.All
import Wide.All
import OpenK.AllK
import Wide.FinOn
import Lean
import PyProof.EqAt
import PyProof.EqKinds
import PyProof.TupleCall
import PyProof.NeKinds
import KE.KSortTup
import KE.KItemsList
import KE.KPairComp
import KE.KDictOf
import PyProof.AttrMissHeap
import PySem.Challenge.RW_sashiko_k30_whole_seams_turned_about
open PySem renaming wpAny_bind->ξ,Value->Δ,Addr->Ω,Shared->A2,wpAny_pure->B_,sizeLine->EF,wpAny->EM,Program->ER,model->EZ,starEach->Ew,World->E2,Around->E5,Heap->FD,bootBuiltins->Fi,Expr->Fo,wpAny_truthy_bool->GA,FuncData->GB,wpAny_loadPart'->GG,wpAny_mono->GO,compareOp->GQ,PyData->GS,wpAny_rule->GX,wpAny_field->GY,wpAny_holding->Gd,wpAny_seqItems->Ge,eval->Gf,wpAny_call_entry->Gk,mainGlobals->Gs,wpAny_newObj_type->Gw,wpAny_callSpecial?_slot->Gx,sysModules->G2,wpAny_Call_Name_kw->G_,backTo->HB,Obj->HC,cLine->HH,wpAny_passesOwn->Hu,mem_of_lookup->H_,sliceBounds->IC,plainId_quiet->IF,behindInMarks->IG,attributeBase->II,Builtin->IK,wpAny_setField_rec->IL,wpAny_letGo->IQ,codeAny_mono->IX,codeAny->IY,IsPair->Ib,Pos->Il,wpAny_eqBool_int->Ir,wpAny_newList->Iv,codeAny_builtin->JF,wpAny_pyIter_tuple->JP,assignEach->JQ,NameKind->JR,Model->JS,Stmt->Jd,call->Je,wpAny_pyIter_list->Jh,valueAt->Ji,slot_list_getitem->Jj,keywordEach->Jk,Scope->Jl,wpAny_getItem_list_slice->Js,wpAny_pyIter_zip->J2,bindArgs->J4,binaryOp->J5,wpAny_updateSeq->KD,wpAny_execs_nil->KG,letOwnedTupleGo->KH,wpAny_tryCatch->KR,wpAny_newTuple->KS,sizeLine_eq->KU,pyNext->KW,Sem->KZ,IsZip->Kd,IsPart->Ke,swapsWith->Kg,callerA->Kl,wpAny_attempt->Kw,evalPart_none->Ky,tupleKind_room_in1->K4,Env->K8,wpAny_typeOf->LC,getItem->LG,foldedSetIterable->LH,backToKw->LI,ZipApart->LJ,wpAny_isInstance->LZ,tupleKind->La,seqItems?->Lb,rawInt->Lc,getMethod->Ld,field->Lk,IsRangeIter->Lo,Within->Lu,holding->Lz,Keyword->L8,BindsTo->MB,dictSetDefault->ME,call_meets->MF,CmpOp->MN,wpAny_letOwnedTupleGo_zip->MP,wpAny_onRaise->MU,wpAny_comprehension_free->MV,slicePick->Mc,bindL->Me,bindC->Mf,atKey->Mi
open List renaming mem_cons_self->θ,getElem?_eq_getElem->ς,mem_cons_of_mem->Θ,mem_singleton->Ξ,length_map->Aj,length_cons->Ba,mem_cons->Bb,getElem?_eq_some_iff->Bc,length_append->Bd,mem_append_right->ED,mem_map->EE,mem_append->EG,append_assoc->EI,size_toArray->EK,length_singleton->EL,take_of_length_le->EN,nodup_cons->EO,mem_of_getElem?->ES,append_nil->ET,pairwise_append->EV,map_cons->EW,getElem?_map->EX,getD_eq_getElem?_getD->Ex,not_mem_nil->Ey,mem_append_left->E1,mem_of_mem_take->E6,length_take->E7,mem_range->FE,range->FG,drop_eq_getElem_cons->FH,mem_filter->FN,map_append->FO,map_map->FP,getElem?_append_right->FQ,eq_nil_of_length_eq_zero->FT,take_sublist->FW,pairwise_map->FY,nodup_append->FZ,length_drop->Fb,pairwise_cons->Fe,dropLast_concat_getLast->Ff,getElem?_cons_zero->Fj,getElem?_cons_succ->Fl,take_append_drop->Fx,mem_iff_getElem?->Fy,length_reverse->F0,mem_reverse->F1,filter_cons->F2,mem_of_mem_drop->F5,drop_sublist->F_,nodup_nil->GD,getElem?_append_left->GI,map_congr_left->GK,length_range->GL,cons_append->GU,getElem?_eq_none->Gg,getElem?_take_of_lt->Gi,take_add_one->Gn,take_succ_cons->Gv,take_zero->G4,drop_drop->G5,reverse_cons->HD,filterMap_cons->HJ,getElem_mem->HN,drop_zero->HP,map_id->HS,map_nil->HW,drop_of_length_le->HX,range_succ->HZ,nil_append->Hf,ext_getElem?->Hr,reverse_reverse->Hx,all_eq_true->Hz,extract_eq_drop_take->IA,find?_cons->ID,mem_filterMap->IE,perm_append_comm->IU,mem_erase_of_ne->Ih,lookup->Ii,length->Ij,dropLast_concat->Ik,forIn_cons->Io,filter_map->Ip,reverse_append->Iu,set_set->Iz,getElem?_drop->JB,drop_take->JC,getElem?_zip_eq_some->JG,getElem_drop->JH,flatMap_cons->JI,length_erase_of_mem->JL,pairwise_singleton->JY,mem_flatMap->JZ,getLast?_cons_cons->Ja,pairwise_lt_range->Jm,length_pos_of_mem->Jo,getElem?_set_self->Jp,Nodup->Jq,length_nil->Jx,map_singleton->KP,filter_append->KQ,getElem_take->Kn,zipIdx_cons->K0,map_fst_zip->K1,lookup_cons->K2,getLast?_eq_some_getLast->K5,exists_mem_of_length_pos->K6,zipIdx_nil->K_,of_mem_zip->LA,perm_ext_iff_of_nodup->LR,perm_cons->LS,forIn_nil->LU,pairwise_iff_getElem->Lg,exists_mem_of_ne_nil->Lh,take_append_getElem->Ll,nil_perm->Lm,any_cons->Ln,filter_cons_of_pos->Lw,filter_cons_of_neg->Lx,map_id'->L5,drop_eq_nil_of_le->L6,append_inj_right'->L7,length_filter_le->MJ,getElem?_reverse->MK,filterMap_append->ML,append_inj_left'->MM,getElem?_set_ne->MR,getElem?_append->MS,length_pos_iff->MX,flatMap_append->MY,filter_eq_self->MZ,zip_nil_right->Mm,foldl->Mn,filterMap_map->Mp
open PySem.Heap renaming get?_push_of_some->χ,get?_push_size->EB,lt_size->EC,get?_update_other->E9,size_push->GF,size_update->GV,get?_push_ne->Gp,SameBut->G0,get?_update_self->G6,get?_update_ne->HL,MadeExcOf->LV
open Nat renaming le_refl->A_,ne_of_lt->EH,lt_of_lt_of_le->EU,zero_le->En,lt_of_le_of_lt->E_,le_trans->FA,le_add_right->Fd,lt_succ_of_lt->F3,succ_le_succ->GW,lt_irrefl->Gj,le_succ->G3,min_eq_left->Hl,lt_succ_self->Ia,le_of_eq->I_,min_eq_right->Jf,sub_self->Jv,ne_of_gt->Jw,not_lt->Ka,le_total->Ku,le_of_lt->Kv,add_sub_cancel_left->L0,sub_zero->MI
open PyProof.Rows renaming Keyed->C_,wpS_bind->EA,wpS_pure->EJ,arrOf->EY,pendingOf->Ep,seqObj->E8,SortSt->FU,wpS_forRange->Ft,callWith_type1->F6,slot_tuple_getitem->F8,SortKind->GR,kindOf->Ga,wpS_mono->Gq,failedOf->Gu,pairsOf->Gy,wpS_modify->G1,listUpdate_at->G7,pairsOf_toList->HY,zipApart_new->Hj,mem_zip_self->Hq,get?_update_seq->Hv,size_push'->IM,seqEpoch_at->IS,wpS_get->IW,mirror->JE,AllBare->JK,reverseSlice'->Jt,envOfC->Ju,wpS_lift->J1,tuples'->KC,numOf->KY,sortedAll->Kh,IntsAre->Ko,subscriptTail->Kx,pairsOf_size->LD,listItems_at->LF,wpS->LY,entry_list_sort->Ls,sortedHeap->MC,slot_list_sort->MD,Subscript_->MH
open Array renaming toList_append->D_,length_toList->Eo,getElem?_toList->Fv,toList_reverse->F4,perm_iff_toList_perm->GC,toList_push->GZ,getElem_mem_toList->HF,toList_extract->Ie,toArray_toList->Ig,size_map->JA,toList_map->JT,toList_setIfInBounds->LN,getElem_toList->MO,size_extract->Ma,append_assoc->Mb
open PySem.F renaming plainAttrs_list->Em,type_list_append->Et,slot_list_append->Eu,excBase_ValueError->Fw,plain_min_loop->HU,slot_tuple_iterator_next->IB,slot_zip_next->J_,slot_dict_setdefault->Ks,entry_min_loop->LL,slot_dict_items->LO,plainAttrs_dict->LP,args_tuple_iterator_next_1->Lj,entry_tuple_iterator_next->Lp
open PySem.Obj renaming mapSeq->Er,data_mapDictKeys->MW
open List.Pairwise renaming sublist->Es,nil->GP,imp->Jy,imp_of_mem->Kc,filter->K7
open Option.some renaming inj->Ez,injEq->F7
open PySem.Value renaming ref->E3,type->Fq,none->Hw,int->IT,bool->KI,str->Kq,float->MG
open Bool renaming false_ne_true->E4,false_eq_true->FJ,and_eq_true->FL,eq_iff_iff->Hh,or_eq_true->J0,and_false->KA,false_or->KN,false_and->LX,and_true->Lq,and_eq_true_iff->MT
open PySem.PassesOwn renaming never->FI
open Prod renaming ext->Fg,fst->JV,snd->MQ
open Or renaming inl->Fp,inr->JW
open PySem.PyData renaming eqv->Fz,eqvAll->GN,depthAll->Gm,canLayAll0->G9,depth->Im,canLay0->Iw,int->JU
open PySem.Builtin.SmallTypes renaming nextOf->F9,ownedTupleIsFree->Gh,ownedTupleHandOut->JD
open Ne renaming symm->GH
open False renaming elim->GJ
open Int renaming toNat_natCast->Gb,emod_nonneg->Ho,zero_add->Jz,emod_lt_of_pos->Kf,eq_ofNat_of_zero_le->L_
open List.Perm renaming append_left->Gz,append_right->HK,trans->JM,of_eq->JN
open Option renaming map_some->G8,map_eq_some_iff->JX,isSome_map->KO,getD_some->Km,isSome_iff_exists->LQ,getD_none->Ml
open PySem.Str renaming ofString->HE
open True renaming intro->HG
open Sum renaming inl->HM,inr->Kr
open PySem.Builtin.List renaming listExtendWith->HQ,listTooLong->Iq,listSameRef->Kp,listItems->K3
open PySem.SeqAt renaming shaped->HR,eqBoolOverData->J6
open PySem.Calls renaming spliced_cons->HV,spliced_nil->IJ,callWith_builtin->Jg,evalArgs_plain->J7,Name_function_global->LM,call_function_entry->LW
open PySem.Builtin.Slice renaming slicePlaces->Hg,sliceAdjust->Ic,sliceApplied->KL
open PySem.Sem renaming bind->Hi,wp->IZ
open PySem.Builtin.Tuple renaming tupleExact->Hs,tupleItemsOf->KJ
open PySem.Around renaming under_plainId->Ht,under->Lr
open PySem.Builtin.Range renaming rangeSize->Hy,small->LB
open PySem.NameKind renaming free->IP
open List.cons renaming injEq->IV
open Array.Perm renaming refl->JJ
open ForInStep renaming yield->JO
open PySem.Heap.SameBut renaming update->Jb
open PySem.Heap.IsSliceOf renaming new->Jc
open PySem.EntryCells renaming newEntry->Jr
open PySem.Builtin.Builtins renaming bindParams->J8
open Prod.mk renaming injEq->J9,inj->Lv
open StateT renaming run_pure->Kz
open PyProof.Rows.SortSt renaming mk'->K9
open PySem.Walks renaming list->LK
open PyProof renaming noPylong_small->Lf
open PySem.W.KatTups renaming cons->Li,nil->Ly
open PySem.Code renaming isFrame->MA
open PySem.W renaming OpenLaw->Mj
set_option Elab.async false
set_option linter.all false
set_option maxRecDepth 100000
namespace L2
open PySem PySem.Spec PyProof.Rows
noncomputable abbrev Key:=Sum Int Str
noncomputable def j0:Key->Δ->Bool
 | .inl k,v=>Value.isInt k v
 | .inr x,v=>Value.isStrOf x v
noncomputable def Eb (w:E2):Key->Int
 | .inl k=>hashInt k
 | .inr x=>hashStr w x
theorem bD:∀ {k:Key} {v:Δ},j0 k v=true->(∃ i t,k=HM i/\v=IT i t)\/(∃ x t,k=Kr x/\v=Kq x t)
 | .inl i,v,h=>by
  obtain ⟨t,e⟩:=Value.isInt_shape (k:=i) (v:=v) h;exact .inl ⟨i,t,rfl,e⟩
 | .inr x,v,h=>by
  obtain ⟨t,e⟩:=Value.isStrOf_shape (x:=x) (v:=v) h;exact .inr ⟨x,t,rfl,e⟩
theorem uW (i:Int) (t:Tok):j0 (.inl i) (.int i t)=true:=by simp [j0,Value.isInt]
theorem uX (x:Str) (t:Tok):j0 (.inr x) (.str x t)=true:=by simp [j0,Value.isStrOf]
theorem Cc (a b:Int):decide ((HM a:Key)=HM b)=(a==b):=by
 by_cases e:a=b
 ·subst e; simp
 ·have h:¬ (HM a:Key)=HM b:=fun q=>e (Sum.inl.inj q);rw [decide_eq_false h];exact (beq_eq_false_iff_ne.mpr e).symm
theorem Cf (a b:Str):decide ((Kr a:Key)=Kr b)=decide (a=b):=by
 by_cases e:a=b
 ·subst e; simp
 ·have h:¬ (Kr a:Key)=Kr b:=fun q=>e (Sum.inr.inj q);rw [decide_eq_false h,decide_eq_false e]
theorem Cd (a:Int) (b:Str):decide ((HM a:Key)=Kr b)=false:=decide_eq_false (fun q=>nomatch q)
theorem Ce (a:Str) (b:Int):decide ((Kr a:Key)=HM b)=false:=decide_eq_false (fun q=>nomatch q)
noncomputable def bJ (prog:ER) (w:E2):PySem.KeyKind prog w Key where
 is:=j0
 hash:=Eb w
 inj:=fun v a b ha hb=>by
  rcases bD ha with ⟨i,t,rfl,rfl⟩ | ⟨x,t,rfl,rfl⟩
  ·rcases bD hb with ⟨j,u,rfl,e⟩ | ⟨y,u,rfl,e⟩
   ·injection e with e1 _; rw [e1]
   ·exact nomatch e
  ·rcases bD hb with ⟨j,u,rfl,e⟩ | ⟨y,u,rfl,e⟩
   ·exact nomatch e
   ·injection e with e1 _; rw [e1]
 byValue:=fun k v h=>by
  rcases bD h with ⟨i,t,rfl,rfl⟩ | ⟨x,t,rfl,rfl⟩<;>rfl
 pyHash:=fun hv h=>by
  rcases bD hv with ⟨i,t,rfl,rfl⟩ | ⟨x,t,rfl,rfl⟩
  ·exact wpAny_pyHash_int h
  ·exact wpAny_pyHash_str h
 eqBool:=fun hu hv h=>by
  rcases bD hu with ⟨i,t,rfl,rfl⟩ | ⟨x,t,rfl,rfl⟩
  ·rcases bD hv with ⟨j,u,rfl,rfl⟩ | ⟨y,u,rfl,rfl⟩
   ·rw [Cc] at h; exact Ir h
   ·rw [Cd] at h; exact SeqAt.EqAt.int_str i t y u _ _ _ _ h
  ·rcases bD hv with ⟨j,u,rfl,rfl⟩ | ⟨y,u,rfl,rfl⟩
   ·rw [Ce] at h; exact SeqAt.EqAt.str_int x t j u _ _ _ _ h
   ·rw [Cf] at h; exact wpAny_eqBool_str h
 «strs»:=fun k x t v h=>by
  rcases bD h with ⟨i,u,rfl,e⟩ | ⟨y,u,rfl,e⟩
  ·exact nomatch e
  ·injection e with e1 _;subst e1
   cases v<;>rfl
theorem pU (prog:ER) (w:E2) (i:Int) (t:Tok):(bJ prog w).is (.inl i) (.int i t)=true:=uW i t
theorem pV (prog:ER) (w:E2) (x:Str) (t:Tok):(bJ prog w).is (.inr x) (.str x t)=true:=uX x t
inductive V where
 | non | bl (b:Bool) | int (i:Int) | str (x:Str) | byt (b:Array UInt8) | flt (b:UInt64) | ref (a:Ω) | ty (n:String)
 deriving DecidableEq
def aU:V->Δ->Prop
 | .non,u=>u=Hw
 | .bl b,u=>u=KI b
 | .int i,u=>∃ t,u=IT i t
 | .str x,u=>∃ t,u=Kq x t
 | .byt b,u=>∃ t,u=Value.bytes b t
 | .flt b,u=>∃ t,u=MG b t
 | .ref a,u=>u=E3 a
 | .ty n,u=>u=Fq n
abbrev Vals:List V->List Δ->Prop:=Paired aU
theorem Vals.length {xs:List V} {us:List Δ} (r:Vals xs us):xs.length=us.length:=Paired.length r
theorem Vals.get:∀ {xs:List V} {us:List Δ} {i:Nat} {x:V},Vals xs us->xs[i]?=some x->∃ u,us[i]?=some u/\aU x u
 | _,_,_,_,.nil,e=>by simp at e
 | _,_,0,_,.cons r _,e=>by simp at e; subst e; exact ⟨_,rfl,r⟩
 | _,_,i+1,x,.cons _ t,e=>by
  obtain ⟨u,h1,h2⟩:=Vals.get (i:=i) (x:=x) t (by simpa using e);exact ⟨u,by simpa using h1,h2⟩
theorem Vals.append:∀ {xs ys:List V} {us ws:List Δ},Vals xs us->Vals ys ws->Vals (xs++ys) (us++ws)
 | _,_,_,_,.nil,s=>s
 | _,_,_,_,.cons r t,s=>.cons r (Vals.append t s)
theorem Vals.take:∀ {xs:List V} {us:List Δ} (n:Nat),Vals xs us->Vals (xs.take n) (us.take n)
 | _,_,0,_=>.nil
 | _,_,_+1,.nil=>.nil
 | _,_,n+1,.cons r t=>.cons r (Vals.take n t)
theorem Vals.drop:∀ {xs:List V} {us:List Δ} (n:Nat),Vals xs us->Vals (xs.drop n) (us.drop n)
 | _,_,0,r=>r
 | _,_,_+1,.nil=>.nil
 | _,_,n+1,.cons _ t=>Vals.drop n t
def iu:Option V->Option Δ->Prop
 | some v,some u=>aU v u
 | none,none=>True
 | _,_=>False
def KV {κ:Type}:List (κ×V)->List (κ×Δ)->Prop:=Paired fun (p:κ×V) (q:κ×Δ)=>p.1=q.1/\aU p.2 q.2
noncomputable def kV:Key->V
 | .inl i=>.int i
 | .inr x=>.str x
inductive HO where
 | lst (xs:List V)
 | tup (xs:List V)
 | dK (kvs:List (Key×V)) | dT (kvs:List (List Key×V))
 | set (S:Int->Bool) (n:Nat)
 | ins (C dx:Ω) (fs:List (Str×V))
 | own (x:Ω)
 | xd (fs:List (Str×V))
 | met (f x:Ω)
 | rng (lo hi:Int)
 | frz (o:HC) (u:HO)
 | tbl (ps:Array Δ)
 | ext (φ:FD->Prop)
noncomputable abbrev Hp:=Ω->Option HO
noncomputable def upd (H:Hp) (a:Ω) (o:HO):Hp:=fun b=>if b=a then some o else H b
theorem af {H:Hp} {a:Ω} {o:HO}:upd H a o a=some o:=by unfold upd; rw [if_pos rfl]
theorem aj {H:Hp} {a b:Ω} {o:HO} (h:b≠a):upd H a o b=H b:=by unfold upd; rw [if_neg h]
theorem Bh {H:Hp} {a:Ω} {o u:HO}:upd (upd H a o) a u=upd H a u:=by
 funext b; unfold upd; split<;>rfl
theorem cg {H:Hp} {a b:Ω} {o u:HO} (h:H a=some o) (h':H b=some u) (d:o≠u):a≠b:=by
 intro e; subst e; rw [h] at h'; exact d (Ez h')
theorem bo {H:Hp} {a b:Ω} {o:HO} (h:H a=some o) (h':H b=none):a≠b:=by
 intro e; subst e; rw [h] at h'; cases h'
section
variable (P:ER) (w:E2)
def bg (H:Hp) (h:FD) (a:Ω):HO->Prop
  | .lst xs => xs.length <= EF /\ ∃ (its : List Δ) (n : Nat), Vals xs its /\ h.get? a = some { cls := .type "list", data := .seq its.toArray n }
  | .tup xs => xs.length <= EF /\ ∃ its : List Δ, Vals xs its /\ IsTup h a its.toArray
  | .dK kvs => kvs.length <= EF /\ (a == G2) = false /\ ∃ vs, KV kvs vs /\ h.DictOf (bJ P w) a vs
  | .dT kvs => kvs.length <= EF /\ (a == G2) = false /\ ∃ xs : List (List Key × Ω × Δ),
      Paired (fun (p:List Key×V) (q:List Key×Ω×Δ)=>p.1=q.1/\H q.2.1=some (.tup (p.1.map kV))/\aU p.2 q.2.2) kvs xs /\
      ∃ o es ep,h.get? a=some o/\o.ExactDict/\o.data=.dict es ep/\es.toList=xs.map (entryOfKey (La (bJ P w)))/\(xs.map (·.1)).Nodup
  | .set S n => h.SetOf (intKind P w) a S n
  | .ins C dx fs => H dx = some (.own a) /\ fs.length <= 1000 /\ dx ≠ a /\ h.get? a = some (W.instObj C dx) /\
      ∃ mA,h.Ns1 dx mA/\(∀ f,iu (fs.lookup f) (mA f))/\Lu mA (fs.map (·.1))
  | .own _ => ∃ o, h.get? a = some o
  | .xd fs => ∃ mA, h.Ns1 a mA /\ ∀ f, iu (fs.lookup f) (mA f)
  | .rng lo hi => ∃ t u v, h.get? a = some { cls := .type "range", data := .fields #[.int lo t, .int hi u, .int 1 v] }
  | .frz o u => h.get? a = some o /\ bg H h a u
  | .tbl ps => h.get? a = some { cls := .none, data := .fields ps }
  | .met f x => h.get? a = some (W.methodObj (.ref f) (.ref x))
  | .ext φ => φ h /\ (∃ o, h.get? a = some o) /\ ∀ h1 h2 : FD, φ h1 -> (∀ o, h1.get? a = some o -> h2.get? a = some o) -> φ h2
def HOk (H:Hp) (h:FD):Prop:=∀ a o,H a=some o->bg P w H h a o
end
section
variable {P:ER} {w:E2} {H H':Hp} {h h':FD} {a:Ω} {o:HO}
theorem bg.lt (x:bg P w H h a o):a<h.objs.size:=by
 cases o with
 | lst xs=>obtain ⟨_,_,_,_,e⟩:=x; exact EC e
 | tup xs=>obtain ⟨_,_,_,p⟩:=x; exact p.lt
 | dK kvs=>obtain ⟨_,_,_,_,o,_,_,e,_⟩:=x; exact EC e
 | dT kvs=>obtain ⟨_,_,_,_,o,_,_,e,_⟩:=x; exact EC e
 | set S n=>obtain ⟨o,_,_,_,e,_⟩:=x; exact EC e
 | ins C dx fs=>obtain ⟨_,_,_,e,_⟩:=x; exact EC e
 | own y=>obtain ⟨_,e⟩:=x; exact EC e
 | xd fs=>obtain ⟨_,⟨_,_,_,e,_⟩,_⟩:=x; exact EC e
 | rng lo hi=>obtain ⟨_,_,_,e⟩:=x; exact EC e
 | frz ob u=>obtain ⟨e,_⟩:=x; exact EC e
 | tbl ps=>exact EC (show h.get? a=some _ from x)
 | met f y=>exact EC (show h.get? a=some _ from x)
 | ext φ=>obtain ⟨_,⟨_,e⟩,_⟩:=x; exact EC e
theorem Paired.mapP {α β:Type} {F G:α->β->Prop}:∀ {l₁:List α} {l₂:List β},Paired F l₁ l₂->(∀ a b,F a b->G a b)->Paired G l₁ l₂
 | _,_,.nil,_=>.nil
 | _,_,.cons r t,f=>.cons (f _ _ r) (Paired.mapP t f)
theorem bg.stay (x:bg P w H h a o) (k:∀ b u,(b=a\/H b=some (.own a))->h.get? b=some u->h'.get? b=some u)
  (ho:∀ b,H b=some (.own a)->H' b=some (.own a)) (ht:∀ b xs,H b=some (.tup xs)->H' b=some (.tup xs)):bg P w H' h' a o:=by
 induction o with
 | lst xs=>obtain ⟨z,its,n,r,e⟩:=x; exact ⟨z,its,n,r,k _ _ (.inl rfl) e⟩
 | tup xs=>obtain ⟨z,its,r,ob,e,c⟩:=x; exact ⟨z,its,r,ob,k _ _ (.inl rfl) e,c⟩
 | dK kvs=>obtain ⟨z,y,vs,r,ob,es,ep,e,c⟩:=x; exact ⟨z,y,vs,r,ob,es,ep,k _ _ (.inl rfl) e,c⟩
 | dT kvs =>
  obtain ⟨z,y,xs,r,ob,es,ep,e,c⟩:=x;exact ⟨z,y,xs,Paired.mapP r fun p q z=>⟨z.1,ht _ _ z.2.1,z.2.2⟩,ob,es,ep,k _ _ (.inl rfl) e,c⟩
 | set S n=>obtain ⟨ob,es,ep,t,e,c⟩:=x; exact ⟨ob,es,ep,t,k _ _ (.inl rfl) e,c⟩
 | ins C dx fs =>
  obtain ⟨d,z,ne,e,mA,⟨od,es,ep,e2,c⟩,r⟩:=x;exact ⟨ho _ d,z,ne,k _ _ (.inl rfl) e,mA,⟨od,es,ep,k _ _ (.inr d) e2,c⟩,r⟩
 | own y=>obtain ⟨ob,e⟩:=x; exact ⟨ob,k _ _ (.inl rfl) e⟩
 | xd fs=>obtain ⟨mA,⟨od,es,ep,e,c⟩,r⟩:=x; exact ⟨mA,⟨od,es,ep,k _ _ (.inl rfl) e,c⟩,r⟩
 | rng lo hi=>obtain ⟨t,u,v,e⟩:=x; exact ⟨t,u,v,k _ _ (.inl rfl) e⟩
 | frz ob u ih=>obtain ⟨e,q⟩:=x; exact ⟨k _ _ (.inl rfl) e,ih q⟩
 | tbl ps =>
  have e:h.get? a=some { cls:=.none,data:=.fields ps }:=x
  show h'.get? a=some { cls:=.none,data:=.fields ps }
  exact k a _ (.inl rfl) e
 | met f y =>
  have e:h.get? a=some (W.methodObj (.ref f) (.ref y)):=x
  show h'.get? a=some (W.methodObj (.ref f) (.ref y))
  exact k a _ (.inl rfl) e
 | ext φ=>obtain ⟨p,⟨o,e⟩,st⟩:=x; exact ⟨st _ _ p fun o q=>k _ _ (.inl rfl) q,⟨o,k _ _ (.inl rfl) e⟩,st⟩
theorem HOk.lt (x:HOk P w H h) (e:H a=some o):a<h.objs.size:=(x a o e).lt
theorem HOk.fresh (x:HOk P w H h) (e:h.objs.size<=a):H a=none:=by
 cases q:H a with
 | none=>rfl
 | some u=>exact absurd (EU (x.lt q) e) (Gj _)
theorem HOk.kept (x:HOk P w H h) (k:∀ b u,h.get? b=some u->h'.get? b=some u):HOk P w H h':=fun a o e =>
 (x a o e).stay (fun b u _ q=>k b u q) (fun _ q=>q) fun _ _ q=>q
theorem HOk.laid (x:HOk P w H h) (k:∀ b u,h.get? b=some u->h'.get? b=some u) (hp:h.objs.size<=a) (new:bg P w (upd H a o) h' a o):HOk P w (upd H a o) h':=fun b u e=>by
 have hn:=x.fresh hp;by_cases hb:b=a
 ·subst hb; rw [af] at e; cases e; exact new
 ·rw [aj hb] at e;exact (x b u e).stay (fun c v _ q=>k c v q) (fun c q=>by rw [aj (bo q hn)]; exact q) fun c xs q=>by rw [aj (bo q hn)]; exact q
end
def Rd (H:Hp) (a:Ω) (u:HO):Prop:=H a=some u\/∃ o,H a=some (.frz o u)
theorem Rd.ok {P:ER} {w:E2} {H:Hp} {h:FD} {a:Ω} {u:HO} (r:Rd H a u) (x:HOk P w H h):bg P w H h a u:=by
 rcases r with r | ⟨o,r⟩
 ·exact x a u r
 ·obtain ⟨_,q⟩:=x a _ r;exact q
def Mut:Option HO->Prop
 | some (.lst _)=>True
 | some (.dK _)=>True
 | some (.dT _)=>True
 | some (.set _ _)=>True
 | some (.ins _ _ _)=>True
 | some (.ext _)=>True
 | _=>False
section
variable {P:ER} {w:E2} {H:Hp} {h h':FD} {x e:Ω} {o':HO}
theorem HOk.write (ok:HOk P w H h) (mu:Mut (H x)) (he:e=x\/H e=some (.own x)) (k:∀ b u,b≠e->h.get? b=some u->h'.get? b=some u) (heo:∃ u,h'.get? e=some u)
    (new:bg P w (upd H x o') h' x o'):HOk P w (upd H x o') h':=fun b u q=>by
  have nown:∀ c y,H c=some (.own y)->c≠x:=fun c y r z=>by subst z; rw [r] at mu; exact mu
  have ntup:∀ c xs,H c=some (.tup xs)->c≠x:=fun c xs r z=>by subst z; rw [r] at mu; exact mu
  by_cases hb:b=x
  · subst hb; rw [af] at q; cases q; exact new
  · rw [aj hb] at q
    by_cases hbe:b=e
    · have q':H b=some (.own x):=by
        rcases he with z | z
        · exact absurd (hbe.trans z) hb
        · rw [hbe]; exact z
      rw [q] at q'; cases q';obtain ⟨v,hv⟩:=heo;exact ⟨v,by rw [hbe]; exact hv⟩
    · refine (ok b u q).stay (fun c v hc r=>k c v ?_ r) (fun c r=>by rw [aj (nown c b r)]; exact r) fun c xs r=>by rw [aj (ntup c xs r)]; exact r
      rcases hc with rfl | hc
      · exact hbe
      · rintro rfl
        rcases he with z | z
        · exact nown c b hc z
        · rw [hc] at z; cases z; exact hb rfl
end
structure Un (fs ex:List Ω) (H H':Hp) (h h':FD):Prop where
 keep:∀ b o,h.get? b=some o->H b=none->b∉fs->b∉ex->h'.get? b=some o
 slot:∀ b o,h.get? b=some o->H b=none->b∈fs->b∉ex->∃ sl,h'.get? b=some { o with slots:=sl }
 free:∀ b o,h.get? b=some o->H b=none->b∉ex->H' b=none
 there:∀ b o,h.get? b=some o->b∉ex->∃ o',h'.get? b=some o'
 tups:∀ b xs,H b=some (.tup xs)->H' b=some (.tup xs)
 frzs:∀ b o u,H b=some (.frz o u)->H' b=some (.frz o u)
 tbls:∀ b ps,H b=some (.tbl ps)->∃ more,H' b=some (.tbl (ps++more))
section
variable {fs fs' ex ex':List Ω} {H H1 H2:Hp} {h h1 h2 h':FD} {a x e:Ω} {o:HO}
theorem Un.any (u:Un fs ex H H1 h h1) {b:Ω} {ob:HC} (q:h.get? b=some ob) (n:H b=none) (hx:b∉ex):∃ sl,h1.get? b=some { ob with slots:=sl }:=by
 by_cases hb:b∈fs
 ·exact u.slot b ob q n hb hx
 ·exact ⟨ob.slots,u.keep b ob q n hb hx⟩
theorem Un.trans (a:Un fs ex H H1 h h1) (b:Un fs ex H1 H2 h1 h2):Un fs ex H H2 h h2 where
 keep:=fun c ob q n hc hx=>b.keep c ob (a.keep c ob q n hc hx) (a.free c ob q n hx) hc hx
 slot:=fun c ob q n hc hx=>by
  obtain ⟨sl,e1⟩:=a.slot c ob q n hc hx;obtain ⟨sl',e2⟩:=b.slot c _ e1 (a.free c ob q n hx) hc hx;exact ⟨sl',e2⟩
 free:=fun c ob q n hx=>by
  obtain ⟨o',e1⟩:=a.there c ob q hx;exact b.free c o' e1 (a.free c ob q n hx) hx
 there:=fun c ob q hx=>by
  obtain ⟨o',e1⟩:=a.there c ob q hx;exact b.there c o' e1 hx
 tups:=fun c xs q=>b.tups c xs (a.tups c xs q)
 frzs:=fun c ob xs q=>b.frzs c ob xs (a.frzs c ob xs q)
 tbls:=fun c ps q=>by
  obtain ⟨m1,e1⟩:=a.tbls c ps q;obtain ⟨m2,e2⟩:=b.tbls c _ e1;exact ⟨m1++m2,by rw [e2,Mb]⟩
theorem Un.kept (k:∀ b u,h.get? b=some u->h'.get? b=some u):Un fs ex H H h h' :=
 ⟨fun b ob q _ _ _=>k b ob q,fun b ob q _ _ _=>⟨ob.slots,k b ob q⟩,fun _ _ _ n _=>n,fun b ob q _=>⟨ob,k b ob q⟩,fun _ _ q=>q,fun _ _ _ q=>q,fun _ ps q=>⟨#[],by rw [q]; simp⟩⟩
theorem Un.refl:Un fs ex H H h h:=Un.kept fun _ _ q=>q
theorem Un.laid (k:∀ b u,h.get? b=some u->h'.get? b=some u) (hp:h.objs.size<=a) (hn:H a=none):Un fs ex H (upd H a o) h h' where
 keep:=fun b u q _ _ _=>k b u q
 slot:=fun b u q _ _ _=>⟨u.slots,k b u q⟩
 free:=fun b u q n _=>by rw [aj (EH (EU (EC q) hp))]; exact n
 there:=fun b u q _=>⟨u,k b u q⟩
 tups:=fun b xs q=>by rw [aj (bo q hn)]; exact q
 frzs:=fun b u xs q=>by rw [aj (bo q hn)]; exact q
 tbls:=fun b ps q=>⟨#[],by rw [aj (bo q hn),q]; simp⟩
theorem Un.write (mu:Mut (H x)) (he:e=x\/H e=some (.own x)) (k:∀ b u,b≠e->h.get? b=some u->h'.get? b=some u) (heo:∃ u,h'.get? e=some u):Un fs ex H (upd H x o) h h':=by
 have hx:∀ b,H b=none->b≠x:=fun b n z=>by subst z; rw [n] at mu; exact mu
 have hb:∀ b,H b=none->b≠e:=fun b n z=>by
  subst z;rcases he with r | r
  ·exact hx b n r
  ·rw [n] at r; cases r
 have hm:∀ b u,H b=some u->¬ Mut (some u)->b≠x:=fun b u q nm z=>by subst z; rw [q] at mu; exact nm mu
 refine ⟨fun b u q n _ _=>k b u (hb b n) q,fun b u q n _ _=>⟨u.slots,k b u (hb b n) q⟩,fun b u q n _=>by rw [aj (hx b n)]; exact n,fun b u q _=>?_,
  fun b xs q=>by rw [aj (hm b _ q fun z=>z)]; exact q,fun b u xs q=>by rw [aj (hm b _ q fun z=>z)]; exact q,fun b ps q=>⟨#[],by rw [aj (hm b _ q fun z=>z),q]; simp⟩⟩
 by_cases hbe:b=e
 ·subst hbe; exact heo
 ·exact ⟨u,k b u hbe q⟩
end
noncomputable def trk (h:FD) (H:Hp):List Addr:=(FG h.objs.size).filter fun a=>(H a).isSome
noncomputable def nA (h:FD) (H:Hp):Heap:=W.hideAll h (trk h H)
theorem uR (h:FD) (H:Hp):(nA h H).objs.size=h.objs.size:=W.hideAll_size _ _
theorem xj {h:FD} {H:Hp} {b:Ω} {o:HC} (e:h.get? b=some o) (n:H b=none):(nA h H).get? b=some o :=
 W.hideAll_get _ e fun hm=>by
  have q:(H b).isSome=true:=(FN.mp hm).2;rw [n] at q; simp at q
theorem Ag {h:FD} {H:Hp} {b:Ω} {o:HC} (e:(nA h H).get? b=some o):h.get? b=some o/\H b=none:=by
 have e':h.get? b=some o:=W.of_hideAll (trk h H) e;refine ⟨e',?_⟩
 cases q:H b with
 | none=>rfl
 | some x =>
  have hm:b∈trk h H:=FN.mpr ⟨FE.mpr (EC e'),by simp [q]⟩;have z:(nA h H).get? b=none:=W.hideAll_none (trk h H) hm;rw [z] at e; cases e
noncomputable def zD (g h:FD) (L:Ω):List (Ω×HC):=(FG h.objs.size).filterMap fun a=>if a=L\/(g.get? a).isSome=true then none else (h.get? a).map fun o=>(a,o)
noncomputable def dO (g h:FD) (L d:Ω):List (Ω×HC):=(zD g h L).filter fun p=>decide (p.1≠d)
structure Mod (K:W.Frag) (mg:Str->Option Δ) (base:FD):Prop where
 kin:K.In base
 glob:base.Ns Gs mg
 blt:∃ mb,base.Ns builtinsNs mb/\∀ x:Str,x≠"__name__"->mb x=Fi x
 nolimit:base.NoLimit
structure Cx where
 prog:ER
 w:E2
 K:W.Frag
 mg:Str->Option Δ
 base:FD
 A:E5
 N:List Str
 s₀:A2
 H₀:Hp
 env:K8
 outer:List K8
 stack:List K8
 ex:List Ω
 fn:Str->Bool
 calm:Bool
 pn:List (Ω×HC)
 xe:Δ->A2->Prop
noncomputable def frs (l:List K8):List Addr:=l.filterMap (·.frame)
noncomputable abbrev Cx.fs (X:Cx):List Addr:=frs X.outer
def Vis (sc:Jl) (x:Str):Prop:=sc.names.lookup x=some .local\/sc.names.lookup x=some .cell\/sc.names.lookup x=some .free
def Loc (sc:Jl) (x:Str):Prop:=sc.names.lookup x=some .local\/sc.names.lookup x=some .cell
def D4 (env:K8) (h:FD) (m:Str->Option Δ) (x:Str) (u:Δ):Prop :=
 (env.kindOf x=some .local/\m x=some u)\/((env.kindOf x=some .cell\/env.kindOf x=some .free)/\∃ c,env.cells.lookup x=some c/\h.IsCell c (some u))
structure Cx.Ok (X:Cx):Prop where
 mod:Mod X.K X.mg X.base
 kind:X.env.scope.kind=.function
 glob:X.env.globals=Gs
 blt:X.env.builtins=builtinsNs
 above:X.s₀.heap.objs.size<=X.env.locals
 inj:∀ x y c,X.env.cells.lookup x=some c->X.env.cells.lookup y=some c->x=y
 has:∀ x,(X.env.kindOf x=some .cell\/X.env.kindOf x=some .free)->∃ c,X.env.cells.lookup x=some c
 cab:∀ x c,X.fn x=true->X.env.cells.lookup x=some c->X.s₀.heap.objs.size<=c
 hd:X.calm=true->X.A.handled=none
 frames:X.A.frames=some X.stack
 stk:X.stack=X.outer\/(X.stack=X.env::X.outer/\X.env.frame=some X.env.locals)
 exf:∀ b∈X.ex,b≠X.env.locals/\∀ x c,X.env.cells.lookup x=some c->c≠b
 bs:∀ b o,X.base.get? b=some o->X.s₀.heap.get? b=some o/\X.H₀ b=none
 bsz:X.base.objs.size<=X.s₀.heap.objs.size
 noex:∀ b o,X.base.get? b=some o->b∉X.ex
 exfs:∀ b∈X.ex,b∉X.fs
 funs:X.s₀.heap.FunFrames X.base X.outer
 frf:∀ b∈X.fs,X.H₀ b=none
structure Inv (X:Cx) (pins:List (Ω×HC)) (σ:List (Option V)) (H:Hp) (s:A2):Prop where
 ok:X.Ok
 os:s.os=X.s₀.os
 bare:JK s.gens
 base:Un X.fs X.ex X.H₀ H X.s₀.heap s.heap
 loc:∃ m,s.heap.Ns X.env.locals m/\∀ (i:Nat) (x:Str) (v:V),X.N[i]?=some x->σ[i]?=some (some v)->Vis X.env.scope x->∃ u,aU v u/\D4 X.env s.heap m x u
 cell:∀ x c,X.env.cells.lookup x=some c->∃ v,s.heap.IsCell c v
 free:H X.env.locals=none
 freeC:∀ x c,X.env.cells.lookup x=some c->H c=none
 pin:∀ p∈X.pn++pins,s.heap.get? p.1=some p.2/\H p.1=none/\p.1≠X.env.locals/\p.1∉X.fs/\∀ v,p.2.data≠.cell v
 hok:HOk X.prog X.w H s.heap
 len:σ.length=X.N.length
section
variable {X:Cx} {pins:List (Ω×HC)} {σ:List (Option V)} {H H':Hp} {s:A2} {h':FD}
theorem Cx.Ok.nofr (ok:X.Ok) {b:Ω} {o:HC} (e:X.base.get? b=some o):b∉X.fs:=fun hb=>by
 have:=(ok.funs.mem hb).1
 rw [e] at this; cases this
theorem Inv.bs (I:Inv X pins σ H s):∀ b o,X.base.get? b=some o->s.heap.get? b=some o/\H b=none:=fun b o e =>
 ⟨I.base.keep b o (I.ok.bs b o e).1 (I.ok.bs b o e).2 (I.ok.nofr e) (I.ok.noex b o e),I.base.free b o (I.ok.bs b o e).1 (I.ok.bs b o e).2 (I.ok.noex b o e)⟩
theorem Inv.bk (I:Inv X pins σ H s):∀ b o,X.base.get? b=some o->s.heap.get? b=some o:=fun b o e=>(I.bs b o e).1
theorem Inv.mod (I:Inv X pins σ H s):Mod X.K X.mg X.base:=I.ok.mod
theorem Inv.kIn (I:Inv X pins σ H s):X.K.In s.heap:=I.ok.mod.kin.keeps I.bk
theorem Inv.lt (I:Inv X pins σ H s):X.env.locals<s.heap.objs.size:=let ⟨_,hn,_⟩:=I.loc; hn.lt
theorem Inv.sz (I:Inv X pins σ H s):X.s₀.heap.objs.size<=s.heap.objs.size:=FA I.ok.above (Kv I.lt)
theorem Inv.nofs (I:Inv X pins σ H s) {a:Ω} (h:s.heap.objs.size<=a):a∉X.fs:=fun hb=>by
 obtain ⟨_,o,ho,_⟩:=I.ok.funs.mem hb;exact absurd (EU (EC ho) (FA I.sz h)) (Gj _)
theorem Inv.cne (I:Inv X pins σ H s):∀ x c,X.env.cells.lookup x=some c->c≠X.env.locals:=fun x c e z=>by
 obtain ⟨v,o,ho,hd⟩:=I.cell x c e;obtain ⟨m,⟨o',es,ep,ho',hd',_⟩,_⟩:=I.loc;rw [z,ho'] at ho; cases ho; rw [hd'] at hd; cases hd
theorem Inv.funs (I:Inv X pins σ H s):s.heap.FunFrames X.base X.outer:=by
 have all:∀ (l:List K8),(∀ b∈frs l,b∈X.fs)->X.s₀.heap.FunFrames X.base l->s.heap.FunFrames X.base l:=by
  intro l
  induction l with
  | nil => intro _ _; trivial
  | cons env r ih =>
   intro hs hl;obtain ⟨hk,⟨L,o,hf,hn,ho,hd⟩,hr⟩:=hl;have hL:L∈X.fs:=hs L (by unfold frs; rw [HJ,hf]; exact θ);obtain ⟨sl,e⟩:=I.base.slot L o ho (I.ok.frf L hL) hL fun z=>I.ok.exfs L z hL;exact ⟨hk,⟨L,_,hf,hn,e,hd⟩,ih (fun b hb=>hs b (by unfold frs; rw [HJ,hf]; exact Θ _ hb)) hr⟩
 exact all X.outer (fun _ hb=>hb) I.ok.funs
theorem Inv.stack (I:Inv X pins σ H s):s.heap.FunFrames X.base X.stack:=by
 rcases I.ok.stk with e | ⟨e,hf⟩
 ·rw [e]; exact I.funs
 ·rw [e];obtain ⟨m,hn,_⟩:=I.loc;refine .cons (by rw [I.ok.kind]; decide) hf hn ?_ I.funs;exact Heap.get?_none_of_le (FA I.ok.bsz I.ok.above)
theorem Inv.stkSub (I:Inv X pins σ H s):∀ b∈frs X.stack,b∈X.env.locals::X.fs:=fun b hb=>by
 rcases I.ok.stk with e | ⟨e,hf⟩
 ·rw [e] at hb; exact Θ _ hb
 ·rw [e] at hb;unfold frs at hb;rw [HJ,hf] at hb;exact hb
theorem Inv.stkFree (I:Inv X pins σ H s):∀ b∈frs X.stack,H b=none:=fun b hb=>by
 rcases Bb.mp (I.stkSub b hb) with e | hb
 ·rw [e]; exact I.free
 ·obtain ⟨_,o,ho,_⟩:=I.ok.funs.mem hb;exact I.base.free b o ho (I.ok.frf b hb) fun z=>I.ok.exfs b z hb
theorem Inv.step {g':Array GenState} {t':Nat} {d':Drawn} {ch:List Ω} (I:Inv X pins σ H s)
  (hch:∀ b∈ch,(b∈X.ex\/X.s₀.heap.objs.size<=b)/\b≠X.env.locals/\(∀ x c,X.env.cells.lookup x=some c->c≠b)/\∀ p∈X.pn++pins,p.1≠b)
  (keep:∀ b o,b≠X.env.locals->b∉X.fs->b∉ch->s.heap.get? b=some o->H b=none->h'.get? b=some o)
  (slot:∀ b o,b≠X.env.locals->b∈X.fs->b∉ch->s.heap.get? b=some o->H b=none->∃ sl,h'.get? b=some { o with slots:=sl }) (free:∀ b o,b∉ch->s.heap.get? b=some o->H b=none->H' b=none)
  (there:∀ b o,b∉ch->s.heap.get? b=some o->∃ o',h'.get? b=some o')
  (tups:∀ b xs,H b=some (.tup xs)->H' b=some (.tup xs)) (frzs:∀ b o u,H b=some (.frz o u)->H' b=some (.frz o u)) (tbls:∀ b ps,H b=some (.tbl ps)->∃ more,H' b=some (.tbl (ps++more)))
  (ns:∀ m,s.heap.Ns X.env.locals m->h'.Ns X.env.locals m) (hok:HOk X.prog X.w H' h') (hg:JK g') :
  Inv X pins σ H' { s with heap:=h',gens:=g',drawn:=d',toks:=t' }:=by
 have neL:∀ b o,X.s₀.heap.get? b=some o->b≠X.env.locals:=fun b o e=>EH (EU (EC e) I.ok.above);have neC:∀ b o,X.s₀.heap.get? b=some o->b∉X.ex->b∉ch:=fun b o e hx hb=>by
  rcases (hch b hb).1 with z | z
  ·exact hx z
  ·exact absurd (EU (EC e) z) (Gj _)
 have cellK:∀ x c,X.env.cells.lookup x=some c->∀ v,s.heap.IsCell c v->h'.IsCell c v:=fun x c e v ⟨o,ho,hd⟩=>by
  have nch:c∉ch:=fun z=>(hch c z).2.2.1 x c e rfl;by_cases hc:c∈X.fs
  ·obtain ⟨sl,q⟩:=slot c o (I.cne x c e) hc nch ho (I.freeC x c e);exact ⟨_,q,hd⟩
  ·exact ⟨o,keep c o (I.cne x c e) hc nch ho (I.freeC x c e),hd⟩
 refine ⟨I.ok,I.os,hg,⟨fun b o e n hb hx=>?_,fun b o e n hb hx=>?_,fun b o e n hx=>?_,fun b o e hx=>?_,fun b xs e=>tups b xs (I.base.tups b xs e),fun b o xs e=>frzs b o xs (I.base.frzs b o xs e),fun b ps e=>?_⟩,?_,fun x c e=>?_,?_,fun x c e=>?_,fun p hp=>?_,hok,I.len⟩
 ·exact keep b o (neL b o e) hb (neC b o e hx) (I.base.keep b o e n hb hx) (I.base.free b o e n hx)
 ·obtain ⟨sl,e1⟩:=I.base.slot b o e n hb hx;obtain ⟨sl',e2⟩:=slot b _ (neL b o e) hb (neC b o e hx) e1 (I.base.free b o e n hx);exact ⟨sl',e2⟩
 ·obtain ⟨o',e1⟩:=I.base.there b o e hx;exact free b o' (neC b o e hx) e1 (I.base.free b o e n hx)
 ·obtain ⟨o',e1⟩:=I.base.there b o e hx;exact there b o' (neC b o e hx) e1
 ·obtain ⟨m1,e1⟩:=I.base.tbls b ps e;obtain ⟨m2,e2⟩:=tbls b _ e1;exact ⟨m1++m2,by rw [e2,Mb]⟩
 ·obtain ⟨m,hn,hl⟩:=I.loc;refine ⟨m,ns m hn,fun i x v e1 e2 e3=>?_⟩;obtain ⟨u,r,l⟩:=hl i x v e1 e2 e3;refine ⟨u,r,?_⟩;rcases l with l | ⟨k,c,e,z⟩
  ·exact .inl l
  ·exact .inr ⟨k,c,e,cellK x c e _ z⟩
 ·obtain ⟨v,z⟩:=I.cell x c e;exact ⟨v,cellK x c e v z⟩
 ·obtain ⟨m,⟨o,_,_,ho,_⟩,_⟩:=I.loc;exact free _ o (fun z=>(hch _ z).2.1 rfl) ho I.free
 ·obtain ⟨v,o,ho,hd⟩:=I.cell x c e;exact free c o (fun z=>(hch c z).2.2.1 x c e rfl) ho (I.freeC x c e)
 ·obtain ⟨e,n,ne,nf,d⟩:=I.pin p hp;have nch:p.1∉ch:=fun z=>(hch p.1 z).2.2.2 p hp rfl;exact ⟨keep p.1 p.2 ne nf nch e n,free p.1 p.2 nch e n,ne,nf,d⟩
theorem Inv.un {t':Nat} (I:Inv X pins σ H s) (u:Un X.fs [] H H' s.heap h') (hok:HOk X.prog X.w H' h'):Inv X pins σ H' { s with heap:=h',toks:=t' }:=by
 obtain ⟨m,⟨o,es,ep,ho,r⟩,_⟩:=id I.loc;obtain ⟨sl,hL⟩:=u.any ho I.free (by simp);exact I.step (g':=s.gens) (d':=s.drawn) (ch:=[]) (fun _ z=>nomatch z) (fun b o _ hb _ e n=>u.keep b o e n hb (by simp)) (fun b o _ hb _ e n=>u.slot b o e n hb (by simp)) (fun b o _ e n=>u.free b o e n (by simp)) (fun b o _ e=>u.there b o e (by simp)) u.tups u.frzs u.tbls (fun m' hm=>by
  obtain ⟨o',es',ep',ho',r'⟩:=hm;rw [ho] at ho'; cases ho';exact ⟨_,es',ep',hL,r'⟩) hok I.bare
theorem Inv.call {g':Array GenState} {t':Nat} {d':Drawn} {ch:List Ω} (I:Inv X pins σ H s) (u:Un (frs X.stack) ch H H' s.heap h') (hok:HOk X.prog X.w H' h') (hg:JK g')
  (hch:∀ b∈ch,(b∈X.ex\/X.s₀.heap.objs.size<=b)/\b≠X.env.locals/\(∀ x c,X.env.cells.lookup x=some c->c≠b)/\∀ p∈X.pn++pins,p.1≠b) :
  Inv X pins σ H' { s with heap:=h',gens:=g',drawn:=d',toks:=t' }:=by
 obtain ⟨m,⟨o,es,ep,ho,r⟩,_⟩:=id I.loc;obtain ⟨sl,hL⟩:=u.any ho I.free fun z=>(hch _ z).2.1 rfl;exact I.step (ch:=ch) hch (fun b o hL hb hc e n=>u.keep b o e n (fun z=>(Bb.mp (I.stkSub b z)).elim hL hb) hc) (fun b o _ _ hc e n=>u.any e n hc) (fun b o hc e n=>u.free b o e n hc) (fun b o hc e=>u.there b o e hc) u.tups u.frzs u.tbls (fun m' hm=>by
  obtain ⟨o',es',ep',ho',r'⟩:=hm;rw [ho] at ho'; cases ho';exact ⟨_,es',ep',hL,r'⟩) hok hg
theorem Inv.turned {t':Nat} {it:Ω} (I:Inv X pins σ H s) (k:∀ b o,b≠it->s.heap.get? b=some o->h'.get? b=some o) (hn:H it=none) (hL:it≠X.env.locals)
  (h1:it∈X.ex\/X.s₀.heap.objs.size<=it) (h2:∀ x c,X.env.cells.lookup x=some c->c≠it) (h3:∀ p∈X.pn++pins,p.1≠it):Inv X pins σ H { s with heap:=h',toks:=t' }:=by
 have nit:∀ b u,H b=some u->b≠it:=fun b u e z=>by rw [z,hn] at e; cases e
 refine I.step (g':=s.gens) (d':=s.drawn) (ch:=[it]) (fun b hb=>?_) (fun b o _ _ hc e _=>k b o (fun z=>hc (by simp [z])) e) (fun b o _ _ hc e _=>⟨o.slots,k b o (fun z=>hc (by simp [z])) e⟩) (fun _ _ _ _ n=>n)
  (fun b o hc e=>⟨o,k b o (fun z=>hc (by simp [z])) e⟩) (fun _ _ e=>e) (fun _ _ _ e=>e) (fun b ps e=>⟨#[],by rw [e]; simp⟩) (fun m hm=>?_) (fun b u e=>?_) I.bare
 ·have e:b=it:=by simpa using hb
  subst e;exact ⟨h1,hL,h2,h3⟩
 ·obtain ⟨o,es,ep,ho,r⟩:=hm;exact ⟨o,es,ep,k _ o (GH hL) ho,r⟩
 ·refine (I.hok b u e).stay (fun c v hc q=>k c v ?_ q) (fun _ q=>q) fun _ _ q=>q;rcases hc with z | z
  ·rw [z]; exact nit b u e
  ·exact nit c _ z
theorem Inv.tok (I:Inv X pins σ H s) (t:Nat):Inv X pins σ H { s with toks:=t }:=I.un (h':=s.heap) (t':=t) Un.refl I.hok
theorem Inv.kept {t':Nat} (I:Inv X pins σ H s) (k:∀ b u,s.heap.get? b=some u->h'.get? b=some u):Inv X pins σ H { s with heap:=h',toks:=t' }:=I.un (Un.kept k) (I.hok.kept k)
theorem Inv.laid {a:Ω} {o:HO} {t':Nat} (I:Inv X pins σ H s) (k:∀ b u,s.heap.get? b=some u->h'.get? b=some u) (hp:s.heap.objs.size<=a) (new:bg X.prog X.w (upd H a o) h' a o) :
  Inv X pins σ (upd H a o) { s with heap:=h',toks:=t' }:=I.un (Un.laid k hp (I.hok.fresh hp)) (I.hok.laid k hp new)
theorem Inv.write {x e:Ω} {o:HO} {t':Nat} (I:Inv X pins σ H s) (mu:Mut (H x)) (he:e=x\/H e=some (.own x)) (k:∀ b u,b≠e->s.heap.get? b=some u->h'.get? b=some u) (heo:∃ u,h'.get? e=some u)
  (new:bg X.prog X.w (upd H x o) h' x o):Inv X pins σ (upd H x o) { s with heap:=h',toks:=t' }:=I.un (Un.write mu he k heo) (I.hok.write mu he k heo new)
theorem Inv.pins_of {pins':List (Ω×HC)} (I:Inv X pins σ H s) (h:∀ p∈pins',s.heap.get? p.1=some p.2/\H p.1=none/\p.1≠X.env.locals/\p.1∉X.fs/\∀ v,p.2.data≠.cell v):Inv X pins' σ H s :=
 ⟨I.ok,I.os,I.bare,I.base,I.loc,I.cell,I.free,I.freeC,fun p hp=>(EG.mp hp).elim (fun z=>I.pin p (E1 _ z)) (h p),I.hok,I.len⟩
theorem pX {N:List Str} (hN:N.Nodup) {i j:Nat} {x:Str} (a:N[i]?=some x) (b:N[j]?=some x):i=j:=by
 obtain ⟨h1,e1⟩:=Bc.mp a;obtain ⟨h2,e2⟩:=Bc.mp b;exact (List.getElem_inj hN).mp (e1.trans e2.symm)
theorem wa {M:JS} {A:E5} {E:Δ->A2->Prop} {i:Nat} {x:Str} {v:V} {u:Δ} {Q:Unit->A2->Prop} (I:Inv X pins σ H s) (hN:X.N.Nodup) (hi:X.N[i]?=some x) (hx:Loc X.env.scope x) (r:aU v u)
    (h:∀ s',Inv X pins (σ.set i (some v)) H s'->(∃ a,G0 a s.heap s'.heap/\(a=X.env.locals\/X.env.cells.lookup x=some a))->Q () s') (hf:X.fn x=true\/X.env.scope.names.lookup x=some .local:=by first | exact .inl rfl | exact .inr rfl | assumption):EM M A (storeName X.env x u) Q E s:=by
  obtain ⟨m,hn,hl⟩:=id I.loc;have hcls:(X.env.scope.kind==.class||(X.env.scope.kind==.module&&X.env.locals != X.env.globals))=false:=by rw [I.ok.kind]; rfl
  have hiσ:i<σ.length:=by rw [I.len]; exact (Bc.mp hi).1
  have cne:=I.cne;have tracked:∀ {a:Ω} {h':FD},(∃ o,s.heap.get? a=some o/\H a=none)->G0 a s.heap h'->HOk X.prog X.w H h':=fun {a h'} ha hs b ob e=>by
    obtain ⟨_,_,hfree⟩:=ha;refine (I.hok b ob e).stay (fun c w' hc q=>(hs.2 c ?_).trans q) (fun _ q=>q) fun _ _ q=>q;rintro rfl;rcases hc with rfl | hc
    · rw [hfree] at e; cases e
    · rw [hfree] at hc; cases hc
  rcases hx with hk | hk
  · refine wpAny_storeName_local hk hn (fun h' hn' hs=>?_) hcls
    obtain ⟨oL,_,_,hoL,_⟩:=id hn;refine h _ ⟨I.ok,I.os,I.bare,⟨fun b o e n hb hx=>?_,fun b o e n hb hx=>?_,I.base.free,fun b o e hx=>?_,I.base.tups,I.base.frzs,I.base.tbls⟩,⟨_,hn',fun j y v' e1 e2 e3=>?_⟩,fun y c e=>?_,I.free,I.freeC,fun p hp=>?_,tracked ⟨oL,hoL,I.free⟩ hs,by simpa using I.len⟩ ⟨_,hs,.inl rfl⟩
    · exact (hs.2 b (EH (EU (EC e) I.ok.above))).trans (I.base.keep b o e n hb hx)
    · obtain ⟨sl,e1⟩:=I.base.slot b o e n hb hx
      exact ⟨sl,(hs.2 b (EH (EU (EC e) I.ok.above))).trans e1⟩
    · obtain ⟨o',e1⟩:=I.base.there b o e hx
      exact ⟨o',(hs.2 b (EH (EU (EC e) I.ok.above))).trans e1⟩
    · by_cases hj:j=i
      · subst hj
        rw [hi] at e1; cases e1;rw [Jp hiσ] at e2
        cases e2;exact ⟨u,r,.inl ⟨hk,by simp⟩⟩
      · rw [MR (GH hj)] at e2
        obtain ⟨u',r',q⟩:=hl j y v' e1 e2 e3;refine ⟨u',r',?_⟩;rcases q with ⟨k,e⟩ | ⟨k,c,e,z⟩
        · refine .inl ⟨k,?_⟩
          have:y≠x:=fun e=>hj (pX hN e1 (e ▸ hi))
          simp [this,e]
        · exact .inr ⟨k,c,e,z.sameBut hs (cne y c e)⟩
    · obtain ⟨w',z⟩:=I.cell y c e
      exact ⟨w',z.sameBut hs (cne y c e)⟩
    · obtain ⟨e,n,ne,nf,d⟩:=I.pin p hp
      exact ⟨(hs.2 p.1 ne).trans e,n,ne,nf,d⟩
  · have hfn:X.fn x=true:=by
      rcases hf with z | z
      · exact z
      · rw [z] at hk; cases hk
    obtain ⟨c,hc⟩:=I.ok.has x (.inl hk);obtain ⟨w',z⟩:=I.cell x c hc;refine wpAny_storeName_cell I.ok.kind hk hc z (fun h' hc' hs=>?_);obtain ⟨oc,hoc,hocd⟩:=id z;refine h { s with heap:=h' } ⟨I.ok,I.os,I.bare,⟨fun b o e n hb hx=>?_,fun b o e n hb hx=>?_,I.base.free,fun b o e hx=>?_,I.base.tups,I.base.frzs,I.base.tbls⟩,⟨m,hn.sameBut hs (GH (cne x c hc)),fun j y v' e1 e2 e3=>?_⟩,fun y c' e=>?_,I.free,I.freeC,fun p hp=>?_,tracked ⟨oc,hoc,I.freeC x c hc⟩ hs,by simpa using I.len⟩ ⟨c,hs,.inr hc⟩
    · exact (hs.2 b (EH (EU (EC e) (I.ok.cab x c hfn hc)))).trans (I.base.keep b o e n hb hx)
    · obtain ⟨sl,e1⟩:=I.base.slot b o e n hb hx
      exact ⟨sl,(hs.2 b (EH (EU (EC e) (I.ok.cab x c hfn hc)))).trans e1⟩
    · obtain ⟨o',e1⟩:=I.base.there b o e hx
      exact ⟨o',(hs.2 b (EH (EU (EC e) (I.ok.cab x c hfn hc)))).trans e1⟩
    · by_cases hj:j=i
      · subst hj
        rw [hi] at e1; cases e1;rw [Jp hiσ] at e2
        cases e2;exact ⟨u,r,.inr ⟨.inl hk,c,hc,hc'⟩⟩
      · rw [MR (GH hj)] at e2
        obtain ⟨u',r',q⟩:=hl j y v' e1 e2 e3;refine ⟨u',r',?_⟩;rcases q with q | ⟨k,c',e,z'⟩
        · exact .inl q
        · refine .inr ⟨k,c',e,z'.sameBut hs ?_⟩
          rintro rfl;exact hj (pX hN e1 (I.ok.inj _ _ _ e hc ▸ hi))
    · by_cases hcc:c'=c
      · subst hcc; exact ⟨_,hc'⟩
      · obtain ⟨w2,z2⟩:=I.cell y c' e
        exact ⟨w2,z2.sameBut hs hcc⟩
    · obtain ⟨e,n,ne,nf,d⟩:=I.pin p hp
      refine ⟨(hs.2 p.1 ?_).trans e,n,ne,nf,d⟩;intro q;rw [q,hoc] at e;have q':oc=p.2:=Ez e;exact d w' (by rw [<- q']; exact hocd)
theorem lh {M:JS} {A:E5} {E:Δ->A2->Prop} {i:Nat} {x:Str} {v:V} {u:Δ} {Q:Unit->A2->Prop} (I:Inv X pins σ H s) (hN:X.N.Nodup) (hi:X.N[i]?=some x) (hx:Loc X.env.scope x) (r:aU v u)
  (h:∀ s',Inv X pins (σ.set i (some v)) H s'->Q () s') (hf:X.fn x=true\/X.env.scope.names.lookup x=some .local:=by first | exact .inl rfl | exact .inr rfl | assumption):EM M A (storeName X.env x u) Q E s :=
 wa I hN hi hx r (fun s' I' _=>h s' I') hf
theorem Inv.call' {s':A2} {ch:List Ω} (I:Inv X pins σ H s) (ho:s'.os=s.os) (u:Un (frs X.stack) ch H H' s.heap s'.heap) (hok:HOk X.prog X.w H' s'.heap) (hg:JK s'.gens)
  (hch:∀ b∈ch,(b∈X.ex\/X.s₀.heap.objs.size<=b)/\b≠X.env.locals/\(∀ x c,X.env.cells.lookup x=some c->c≠b)/\∀ p∈X.pn++pins,p.1≠b):Inv X pins σ H' s':=by
 obtain ⟨h',g',d',t',o'⟩:=s';have e:o'=s.os:=ho;subst e;exact I.call (g':=g') (t':=t') (d':=d') u hok hg hch
end
noncomputable abbrev XK:=Δ->Option Ω->Hp->Prop
noncomputable abbrev St:=List (Option V)
noncomputable abbrev VK:=V->Hp->Prop
noncomputable abbrev TE:=St->Hp->VK->Prop
noncomputable abbrev TT:=St->Hp->(Bool->Hp->Prop)->Prop
noncomputable abbrev TA:=St->Hp->(List V->Hp->Prop)->Prop
structure dn where
 nx:St->Hp->Prop
 rt:VK
 bk:St->Hp->Prop:=fun _ _=>False
 ct:St->Hp->Prop:=fun _ _=>False
noncomputable abbrev TS:=dn->St->Hp->Prop
def EP (X:Cx) (pins:List (Ω×HC)) (σ:St) (Q:VK) (u:Δ) (s':A2):Prop:=∃ v H',Inv X pins σ H' s'/\aU v u/\Q v H'
def TP (X:Cx) (pins:List (Ω×HC)) (σ:St) (Q:Bool->Hp->Prop) (b:Bool) (s':A2):Prop:=∃ H',Inv X pins σ H' s'/\Q b H'
def AP (X:Cx) (pins:List (Ω×HC)) (σ:St) (Q:List V->Hp->Prop) (us:List Δ) (s':A2):Prop:=∃ vs H',Inv X pins σ H' s'/\Vals vs us/\Q vs H'
def SP (X:Cx) (pins:List (Ω×HC)) (D:dn) (f:Flow) (s':A2):Prop :=
 match f with
 | .next=>∃ σ' H',Inv X pins σ' H' s'/\D.nx σ' H'
 | .brk=>∃ σ' H',Inv X pins σ' H' s'/\D.bk σ' H'
 | .cont=>∃ σ' H',Inv X pins σ' H' s'/\D.ct σ' H'
 | .ret u=>∃ v σ' H',Inv X pins σ' H' s'/\aU v u/\D.rt v H'
def PE (X:Cx) (e:Fo) (t:TE):Prop :=
 ∀ (pins:List (Ω×HC)) (s:A2) (σ:St) (H:Hp) (Q:VK),Inv X pins σ H s->t σ H Q->EM (EZ X.prog X.w) X.A (Gf e X.env) (EP X pins σ Q) X.xe s
def PT (X:Cx) (e:Fo) (t:TT):Prop :=
 ∀ (pins:List (Ω×HC)) (s:A2) (σ:St) (H:Hp) (Q:Bool->Hp->Prop),Inv X pins σ H s->t σ H Q->EM (EZ X.prog X.w) X.A (isTrue e X.env (Gf e X.env)) (TP X pins σ Q) X.xe s
def PW (X:Cx) (e:Fo) (t:TT):Prop :=
 ∀ (whole:KZ Δ) (pins:List (Ω×HC)) (s:A2) (σ:St) (H:Hp) (Q:Bool->Hp->Prop),Inv X pins σ H s->t σ H Q->EM (EZ X.prog X.w) X.A (isTrue e X.env whole) (TP X pins σ Q) X.xe s
theorem PW.pt {X:Cx} {e:Fo} {t:TT} (h:PW X e t):PT X e t:=h _
def PA (X:Cx) (es:List Fo) (t:TA):Prop :=
 ∀ (pos:Il) (pins:List (Ω×HC)) (s:A2) (σ:St) (H:Hp) (Q:List V->Hp->Prop),Inv X pins σ H s->t σ H Q->EM (EZ X.prog X.w) X.A (spliced (HB pos (Ew es X.env))) (AP X pins σ Q) X.xe s
def PS (X:Cx) (st:Jd) (t:TS):Prop :=
 ∀ (pins:List (Ω×HC)) (s:A2) (σ:St) (H:Hp) (D:dn),Inv X pins σ H s->t D σ H->EM (EZ X.prog X.w) X.A (exec st X.env) (SP X pins D) X.xe s
def PSs (X:Cx) (st:List Jd) (t:TS):Prop :=
 ∀ (pins:List (Ω×HC)) (s:A2) (σ:St) (H:Hp) (D:dn),Inv X pins σ H s->t D σ H->EM (EZ X.prog X.w) X.A (execs st X.env) (SP X pins D) X.xe s
theorem thn {α:Type} {t:KZ α} {Q Q':α->A2->Prop} {M:JS} {A:E5} {E:Δ->A2->Prop} {s:A2} (h:EM M A t Q E s) (hQ:∀ a s,Q a s->Q' a s):EM M A t Q' E s:=GO h hQ fun _ _ x=>x
section
variable {X:Cx}
def Df (i:Nat):TE:=fun σ H Q=>∃ v,σ[i]?=some (some v)/\Q v H
def tC (v:V):TE:=fun _ H Q=>Q v H
theorem Cy {i:Nat} {x:Str} {pos:Il} (hN:X.N[i]?=some x) (hv:Vis X.env.scope x) (hd:(x==("__debug__":Str))=false:=by decide) (hcd:(x==("__classdict__":Str))=false:=by decide):PE X (.Name x pos) (Df i):=by
 intro pins s σ H Q I h;obtain ⟨v,e,h⟩:=h;obtain ⟨m,hn,hl⟩:=I.loc;obtain ⟨u,r,l⟩:=hl i x v hN e hv;have fin:EP X pins σ Q u s:=⟨v,H,I,r,h⟩
 rcases l with ⟨hk,hm⟩ | ⟨hk,c,hc,hcell⟩
 ·exact wpAny_Name (wpAny_loadName_local I.ok.kind hk hn hm fin) hd
 ·rcases hk with hk | hk
  ·exact wpAny_Name (wpAny_loadName_cell I.ok.kind hk hc hcell fin) hd
  ·exact wpAny_Name (wpAny_loadName_free I.ok.kind hk hc hcell fin hcd) hd
theorem ag {i j pos}:PE X (.Constant (.int i) j pos) (tC (.int i)):=fun _ _ _ H _ I h=>wpAny_Constant_int ⟨.int i,H,I.tok _,⟨_,rfl⟩,h⟩
theorem fe {b j pos}:PE X (.Constant (.bool b) j pos) (tC (.bl b)):=fun _ _ _ H _ I h=>Constant_bool ⟨.bl b,H,I,rfl,h⟩
theorem i7 {j pos}:PE X (.Constant .none j pos) (tC .non):=fun _ _ _ H _ I h=>Constant_none ⟨.non,H,I,rfl,h⟩
theorem cx {x j pos}:PE X (.Constant (.str x) j pos) (tC (.str x)):=fun _ _ _ H _ I h=>Calls.Constant_str ⟨.str x,H,I.tok _,⟨_,rfl⟩,h⟩
def Gl (X:Cx) (x:Str):Prop:=X.env.kindOf x=some .globalImplicit
theorem iG {E:Δ->A2->Prop} {pins:List (Ω×HC)} {s:A2} {σ:St} {H:Hp} {x:Str} {u:Δ} {pos:Il} {Q:Δ->A2->Prop} (I:Inv X pins σ H s) (hg:Gl X x) (hm:X.mg x=some u) (h:Q u s)
  (hd:(x==("__debug__":Str))=false:=by decide):EM (EZ X.prog X.w) X.A (Gf (.Name x pos) X.env) Q E s :=
 LM I.ok.kind hg (Calls.loadGlobal_global (by rw [I.ok.glob]; exact I.mod.glob.keeps I.bk) hm h) hd
theorem eR {E:Δ->A2->Prop} {pins:List (Ω×HC)} {s:A2} {σ:St} {H:Hp} {x:Str} {u:Δ} {pos:Il} {Q:Δ->A2->Prop} (I:Inv X pins σ H s) (hg:Gl X x) (hm:X.mg x=none) (hv:Fi x=some u) (h:Q u s)
  (hn:x≠"__name__":=by decide) (hd:(x==("__debug__":Str))=false:=by decide):EM (EZ X.prog X.w) X.A (Gf (.Name x pos) X.env) Q E s:=by
 obtain ⟨mb,h1,h2⟩:=I.mod.blt;exact LM I.ok.kind hg (Calls.loadGlobal_builtin (by rw [I.ok.glob]; exact I.mod.glob.keeps I.bk) hm (by rw [I.ok.blt]; exact h1.keeps I.bk) ((h2 x hn).trans hv) h) hd
theorem tY {x:Str} {v:V} {u:Δ} {pos:Il} (hg:Gl X x) (hm:X.mg x=some u) (r:aU v u) (hd:(x==("__debug__":Str))=false:=by decide):PE X (.Name x pos) (tC v) :=
 fun _ _ _ H _ I h=>iG I hg hm ⟨v,H,I,r,h⟩ hd
theorem b8 {x:Str} {v:V} {u:Δ} {pos:Il} (hg:Gl X x) (hm:X.mg x=none) (hv:Fi x=some u) (r:aU v u) (hn:x≠"__name__":=by decide) (hd:(x==("__debug__":Str))=false:=by decide):PE X (.Name x pos) (tC v) :=
 fun _ _ _ H _ I h=>eR I hg hm hv ⟨v,H,I,r,h⟩ hn hd
variable {a b:Fo} {ta tb:TE} {pos:Il}
def PC (X:Cx) (op:MN) (a b:Fo) (t:TE):Prop :=
 ∀ (pins:List (Ω×HC)) (s:A2) (σ:St) (H:Hp) (Q:VK),Inv X pins σ H s->t σ H Q ->
  EM (EZ X.prog X.w) X.A (Gf a X.env) (fun v s₁=>EM (EZ X.prog X.w) X.A (Gf b X.env) (fun u s₂=>EM (EZ X.prog X.w) X.A (GQ op v u) (EP X pins σ Q) X.xe s₂) X.xe s₁) X.xe s
def tB (t:TE):TT:=fun σ H Q=>t σ H fun x H1=>∃ c,x=.bl c/\Q c H1
theorem yd {op:MN} {t:TE} (h:PC X op a b t) (h1:IG op b=false:=by first | exact nobehind _ (by decide) (by decide) | rfl):PT X (.Compare a [op] [b] pos) (tB t):=by
 intro pins s σ H Q I hw;refine wpAny_isTrue_Compare1 (thn (h pins s σ H _ I hw) fun v s1 h1=>thn h1 fun u s2 h2=>thn h2 fun c s3 ⟨x,H1,I1,r1,q1⟩=>?_) h1;obtain ⟨d,rfl,q⟩:=q1
 cases r1;exact GA ⟨H1,I1,q⟩
theorem bF {e:Fo} {t:TE} (h:PE X e t) (he:∀ whole,isTrue e X.env whole=(do let v <- whole; standAt e.pos; Lz [v] (truthy v)):=by intro _; rfl):PT X e (tB t):=by
 intro pins s σ H Q I hw;refine isTrue_plain (thn (h pins s σ H _ I hw) fun v s1 ⟨x,H1,I1,r1,q1⟩=>?_) (he _);obtain ⟨d,rfl,q⟩:=q1
 cases r1;exact GA ⟨H1,I1,q⟩
variable {tA tB':TT} {dO:List Fo}
def DQ (t u:TT):TT:=fun σ H Q=>t σ H fun c H1=>if c=true then u σ H1 Q else Q false H1
def tOr (t u:TT):TT:=fun σ H Q=>t σ H fun c H1=>if c=true then Q true H1 else u σ H1 Q
def DX (t:TT):TT:=fun σ H Q=>t σ H fun c H1=>Q (!c) H1
theorem eD (ha:PT X a tA):PW X (.BoolOp .And [a] pos) tA:=by
 intro wh pins s σ H Q I h;refine isTrue_and (thn (ha pins s σ H Q I h) fun c s1 e=>?_)
 cases c with
 | true=>exact isTrue_and_nil e
 | false=>exact e
theorem nR (ha:PT X a tA):PW X (.BoolOp .Or [a] pos) tA:=by
 intro wh pins s σ H Q I h;refine isTrue_or (thn (ha pins s σ H Q I h) fun c s1 e=>?_)
 cases c with
 | false=>exact isTrue_or_nil e
 | true=>exact e
theorem fV (ha:PT X a tA) (hb:PW X (.BoolOp .And (b::dO) pos) tB'):PW X (.BoolOp .And (a::b::dO) pos) (DQ tA tB'):=by
 intro wh pins s σ H Q I h;refine isTrue_and (thn (ha pins s σ H _ I h) fun c s1 ⟨H1,I1,q1⟩=>?_)
 cases c with
 | true=>exact hb wh pins s1 σ H1 Q I1 q1
 | false=>exact ⟨H1,I1,q1⟩
theorem ua (ha:PT X a tA) (hb:PW X (.BoolOp .Or (b::dO) pos) tB'):PW X (.BoolOp .Or (a::b::dO) pos) (tOr tA tB'):=by
 intro wh pins s σ H Q I h;refine isTrue_or (thn (ha pins s σ H _ I h) fun c s1 ⟨H1,I1,q1⟩=>?_)
 cases c with
 | true=>exact ⟨H1,I1,q1⟩
 | false=>exact hb wh pins s1 σ H1 Q I1 q1
theorem cO (ha:PT X a tA):PT X (.UnaryOp .Not a pos) (DX tA):=by
 intro pins s σ H Q I h;exact isTrue_not (ha pins s σ H (fun c H1=>Q (!c) H1) I h)
def BI (ta tb:TE):TE:=fun σ H Q=>ta σ H fun x H1=>∃ c,x=.bl c/\if c=true then tb σ H1 Q else Q (.bl false) H1
def BO (ta:TE):TE:=fun σ H Q=>ta σ H fun x H1=>∃ c,x=.bl c/\Q (.bl (!c)) H1
theorem km {op} {t:TE} (h:PE X a t):PE X (.BoolOp op [a] pos) t:=fun pins s σ H Q I hw=>BoolOp_one (h pins s σ H Q I hw)
theorem ki (ha:PE X a ta) (hb:PE X (.BoolOp .And (b::dO) pos) tb):PE X (.BoolOp .And (a::b::dO) pos) (BI ta tb):=by
 intro pins s σ H Q I h;refine BoolOp_and (thn (ha pins s σ H _ I h) fun v s1 ⟨x,H1,I1,r1,q1⟩=>?_);obtain ⟨c,rfl,q1⟩:=q1
 cases r1;refine GA ?_
 cases c with
 | true=>exact hb pins s1 σ H1 Q I1 q1
 | false=>exact ⟨.bl false,H1,I1,rfl,q1⟩
theorem Cw (ha:PE X a ta):PE X (.UnaryOp .Not a pos) (BO ta):=by
 intro pins s σ H Q I h;refine UnaryOp_ (thn (ha pins s σ H _ I h) fun v s1 ⟨x,H1,I1,r1,q1⟩=>?_);obtain ⟨c,rfl,q1⟩:=q1
 cases r1;exact not_of (GA ⟨.bl (!c),H1,I1,rfl,q1⟩)
def tIf (t:TT) (ta tb:TE):TE:=fun σ H Q=>t σ H fun c H1=>if c=true then ta σ H1 Q else tb σ H1 Q
theorem qk {c:Fo} (hc:PT X c tA) (ha:PE X a ta) (hb:PE X b tb):PE X (.IfExp c a b pos) (tIf tA ta tb):=by
 intro pins s σ H Q I h;refine wpAny_IfExp (thn (hc pins s σ H _ I h) fun d s1 ⟨H1,I1,q1⟩=>?_)
 cases d with
 | true=>exact ha pins s1 σ H1 Q I1 q1
 | false=>exact hb pins s1 σ H1 Q I1 q1
end
def SqL (K:W.Frag) (H:Hp) (a:Ω) (xs:List V):Prop :=
 Rd H a (.lst xs) \/
  ∃ (o:HC) (its:Array Δ) (n:Nat),K.lookup a=some o/\o.cls=.type "list"/\o.dict=none/\o.data=.seq its n/\its.size<=EF/\Vals xs its.toList
def SqT (K:W.Frag) (H:Hp) (a:Ω) (xs:List V):Prop :=
 Rd H a (.tup xs) \/
  ∃ (o:HC) (its:Array Δ) (n:Nat),K.lookup a=some o/\o.cls=.type "tuple"/\o.data=.seq its n/\its.size<=EF/\Vals xs its.toList
noncomputable def D8:Δ->Option V
 | .none=>some .non
 | .bool b=>some (.bl b)
 | .int i _=>some (.int i)
 | .str x _=>some (.str x)
 | .bytes b _=>some (.byt b)
 | .float b _=>some (.flt b)
 | .ref a=>some (.ref a)
 | .type n=>some (.ty n)
 | _=>none
theorem aU.abs {x:V} {u:Δ} (r:aU x u):D8 u=some x:=by
 cases x with
 | non=>cases r; rfl
 | bl _=>cases r; rfl
 | int _=>obtain ⟨t,rfl⟩:=r; rfl
 | str _=>obtain ⟨t,rfl⟩:=r; rfl
 | byt _=>obtain ⟨t,rfl⟩:=r; rfl
 | flt _=>obtain ⟨t,rfl⟩:=r; rfl
 | ref _=>cases r; rfl
 | ty _=>cases r; rfl
theorem aU.inj {x y:V} {u:Δ} (r:aU x u) (q:aU y u):x=y:=Ez (r.abs.symm.trans q.abs)
theorem Vals.inj:∀ {xs ys:List V} {us:List Δ},Vals xs us->Vals ys us->xs=ys
 | _,_,_,.nil,.nil=>rfl
 | _,_,_,.cons r t,.cons r' t'=>by rw [r.inj r',Vals.inj t t']
section
variable {X:Cx} {pins:List (Ω×HC)} {σ:St} {H:Hp} {s:A2} {a:Ω} {xs ys:List V}
theorem SqL.of {K:W.Frag} (h:H a=some (.lst xs)):SqL K H a xs:=.inl (.inl h)
theorem SqT.of {K:W.Frag} (h:H a=some (.tup xs)):SqT K H a xs:=.inl (.inl h)
theorem Inv.list (I:Inv X pins σ H s) (h:SqL X.K H a xs):∃ its:List Δ,Vals xs its/\PlainL s.heap a its.toArray/\xs.length<=sizeLine:=by
 rcases h with h | ⟨o,its,n,hk,hc,hd,hs,hz,r⟩
 ·obtain ⟨z,its,n,r,e⟩:=h.ok I.hok;exact ⟨its,r,⟨_,n,e,rfl,rfl,rfl⟩,z⟩
 ·refine ⟨its.toList,r,⟨o,n,I.kIn a o hk,hc,hd,by simpa using hs⟩,?_⟩;have e:=r.length;simp only [Eo] at e;omega
theorem Inv.tuple (I:Inv X pins σ H s) (h:SqT X.K H a xs):∃ its:List Δ,Vals xs its/\IsTup s.heap a its.toArray/\xs.length<=sizeLine:=by
 rcases h with h | ⟨o,its,n,hk,hc,hs,hz,r⟩
 ·obtain ⟨z,its,r,p⟩:=h.ok I.hok;exact ⟨its,r,p,z⟩
 ·refine ⟨its.toList,r,⟨o,I.kIn a o hk,hc,n,by simpa using hs⟩,?_⟩;have e:=r.length;simp only [Eo] at e;omega
theorem Inv.list_inj (I:Inv X pins σ H s) (h:SqL X.K H a xs) (h':SqL X.K H a ys):xs=ys:=by
 obtain ⟨its,r,⟨o,n,e,_,_,d⟩,_⟩:=I.list h;obtain ⟨its',r',⟨o',n',e',_,_,d'⟩,_⟩:=I.list h';rw [e] at e'; cases e';rw [d] at d';injection d' with d1 _;have:its=its':=by simpa using congrArg Array.toList d1
 subst this;exact r.inj r'
theorem Inv.tuple_inj (I:Inv X pins σ H s) (h:SqT X.K H a xs) (h':SqT X.K H a ys):xs=ys:=by
 obtain ⟨its,r,⟨o,e,_,n,d⟩,_⟩:=I.tuple h;obtain ⟨its',r',⟨o',e',_,n',d'⟩,_⟩:=I.tuple h';rw [e] at e'; cases e';rw [d] at d';injection d' with d1 _;have:its=its':=by simpa using congrArg Array.toList d1
 subst this;exact r.inj r'
end
noncomputable abbrev Cx.wish (X:Cx) (E:Δ->A2->Prop):Cx:={ X with xe:=E }
noncomputable abbrev Cx.nox (X:Cx):Cx:=X.wish fun _ _=>False
theorem Cx.Ok.wish {X:Cx} (ok:X.Ok) (E:Δ->A2->Prop):(X.wish E).Ok :=
 ⟨ok.mod,ok.kind,ok.glob,ok.blt,ok.above,ok.inj,ok.has,ok.cab,ok.hd,ok.frames,ok.stk,ok.exf,ok.bs,ok.bsz,ok.noex,ok.exfs,ok.funs,ok.frf⟩
theorem Cx.Ok.unwish {X:Cx} {E:Δ->A2->Prop} (ok:(X.wish E).Ok):X.Ok :=
 ⟨ok.mod,ok.kind,ok.glob,ok.blt,ok.above,ok.inj,ok.has,ok.cab,ok.hd,ok.frames,ok.stk,ok.exf,ok.bs,ok.bsz,ok.noex,ok.exfs,ok.funs,ok.frf⟩
section
variable {X:Cx} {pins:List (Ω×HC)} {σ:St} {H:Hp} {s:A2} {E:Δ->A2->Prop}
theorem Inv.wish (I:Inv X pins σ H s) (E:Δ->A2->Prop):Inv (X.wish E) pins σ H s:=⟨I.ok.wish E,I.os,I.bare,I.base,I.loc,I.cell,I.free,I.freeC,I.pin,I.hok,I.len⟩
theorem Inv.unwish (I:Inv (X.wish E) pins σ H s):Inv X pins σ H s:=⟨I.ok.unwish,I.os,I.bare,I.base,I.loc,I.cell,I.free,I.freeC,I.pin,I.hok,I.len⟩
theorem SP.unwish {D:dn} {f:Flow} {s':A2} (h:SP (X.wish E) pins D f s'):SP X pins D f s':=by
 cases f with
 | next=>obtain ⟨σ',H',I,q⟩:=h; exact ⟨σ',H',I.unwish,q⟩
 | brk=>obtain ⟨σ',H',I,q⟩:=h; exact ⟨σ',H',I.unwish,q⟩
 | cont=>obtain ⟨σ',H',I,q⟩:=h; exact ⟨σ',H',I.unwish,q⟩
 | ret u=>obtain ⟨v,σ',H',I,r,q⟩:=h; exact ⟨v,σ',H',I.unwish,r,q⟩
theorem PSs.nox {st:List Jd} {t:TS} (h:PSs X.nox st t):PSs X st t:=fun pins s σ H D I hw =>
 GO (h pins s σ H D (I.wish _) hw) (fun _ _ q=>q.unwish) fun _ _ z=>GJ z
end
section
variable {X:Cx} {st:Jd} {dO:List Jd} {t u:TS} {e:Fo} {te:TE} {pos:Il}
def BN:TS:=fun D σ H=>D.nx σ H
def De (t u:TS):TS:=fun D σ H=>t { D with nx:=u D } σ H
theorem aD:PSs X [] BN:=fun _ _ σ H _ I h=>KG ⟨σ,H,I,h⟩
theorem aL (h1:PS X st t) (h2:PSs X dO u):PSs X (st::dO) (De t u):=by
 intro pins s σ H D I h;refine wpAny_execs_cons (thn (h1 pins s σ H { D with nx:=u D } I h) fun f s1 q=>?_)
 cases f with
 | next =>
  obtain ⟨σ',H',I',q⟩:=q;exact h2 pins s1 σ' H' D I' q
 | ret v=>exact q
 | brk=>exact q
 | cont=>exact q
theorem ai (h1:PS X st t):PSs X [st] t:=by
 intro pins s σ H D I h;refine wpAny_execs_cons (thn (h1 pins s σ H D I h) fun f s1 q=>?_)
 cases f with
 | next=>exact KG q
 | ret v=>exact q
 | brk=>exact q
 | cont=>exact q
def C9:TS:=fun D σ H=>D.bk σ H
theorem x9:PS X (.Break pos) C9:=fun _ _ σ H _ I h=>wpAny_Break ⟨σ,H,I,h⟩
theorem Inv.quiet {pins:List (Ω×HC)} {σ:St} {H:Hp} {s:A2} (I:Inv X pins σ H s):interactive X.env=false:=by simp [interactive,I.ok.kind]
def BK (te:TE):TS:=fun D σ H=>te σ H fun _ H1=>D.nx σ H1
theorem bC (he:PE X e te) (hs:Kg e none pos.line X.env=pure false:=by rfl):PS X (.Expr e pos) (BK te):=by
 intro pins s σ H D I h;exact wpAny_Expr_any (thn (he pins s σ H _ I h) fun v s1 ⟨x,H1,I1,r1,q1⟩=>⟨σ,H1,I1,q1⟩) I.quiet hs
def DY (te:TE):TS:=fun D σ H=>te σ H D.rt
theorem aC (he:PE X e te):PS X (.Return (some e) pos) (DY te):=by
 intro pins s σ H D I h;exact wpAny_Return_some (thn (he pins s σ H _ I h) fun v s1 ⟨x,H1,I1,r1,q1⟩=>⟨x,σ,H1,I1,r1,q1⟩)
def DV (c:TT) (t u:TS):TS:=fun D σ H=>c σ H fun b H1=>if b=true then t D σ H1 else u D σ H1
theorem aY {c:Fo} {a b:List Jd} {tc:TT} (hc:PT X c tc) (ha:PSs X a t) (hb:PSs X b u):PS X (.If c a b pos) (DV tc t u):=by
 intro pins s σ H D I h;refine wpAny_If (thn (hc pins s σ H _ I h) fun d s1 ⟨H1,I1,q1⟩=>?_)
 cases d with
 | true=>exact ha pins s1 σ H1 D I1 q1
 | false=>exact hb pins s1 σ H1 D I1 q1
end
noncomputable abbrev TG:=V->St->Hp->(St->Hp->Prop)->Prop
noncomputable abbrev TGs:=List V->St->Hp->(St->Hp->Prop)->Prop
def PG (X:Cx) (target:Fo) (t:TG):Prop :=
 ∀ (pins:List (Ω×HC)) (s:A2) (σ:St) (H:Hp) (v:V) (u:Δ) (Q:St->Hp->Prop),Inv X pins σ H s->aU v u->t v σ H Q ->
  EM (EZ X.prog X.w) X.A (assign target X.env u) (fun _ s'=>∃ σ' H',Inv X pins σ' H' s'/\Q σ' H') X.xe s
def PGs (X:Cx) (ts:List Fo) (t:TGs):Prop :=
 ∀ (pins:List (Ω×HC)) (s:A2) (σ:St) (H:Hp) (vs:List V) (us:List Δ) (Q:St->Hp->Prop),Inv X pins σ H s->Vals vs us->t vs σ H Q ->
  EM (EZ X.prog X.w) X.A (assignInOrder ((JQ ts X.env).map (·.2)) us) (fun _ s'=>∃ σ' H',Inv X pins σ' H' s'/\Q σ' H') X.xe s
noncomputable abbrev D7:=V->V->V->Hp->(Hp->Prop)->Prop
section
variable {X:Cx} {pos:Il}
def cT (i:Nat):TG:=fun v σ H Q=>Q (σ.set i (some v)) H
theorem aG {i:Nat} {x:Str} (hN:X.N.Nodup) (hi:X.N[i]?=some x) (hx:Loc X.env.scope x) (hf:X.fn x=true\/X.env.scope.names.lookup x=some .local:=by first | exact .inl rfl | exact .inr rfl | assumption):PG X (.Name x pos) (cT i):=by
 intro pins s σ H v u Q I r h;exact wpAny_assign_Name (lh I hN hi hx r (fun s' I'=>⟨_,H,I',h⟩) hf)
def uP:TGs:=fun vs σ H Q=>vs=[]/\Q σ H
def gR (t:TG) (u:TGs):TGs:=fun vs σ H Q=>∃ v r,vs=v::r/\t v σ H fun σ' H'=>u r σ' H' Q
theorem eC:PGs X [] uP:=by
 intro pins s σ H vs us Q I r h;obtain ⟨e,h⟩:=h;subst e
 cases r;exact assignInOrder_nil ⟨σ,H,I,h⟩
theorem bA {e:Fo} {es:List Fo} {t:TG} {u:TGs} (h1:PG X e t) (h2:PGs X es u)
  (hs:(JQ (e::es) X.env).map (·.2)=assign e X.env::(JQ es X.env).map (·.2):=by rfl):PGs X (e::es) (gR t u):=by
 intro pins s σ H vs us Q I r h;obtain ⟨v,vr,e1,h⟩:=h;subst e1
 cases r with
 | cons r rr =>
  rw [hs];refine assignInOrder_cons (thn (h1 pins s σ H _ _ _ I r h) fun _ s1 ⟨σ1,H1,I1,q1⟩=>?_);exact h2 pins s1 σ1 H1 _ _ Q I1 rr q1
def rA (K:W.Frag) (n:Nat) (t:TGs):TG:=fun v σ H Q=>∃ a xs,v=.ref a/\SqT K H a xs/\xs.length=n/\t xs σ H Q
theorem Cz {es:List Fo} {k:Nat} {t:TGs} {n:Nat} (hc:X.calm=true) (h:PGs X es t)
  (hn:(JQ es X.env).length=n:=by rfl) (hst:(JQ es X.env).findIdx? (·.1)=none:=by rfl):PG X (.Tuple es k pos) (rA X.K n t):=by
 intro pins s σ H v u Q I r hw;obtain ⟨a,xs,e1,hq,hl,hw⟩:=hw;subst e1
 cases r;obtain ⟨its,rv,ht,hz⟩:=I.tuple hq;refine assign_Tuple_tuple (I.ok.hd hc) ht (by simp [hn,<- hl,rv.length]) hst fun h' hx=>?_;have I1:Inv X pins σ H { s with heap:=h' }:=I.kept (t':=s.toks) fun b o e=>hx b o (EH (EC e)) e;exact h pins _ σ H xs _ Q I1 (by simpa using rv) hw
def Bf (te:TE) (g:TG):TS:=fun D σ H=>te σ H fun x H1=>g x σ H1 D.nx
theorem fG {i:Nat} {x:Str} {e:Fo} {te:TE} {pos':Il} (hN:X.N.Nodup) (hi:X.N[i]?=some x) (hx:Loc X.env.scope x) (he:PE X e te) (hs:Kg e (some (.Name x pos')) pos.line X.env=pure false:=by rfl) (hf:X.fn x=true\/X.env.scope.names.lookup x=some .local:=by first | exact .inl rfl | exact .inr rfl | assumption) :
  PS X (.Assign [.Name x pos'] e pos) (Bf te (cT i)):=by
 intro pins s σ H D I h;refine wpAny_Assign_Name (thn (he pins s σ H _ I h) fun v s1 ⟨y,H1,I1,r1,q1⟩=>?_) hs;exact lh I1 hN hi hx r1 (fun s2 I2=>⟨_,H1,I2,q1⟩) hf
def zp (c:TT) (tb:TS):TS:=fun D σ H=>∃ W:Nat->St->Hp->Prop,(∃ m,W m σ H)/\∀ m σ H,W m σ H ->
 c σ H fun b H1=>if b=true then ∃ N:St->Hp->Prop,(∀ σ' H',N σ' H'->∃ m',m'<m/\W m' σ' H')/\tb { D with nx:=N,ct:=N,bk:=D.nx } σ H1 else D.nx σ H1
theorem fU {c:Fo} {body:List Jd} {tc:TT} {tb:TS} (hp:PassesOwn (EZ X.prog X.w) X.A X.env X.xe) (hc:PT X c tc) (hb:PSs X body tb):PS X (.While c body [] pos) (zp tc tb):=by
 intro pins s σ H D I h;obtain ⟨W,⟨m0,w0⟩,turn⟩:=h;refine wpAny_While (codeAny_whileLoop (fun n s'=>∃ σ' H',Inv X pins σ' H' s'/\W n σ' H') ?_ m0 ⟨σ,H,I,w0⟩);rintro n s1 ⟨σ1,H1,I1,w1⟩;refine Hu hp (thn (hc pins s1 σ1 H1 _ I1 (turn n σ1 H1 w1)) fun b s2 ⟨H2,I2,q2⟩=>?_)
 cases b with
 | true =>
  obtain ⟨N,hN,q2⟩:=q2;rw [if_pos rfl];refine Hu hp (thn (hb pins s2 σ1 H2 _ I2 q2) fun f s3 q3=>?_)
  cases f with
  | next =>
   obtain ⟨σ3,H3,I3,n3⟩:=q3;obtain ⟨m',hm,w3⟩:=hN σ3 H3 n3;exact ⟨m',hm,σ3,H3,I3,w3⟩
  | cont =>
   obtain ⟨σ3,H3,I3,n3⟩:=q3;obtain ⟨m',hm,w3⟩:=hN σ3 H3 n3;exact ⟨m',hm,σ3,H3,I3,w3⟩
  | brk => exact q3
  | ret v => exact q3
 | false =>
  rw [if_neg E4];exact KG ⟨σ1,H2,I2,q2⟩
end
structure It where
 go:Nat->Hp->Prop
 yld:Nat->Hp->V->Hp->Prop
 stop:Nat->Hp->Prop
def gJ (X:Cx) (pins:List (Ω×HC)) (H:Hp) (b:Ω):Prop :=
 H b=none/\b≠X.env.locals/\b∉X.fs/\(b∈X.ex\/X.s₀.heap.objs.size<=b)/\(∀ x c,X.env.cells.lookup x=some c->c≠b)/\∀ p∈X.pn++pins,p.1≠b
theorem Inv.fpOk {X:Cx} {pins:List (Ω×HC)} {σ:St} {H H':Hp} {s:A2} {b:Ω} (I:Inv X pins σ H s) (hb:s.heap.objs.size<=b) (hn:H' b=none):gJ X pins H' b:=by
 refine ⟨hn,Jw (EU I.lt hb),I.nofs hb,.inr (FA I.sz hb),fun x c e z=>?_,fun p hp z=>?_⟩
 ·obtain ⟨v,q⟩:=I.cell x c e;exact absurd (EU q.lt (by rw [z]; exact hb)) (Gj _)
 ·exact absurd (EU (EC (I.pin p hp).1) (by rw [z]; exact hb)) (Gj _)
structure oY (P:ER) (w:E2) (K:W.Frag) (tg:Fo) (J:It) (fp:List Ω) (it:Ω) (tn:Nat->FD->Prop):Prop where
 mem:it∈fp
 obj:∀ i h,tn i h->∀ b∈fp,∃ o,h.get? b=some o/\∀ v,o.data≠.cell v
 keep:∀ i h h',tn i h->(∀ b∈fp,∀ o,h.get? b=some o->h'.get? b=some o)->tn i h'
 item:∀ (X:Cx),X.prog=P->X.w=w->X.K=K->X.calm=true->∀ (i:Nat) (pins:List (Ω×HC)) (s:A2) (σ:St) (H:Hp) (E:Δ->A2->Prop),Inv X pins σ H s->(∀ b∈fp,gJ X pins H b)->tn i s.heap->J.go i H ->
  EM (EZ P w) X.A (KW (.ref it)) (fun r s1=>∃ u,r=some u /\
   EM (EZ P w) X.A (KH tg (.ref it) u) (fun _ s2=>∃ x H',Inv X pins σ H' s2/\aU x u/\J.yld i H x H'/\tn (i+1) s2.heap/\∀ b∈fp,H' b=none) E s1) E s
 done:∀ (X:Cx),X.prog=P->X.w=w->X.K=K->X.calm=true->∀ (i:Nat) (pins:List (Ω×HC)) (s:A2) (σ:St) (H:Hp) (E:Δ->A2->Prop),Inv X pins σ H s->(∀ b∈fp,gJ X pins H b)->tn i s.heap->J.stop i H ->
  EM (EZ P w) X.A (KW (.ref it)) (fun r s1=>r=none/\Inv X pins σ H s1) E s
 self:∀ (A:E5) (i:Nat) (s:A2) (Q:Δ->A2->Prop) (E:Δ->A2->Prop),tn i s.heap->Q (.ref it) s->EM (EZ P w) A (pyIter (.ref it)) Q E s
noncomputable abbrev TI:=St->Hp->(It->Hp->Prop)->Prop
def PIE (X:Cx) (pins:List (Ω×HC)) (σ:St) (tg:Fo) (R:It->Hp->Prop) (itv:Δ) (s2:A2):Prop :=
 ∃ (it:Ω) (fp:List Ω) (tn:Nat->FD->Prop) (J:It) (H':Hp),itv=.ref it/\Inv X pins σ H' s2/\oY X.prog X.w X.K tg J fp it tn/\tn 0 s2.heap/\(∀ b∈fp,gJ X pins H' b)/\R J H'
def PI (X:Cx) (tg iter:Fo) (wi:TI):Prop :=
 ∀ (pins:List (Ω×HC)) (s:A2) (σ:St) (H:Hp) (R:It->Hp->Prop),Inv X pins σ H s->wi σ H R ->
  EM (EZ X.prog X.w) X.A (Gf iter X.env) (fun v s1=>EM (EZ X.prog X.w) X.A (pyIter v) (PIE X pins σ tg R) X.xe s1) X.xe s
theorem tI {M:JS} {A:E5} {E:Δ->A2->Prop} {s:A2} {tg:Fo} {it:Ω} {u:Δ} {o:HC} {n:String} {vs:Array Δ} {Q:Unit->A2->Prop} (ho:s.heap.get? it=some o) (hc:o.cls=.type n) (hd:o.data=.fields vs)
    (hn:["enumerate","zip","dict_itemiterator","dict_reverseitemiterator","odict_iterator","itertools.zip_longest","itertools.pairwise"].contains n=false) (hQ:Q () s):EM M A (KH tg (.ref it) u) Q E s:=by
  unfold KH
  cases tg<;>first
    | exact B_ hQ
    | (cases u<;>first
        | exact B_ hQ
        | (refine ξ (wpAny_load ho ?_)
           rw [hc,hd]
           show EM M A (if (["enumerate","zip","dict_itemiterator","dict_reverseitemiterator","odict_iterator","itertools.zip_longest","itertools.pairwise"].contains n&&vs[0]?==some (Lc _))=true then _ else _) Q E s
           rw [if_neg (by intro h; rw [hn,LX] at h; cases h)];exact B_ hQ))
noncomputable def Itl (K:W.Frag) (a:Ω):It :=
 ⟨fun i H=>∃ xs x,SqL K H a xs/\xs[i]?=some x,fun i H x H'=>H'=H/\∀ xs,SqL K H a xs->xs[i]?=some x,fun i H=>∃ xs,SqL K H a xs/\xs.length<=i⟩
noncomputable def Itt (K:W.Frag) (a:Ω):It :=
 ⟨fun i H=>∃ xs x,SqT K H a xs/\xs[i]?=some x,fun i H x H'=>H'=H/\∀ xs,SqT K H a xs->xs[i]?=some x,fun i H=>∃ xs,SqT K H a xs/\xs.length<=i⟩
noncomputable def Itr (lo:Int) (n:Nat):It:=⟨fun i _=>i<n,fun i H x H'=>H'=H/\x=.int (lo+i),fun i _=>n<=i⟩
theorem wg {P:ER} {w:E2} {K:W.Frag} {tg:Fo} (a it:Ω):oY P w K tg (Itl K a) [it] it (fun i h=>h.IsListIter it a i) where
 mem:=by simp
 obj:=fun i h st b hb=>by
  have e:b=it:=by simpa using hb
  subst e;obtain ⟨o,e,c,d⟩:=st;exact ⟨o,e,fun v z=>by rw [d] at z; cases z⟩
 keep:=fun i h h' st k=>st.at fun o e=>k it (by simp) o e
 item:=by
  intro X hP hw hK hc i pins s σ H E I hf st hg;subst hP hw hK;obtain ⟨xs,x,hq,hx⟩:=hg;obtain ⟨its,rv,p,hz⟩:=I.list hq;obtain ⟨u,hu,ru⟩:=rv.get hx;obtain ⟨f0,f1,f2,f3,f4,f5⟩:=hf it (by simp);refine wpAny_pyNext_list_item st p.isList (x:=u) (by simpa using hu) fun h' st' sb=>?_;have I1:Inv X pins σ H { s with heap:=h' }:=I.turned (t':=s.toks) (fun b o hb e=>(sb.2 b hb).trans e) f0 f1 f3 f4 f5;obtain ⟨o,e,c,d⟩:=id st';exact ⟨u,rfl,tI (s:={ s with heap:=h' }) e c d (by decide) ⟨x,H,I1,ru,⟨rfl,fun ys hy=>by rw [I.list_inj hy hq]; exact hx⟩,st',fun b hb=>(hf b hb).1⟩⟩
 done:=by
  intro X hP hw hK hc i pins s σ H E I hf st hg;subst hP hw hK;obtain ⟨xs,hq,hx⟩:=hg;obtain ⟨its,rv,p,hz⟩:=I.list hq;obtain ⟨f0,f1,f2,f3,f4,f5⟩:=hf it (by simp);have hl:=rv.length;exact wpAny_pyNext_list_end (I.ok.hd hc) st p.isList (by simp; omega) fun h' eb=>⟨rfl,I.turned (t':=s.toks) (fun b o hb e=>eb b o hb e) f0 f1 f3 f4 f5⟩
 self:=fun _ _ _ _ _ st h=>wpAny_pyIter_listiter st h
theorem sP {P:ER} {w:E2} {K:W.Frag} {tg:Fo} (a it:Ω):oY P w K tg (Itt K a) [it] it (fun i h=>h.IsTupleIter it a i) where
 mem:=by simp
 obj:=fun i h st b hb=>by
  have e:b=it:=by simpa using hb
  subst e;obtain ⟨o,e,c,d⟩:=st;exact ⟨o,e,fun v z=>by rw [d] at z; cases z⟩
 keep:=fun i h h' st k=>st.at fun o e=>k it (by simp) o e
 item:=by
  intro X hP hw hK hc i pins s σ H E I hf st hg;subst hP hw hK;obtain ⟨xs,x,hq,hx⟩:=hg;obtain ⟨its,rv,p,hz⟩:=I.tuple hq;obtain ⟨u,hu,ru⟩:=rv.get hx;obtain ⟨f0,f1,f2,f3,f4,f5⟩:=hf it (by simp);refine wpAny_pyNext_tuple_item st (show s.heap.IsTuple a its.toArray from p) (x:=u) (by simpa using hu) fun h' st' sb=>?_;have I1:Inv X pins σ H { s with heap:=h' }:=I.turned (t':=s.toks) (fun b o hb e=>(sb.2 b hb).trans e) f0 f1 f3 f4 f5;obtain ⟨o,e,c,d⟩:=id st';exact ⟨u,rfl,tI (s:={ s with heap:=h' }) e c d (by decide) ⟨x,H,I1,ru,⟨rfl,fun ys hy=>by rw [I.tuple_inj hy hq]; exact hx⟩,st',fun b hb=>(hf b hb).1⟩⟩
 done:=by
  intro X hP hw hK hc i pins s σ H E I hf st hg;subst hP hw hK;obtain ⟨xs,hq,hx⟩:=hg;obtain ⟨its,rv,p,hz⟩:=I.tuple hq;obtain ⟨f0,f1,f2,f3,f4,f5⟩:=hf it (by simp);have hl:=rv.length;exact wpAny_pyNext_tuple_end (I.ok.hd hc) st (show s.heap.IsTuple a its.toArray from p) (by simp; omega) fun h' eb=>⟨rfl,I.turned (t':=s.toks) (fun b o hb e=>eb b o hb e) f0 f1 f3 f4 f5⟩
 self:=fun _ _ _ _ _ st h=>wpAny_pyIter_tupleiter st h
theorem sO {P:ER} {w:E2} {K:W.Frag} {tg:Fo} (it:Ω) (lo:Int) (n:Nat):oY P w K tg (Itr lo n) [it] it (fun i h=>Lo h it (lo+(i:Nat)*1) ((n:Int) - (i:Nat)) 1) where
 mem:=by simp
 obj:=fun i h st b hb=>by
  have e:b=it:=by simpa using hb
  subst e;exact ⟨_,st,fun v z=>by
   have z':Data.fields _=Data.cell v:=z
   cases z'⟩
 keep:=fun i h h' st k=>k it (by simp) _ st
 item:=by
  intro X hP hw hK hc i pins s σ H E I hf st hg;subst hP hw hK;obtain ⟨f0,f1,f2,f3,f4,f5⟩:=hf it (by simp);have W:=Walks.range (prog:=X.prog) (w:=X.w) (I.ok.hd hc) it lo 1 n;refine W.item i s _ _ hg st fun v h' tk hv st' kk=>?_;obtain ⟨t,rfl⟩:=hv;have I1:Inv X pins σ H { s with heap:=h',toks:=tk }:=I.turned (fun b o hb e=>kk b o (by simpa using hb) e) f0 f1 f3 f4 f5;refine ⟨_,rfl,tI (s:={ s with heap:=h',toks:=tk }) (n:="range_iterator") st' rfl rfl (by decide) ⟨.int (lo+i),H,I1,⟨t,?_⟩,⟨rfl,rfl⟩,st',fun b hb=>(hf b hb).1⟩⟩;rw [Int.mul_one]
 done:=by
  intro X hP hw hK hc i pins s σ H E I hf st hg;subst hP hw hK;obtain ⟨f0,f1,f2,f3,f4,f5⟩:=hf it (by simp);exact wpAny_pyNext_range_end (I.ok.hd hc) st (by have:n<=i:=hg; omega) fun h' eb=>⟨rfl,I.turned (t':=s.toks) (fun b o hb e=>eb b o hb e) f0 f1 f3 f4 f5⟩
 self:=fun _ _ _ _ _ st h=>wpAny_pyIter_rangeiter st h
section
variable {X:Cx} {tg:Fo}
def xl (K:W.Frag) (tl:TE):TI:=fun σ H R=>tl σ H fun x H1=>∃ a,x=.ref a/\(∃ xs,SqL K H1 a xs)/\R (Itl K a) H1
def Ds (K:W.Frag) (tl:TE):TI:=fun σ H R=>tl σ H fun x H1=>∃ a,x=.ref a/\(∃ xs,SqT K H1 a xs)/\R (Itt K a) H1
theorem bK {l:Fo} {tl:TE} (hl:PE X l tl):PI X tg l (xl X.K tl):=by
 intro pins s σ H R I h;refine thn (hl pins s σ H _ I h) fun v s1 ⟨x,H1,I1,r1,q1⟩=>?_;obtain ⟨a,e,⟨xs,hq⟩,q⟩:=q1;subst e
 cases r1;obtain ⟨its,rv,p,hz⟩:=I1.list hq;refine Jh p.isList ?_;refine ⟨s1.heap.objs.size,[s1.heap.objs.size],_,_,H1,rfl,I1.kept (t':=s1.toks) fun b o e=>χ _ e,wg a _,⟨_,EB _ rfl,rfl,rfl⟩,fun b hb=>?_,q⟩;have e:b=s1.heap.objs.size:=by simpa using hb
 subst e;exact I1.fpOk (A_ _) (I1.hok.fresh (A_ _))
theorem xX {l:Fo} {tl:TE} (hl:PE X l tl):PI X tg l (Ds X.K tl):=by
 intro pins s σ H R I h;refine thn (hl pins s σ H _ I h) fun v s1 ⟨x,H1,I1,r1,q1⟩=>?_;obtain ⟨a,e,⟨xs,hq⟩,q⟩:=q1;subst e
 cases r1;obtain ⟨its,rv,p,hz⟩:=I1.tuple hq;refine JP (show s1.heap.IsTuple a its.toArray from p) ?_;refine ⟨s1.heap.objs.size,[s1.heap.objs.size],_,_,H1,rfl,I1.kept (t':=s1.toks) fun b o e=>χ _ e,sP a _,⟨_,EB _ rfl,rfl,rfl⟩,fun b hb=>?_,q⟩;have e:b=s1.heap.objs.size:=by simpa using hb
 subst e;exact I1.fpOk (A_ _) (I1.hok.fresh (A_ _))
theorem qu {pins:List (Ω×HC)} {σ:St} {H:Hp} {s:A2} {R:It->Hp->Prop} {E:Δ->A2->Prop} {lo hi:Int} {t u v:Tok} {tk:Nat} (I:Inv X pins σ H s) (h1:-(2 ^ 62)<=lo) (h2:lo<2 ^ 62) (h3:-(2 ^ 62)<=hi) (h4:hi<2 ^ 62)
  (q:R (Itr lo (hi - lo).toNat) H):EM (EZ X.prog X.w) X.A (pyIter (.ref s.heap.objs.size)) (PIE X pins σ tg R) E { s with heap:=s.heap.push { cls:=.type "range",data:=.fields #[.int lo t,.int hi u,.int 1 v] },toks:=tk }:=by
 refine wpAny_pyIter_range (IsRange.new ..) (small_one h1 h2 h3 h4) ?_;have I1:Inv X pins σ H { s with heap:=s.heap.push { cls:=.type "range",data:=.fields #[.int lo t,.int hi u,.int 1 v] },toks:=tk }:=I.kept fun b o e=>χ _ e;refine ⟨(s.heap.push { cls:=.type "range",data:=.fields #[.int lo t,.int hi u,.int 1 v] }).objs.size,[(s.heap.push { cls:=.type "range",data:=.fields #[.int lo t,.int hi u,.int 1 v] }).objs.size],_,_,H,rfl,
  I1.kept (t':=tk) fun b o e=>χ _ e,sO _ lo (hi - lo).toNat,?_,fun b hb=>?_,q⟩
 ·have e1:lo+((0:Nat):Int)*1=lo:=by simp
  have e2:(((hi - lo).toNat:Nat):Int) - ((0:Nat):Int)=Hy lo hi 1:=by rw [rangeSize_one]; split<;>omega
  show Lo _ _ (lo+((0:Nat):Int)*1) ((((hi - lo).toNat:Nat):Int) - ((0:Nat):Int)) 1
  rw [e1,e2];exact EB _ rfl
 ·have e:b=(s.heap.push { cls:=.type "range",data:=.fields #[.int lo t,.int hi u,.int 1 v] }).objs.size:=by simpa using hb
  subst e;exact I1.fpOk (A_ _) (I1.hok.fresh (A_ _))
def Br (ta:TA):TI:=fun σ H R=>ta σ H fun vs H1=>∃ j:Int,vs=[.int j]/\-(2 ^ 62)<=j/\j<2 ^ 62/\R (Itr 0 j.toNat) H1
def Bs (ta:TA):TI:=fun σ H R=>ta σ H fun vs H1=>∃ i j:Int,vs=[.int i,.int j]/\(-(2 ^ 62)<=i/\i<2 ^ 62/\-(2 ^ 62)<=j/\j<2 ^ 62)/\R (Itr i (j - i).toNat) H1
theorem cY {a:Fo} {ta:TA} {p pos:Il} (hg:Gl X "range") (hm:X.mg "range"=none) (ha:PA X [a] ta) (hs:Ew [a] X.env=[(false,Gf a X.env)]:=by rfl):PI X tg (.Call (.Name "range" p) [a] [] pos) (Br ta):=by
 intro pins s σ H R I h;refine Call_ (eR I hg hm boot_range (F6 (thn (ha pos pins s σ H _ I h) fun us s1 ⟨vs,H1,I1,r1,q1⟩=>?_) hs rfl));obtain ⟨j,e,q1,q2,q⟩:=q1;subst e
 cases r1 with
 | cons r rr =>
  cases rr;obtain ⟨t,rfl⟩:=r;exact call_range_1 (qu I1 (by omega) (by omega) q1 q2 (by simpa using q))
theorem vx {a b:Fo} {ta:TA} {p pos:Il} (hg:Gl X "range") (hm:X.mg "range"=none) (ha:PA X [a,b] ta) (hs:Ew [a,b] X.env=[(false,Gf a X.env),(false,Gf b X.env)]:=by rfl) (hs2:Ew [b] X.env=[(false,Gf b X.env)]:=by rfl) :
  PI X tg (.Call (.Name "range" p) [a,b] [] pos) (Bs ta):=by
 intro pins s σ H R I h;refine Call_ (eR I hg hm boot_range (F6 (thn (ha pos pins s σ H _ I h) fun us s1 ⟨vs,H1,I1,r1,q1⟩=>?_) (by rw [hs,hs2]) (by rw [hs2]; rfl)));obtain ⟨i,j,e,⟨q1,q2,q3,q4⟩,q⟩:=q1;subst e
 cases r1 with
 | cons r rr =>
  cases rr with
  | cons r' rr =>
   cases rr;obtain ⟨t,rfl⟩:=r;obtain ⟨t',rfl⟩:=r';exact call_range_2 (qu I1 q1 q2 q3 q4 q)
def DU (wi:TI) (g:TG) (tb:TS):TS:=fun D σ H=>wi σ H fun J H1=>∃ W:Nat->Nat->St->Hp->Prop,(∃ m,W 0 m σ H1)/\∀ i m σ H,W i m σ H ->
 (J.stop i H/\D.nx σ H)\/(J.go i H/\∃ N:St->Hp->Prop,(∀ σ' H',N σ' H'->∃ m',m'<m/\W (i+1) m' σ' H')/\∀ x H',J.yld i H x H'->g x σ H' fun σ2 H2=>tb { D with nx:=N,ct:=N,bk:=D.nx } σ2 H2)
noncomputable def kA (fp:List Ω) (h:FD):List (Ω×HC):=fp.filterMap fun b=>(h.get? b).map fun o=>(b,o)
theorem fB {fp:List Ω} {h:FD} {b:Ω} {o:HC} (hb:b∈fp) (e:h.get? b=some o):(b,o)∈kA fp h:=IE.mpr ⟨b,hb,by rw [e]; rfl⟩
theorem ve {fp:List Ω} {h:FD} {p:Ω×HC} (hp:p∈kA fp h):p.1∈fp/\h.get? p.1=some p.2:=by
 obtain ⟨b,hb,e⟩:=IE.mp hp
 cases q:h.get? b with
 | none=>rw [q] at e; cases e
 | some o =>
  rw [q] at e;have e':(b,o)=p:=Ez e;subst e';exact ⟨hb,q⟩
theorem Inv.pinned {pins:List (Ω×HC)} {σ:St} {H:Hp} {s:A2} {fp:List Ω} (I:Inv X pins σ H s) (hf:∀ b∈fp,gJ X pins H b) (ho:∀ b∈fp,∃ o,s.heap.get? b=some o/\∀ v,o.data≠.cell v):Inv X (pins++kA fp s.heap) σ H s :=
 I.pins_of fun p hp=>(EG.mp hp).elim (fun z=>I.pin p (ED _ z)) fun z=>by
  obtain ⟨hb,e⟩:=ve z;obtain ⟨f0,f1,f2,_⟩:=hf p.1 hb;obtain ⟨o,e',d⟩:=ho p.1 hb;rw [e] at e'; cases e';exact ⟨e,f0,f1,f2,d⟩
theorem Inv.unpinned {pins pl:List (Ω×HC)} {σ:St} {H:Hp} {s:A2} (I:Inv X (pins++pl) σ H s):Inv X pins σ H s:=I.pins_of fun p hp=>I.pin p (ED _ (E1 _ hp))
theorem cZ {iter:Fo} {body:List Jd} {wi:TI} {g:TG} {tb:TS} {pos:Il} (hp:PassesOwn (EZ X.prog X.w) X.A X.env X.xe) (hc:X.calm=true) (hi:PI X tg iter wi) (hg:PG X tg g) (hb:PSs X body tb)
  (hs:∀ x,LH iter X.env x=pure x:=by intro _; rfl):PS X (.For tg iter body [] pos) (DU wi g tb):=by
 intro pins s σ H D I h;refine wpAny_For (thn (hi pins s σ H _ I h) fun v s1 h1=>thn h1 fun itv s2 h2=>?_) hs;obtain ⟨it,fp,tn,J,H2,e,I2,T,st2,f2,W,⟨m0,w0⟩,turn⟩:=h2;subst e
 -- what stays true of the iterator's objects through the loop
 have stat:∀ {H':Hp},(∀ b∈fp,H' b=none)->∀ b∈fp,gJ X pins H' b:=fun hn b hb=>⟨hn b hb,(f2 b hb).2⟩
 refine codeAny_forLoop_any (fun n s'=>∃ i σ' H',Inv X pins σ' H' s'/\tn i s'.heap/\(∀ b∈fp,H' b=none)/\W i n σ' H') ?_ m0 ⟨0,σ,H2,I2,st2,fun b hb=>(f2 b hb).1,w0⟩;rintro n s3 ⟨i,σ3,H3,I3,st3,fr3,w3⟩;rcases turn i n σ3 H3 w3 with ⟨stop,qn⟩ | ⟨go,N,hN,step⟩
 ·refine Hu hp (thn (T.done X rfl rfl rfl hc i pins s3 σ3 H3 X.xe I3 (stat fr3) st3 stop) fun r s4 ⟨hr,I4⟩=>?_);subst hr;exact KG ⟨σ3,H3,I4,qn⟩
 ·refine Hu hp (thn (T.item X rfl rfl rfl hc i pins s3 σ3 H3 X.xe I3 (stat fr3) st3 go) fun r s4 ⟨u,hr,h4⟩=>?_);subst hr;refine Hu hp (thn h4 fun _ s5 ⟨x,H5,I5,r5,y5,st5,fr5⟩=>?_);have I5':=I5.pinned (stat fr5) (T.obj _ _ st5);refine Hu hp (thn (hg _ s5 σ3 H5 x u _ I5' r5 (step x H5 y5)) fun _ s6 ⟨σ6,H6,I6,q6⟩=>?_);refine Hu hp (thn (hb _ s6 σ6 H6 _ I6 q6) fun f s7 q7=>?_);have again:∀ {σ7:St} {H7:Hp},Inv X (pins++kA fp s5.heap) σ7 H7 s7->N σ7 H7->∃ m,m<n/\∃ i σ' H',Inv X pins σ' H' s7/\tn i s7.heap/\(∀ b∈fp,H' b=none)/\W i m σ' H':=fun {σ7 H7} I7 n7=>by
   obtain ⟨m',hm,w7⟩:=hN σ7 H7 n7;refine ⟨m',hm,i+1,σ7,H7,I7.unpinned,T.keep _ _ _ st5 fun b hb o e=>(I7.pin (b,o) (ED _ (ED _ (fB hb e)))).1,fun b hb=>?_,w7⟩;obtain ⟨o,e,d⟩:=T.obj _ _ st5 b hb;exact (I7.pin (b,o) (ED _ (ED _ (fB hb e)))).2.1
  cases f with
  | next => obtain ⟨σ7, H7, I7, n7⟩ := q7; exact again I7 n7
  | cont => obtain ⟨σ7, H7, I7, n7⟩ := q7; exact again I7 n7
  | brk => obtain ⟨σ7, H7, I7, q7⟩ := q7; exact ⟨σ7, H7, I7.unpinned, q7⟩
  | ret v => obtain ⟨x7, σ7, H7, I7, r7, q7⟩ := q7; exact ⟨x7, σ7, H7, I7.unpinned, r7, q7⟩
end
theorem xc {K:W.Frag} {a:Ω} {xs:List V} {g:TG} {tb:TS} {D:dn} {σ:St} {H:Hp} (Pv:Nat->St->Hp->Prop) (h0:Pv 0 σ H) (hl:∀ i σ H,i<=xs.length->Pv i σ H->SqL K H a xs)
  (hs:∀ i x σ H,xs[i]?=some x->Pv i σ H->g x σ H fun σ2 H2=>tb { D with nx:=Pv (i+1),ct:=Pv (i+1),bk:=D.nx } σ2 H2) (hd:∀ σ H,Pv xs.length σ H->D.nx σ H) :
  ∃ W:Nat->Nat->St->Hp->Prop,(∃ m,W 0 m σ H)/\∀ i m σ H,W i m σ H ->
   ((Itl K a).stop i H/\D.nx σ H)\/((Itl K a).go i H/\∃ N:St->Hp->Prop,(∀ σ' H',N σ' H'->∃ m',m'<m/\W (i+1) m' σ' H')/\∀ x H',(Itl K a).yld i H x H'->g x σ H' fun σ2 H2=>tb { D with nx:=N,ct:=N,bk:=D.nx } σ2 H2):=by
 refine ⟨fun i m σ H=>m=xs.length - i/\i<=xs.length/\Pv i σ H,⟨xs.length,by simp,En _,h0⟩,?_⟩;rintro i m σ H ⟨rfl,hi,p⟩;have q:=hl i σ H hi p;by_cases hlt:i<xs.length
 ·refine .inr ⟨⟨xs,xs[i],q,by simp [hlt]⟩,Pv (i+1),fun σ' H' p'=>⟨xs.length - (i+1),by omega,rfl,hlt,p'⟩,fun x H' y=>?_⟩;obtain ⟨e,y⟩:=y;subst e;exact hs i x σ _ (y xs q) p
 ·have e:i=xs.length:=by omega
  subst e;exact .inl ⟨⟨xs,q,A_ _⟩,hd σ H p⟩
theorem zM {K:W.Frag} {a:Ω} {xs:List V} {g:TG} {tb:TS} {D:dn} {σ:St} {H:Hp} (Pv:Nat->St->Hp->Prop) (h0:Pv 0 σ H) (hl:∀ i σ H,i<=xs.length->Pv i σ H->SqT K H a xs)
  (hs:∀ i x σ H,xs[i]?=some x->Pv i σ H->g x σ H fun σ2 H2=>tb { D with nx:=Pv (i+1),ct:=Pv (i+1),bk:=D.nx } σ2 H2) (hd:∀ σ H,Pv xs.length σ H->D.nx σ H) :
  ∃ W:Nat->Nat->St->Hp->Prop,(∃ m,W 0 m σ H)/\∀ i m σ H,W i m σ H ->
   ((Itt K a).stop i H/\D.nx σ H)\/((Itt K a).go i H/\∃ N:St->Hp->Prop,(∀ σ' H',N σ' H'->∃ m',m'<m/\W (i+1) m' σ' H')/\∀ x H',(Itt K a).yld i H x H'->g x σ H' fun σ2 H2=>tb { D with nx:=N,ct:=N,bk:=D.nx } σ2 H2):=by
 refine ⟨fun i m σ H=>m=xs.length - i/\i<=xs.length/\Pv i σ H,⟨xs.length,by simp,En _,h0⟩,?_⟩;rintro i m σ H ⟨rfl,hi,p⟩;have q:=hl i σ H hi p;by_cases hlt:i<xs.length
 ·refine .inr ⟨⟨xs,xs[i],q,by simp [hlt]⟩,Pv (i+1),fun σ' H' p'=>⟨xs.length - (i+1),by omega,rfl,hlt,p'⟩,fun x H' y=>?_⟩;obtain ⟨e,y⟩:=y;subst e;exact hs i x σ _ (y xs q) p
 ·have e:i=xs.length:=by omega
  subst e;exact .inl ⟨⟨xs,q,A_ _⟩,hd σ H p⟩
theorem uO {lo:Int} {n:Nat} {g:TG} {tb:TS} {D:dn} {σ:St} {H:Hp} (Pv:Nat->St->Hp->Prop) (h0:Pv 0 σ H)
  (hs:∀ i σ H,i<n->Pv i σ H->g (.int (lo+i)) σ H fun σ2 H2=>tb { D with nx:=Pv (i+1),ct:=Pv (i+1),bk:=D.nx } σ2 H2) (hd:∀ σ H,Pv n σ H->D.nx σ H) :
  ∃ W:Nat->Nat->St->Hp->Prop,(∃ m,W 0 m σ H)/\∀ i m σ H,W i m σ H ->
   ((Itr lo n).stop i H/\D.nx σ H)\/((Itr lo n).go i H/\∃ N:St->Hp->Prop,(∀ σ' H',N σ' H'->∃ m',m'<m/\W (i+1) m' σ' H')/\∀ x H',(Itr lo n).yld i H x H'->g x σ H' fun σ2 H2=>tb { D with nx:=N,ct:=N,bk:=D.nx } σ2 H2):=by
 refine ⟨fun i m σ H=>m=n - i/\i<=n/\Pv i σ H,⟨n,by simp,En _,h0⟩,?_⟩;rintro i m σ H ⟨rfl,hi,p⟩;by_cases hlt:i<n
 ·refine .inr ⟨hlt,Pv (i+1),fun σ' H' p'=>⟨n - (i+1),by omega,rfl,hlt,p'⟩,fun x H' y=>?_⟩;obtain ⟨e,y⟩:=y;subst e y;exact hs i σ _ hlt p
 ·have e:i=n:=by omega
  subst e;exact .inl ⟨A_ _,hd σ H p⟩
noncomputable abbrev R2:=V->V->Hp->VK->Prop
def OpR (X:Cx) (f:Δ->Δ->KZ Δ) (r:R2):Prop :=
 ∀ (pins:List (Ω×HC)) (s:A2) (σ:St) (H:Hp) (x y:V) (v u:Δ) (Q:VK),Inv X pins σ H s->aU x v->aU y u->r x y H Q ->
  EM (EZ X.prog X.w) X.A (f v u) (EP X pins σ Q) X.xe s
def UnR (X:Cx) (f:Δ->KZ Δ) (r:V->Hp->VK->Prop):Prop :=
 ∀ (pins:List (Ω×HC)) (s:A2) (σ:St) (H:Hp) (x:V) (v:Δ) (Q:VK),Inv X pins σ H s->aU x v->r x H Q ->
  EM (EZ X.prog X.w) X.A (f v) (EP X pins σ Q) X.xe s
def bL (X:Cx) (f:Δ) (r:List V->Hp->VK->Prop):Prop :=
 ∀ (pins:List (Ω×HC)) (s:A2) (σ:St) (H:Hp) (xs:List V) (us:List Δ) (Q:VK),Inv X pins σ H s->Vals xs us->r xs H Q ->
  EM (EZ X.prog X.w) X.A (call f us) (EP X pins σ Q) X.xe s
def tOp (r:R2) (ta tb:TE):TE:=fun σ H Q=>ta σ H fun x H1=>tb σ H1 fun y H2=>r x y H2 Q
def tUn (r:V->Hp->VK->Prop) (ta:TE):TE:=fun σ H Q=>ta σ H fun x H1=>r x H1 Q
def rI (C:Int->Int->Prop) (g:Int->Int->V):R2:=fun x y H Q=>∃ i j,x=.int i/\y=.int j/\C i j/\Q (g i j) H
def rI0 (g:Int->Int->V):R2:=fun x y H Q=>∃ i j,x=.int i/\y=.int j/\Q (g i j) H
def rU (g:Int->V):V->Hp->VK->Prop:=fun x H Q=>∃ i,x=.int i/\Q (g i) H
section
variable {X:Cx} {a b c:Fo} {ta tb tc:TE} {pos:Il}
theorem B0 (ha:PE X a ta) (hb:PE X b tb) {pins:List (Ω×HC)} {s:A2} {σ:St} {H:Hp} {R:V->V->Hp->Prop} (I:Inv X pins σ H s)
  (h:ta σ H fun x H1=>tb σ H1 fun y H2=>R x y H2) {Q:Δ->A2->Prop} {f:Δ->Δ->KZ Δ}
  (hf:∀ v u s2 x y H2,Inv X pins σ H2 s2->aU x v->aU y u->R x y H2->EM (EZ X.prog X.w) X.A (f v u) Q X.xe s2) :
  EM (EZ X.prog X.w) X.A (Gf a X.env) (fun v s₁=>EM (EZ X.prog X.w) X.A (Gf b X.env) (fun u s₂=>EM (EZ X.prog X.w) X.A (f v u) Q X.xe s₂) X.xe s₁) X.xe s:=by
 refine thn (ha pins s σ H _ I h) fun v s1 ⟨x,H1,I1,r1,q1⟩=>?_;refine thn (hb pins s1 σ H1 _ I1 q1) fun u s2 ⟨y,H2,I2,r2,q2⟩=>?_;exact hf v u s2 x y H2 I2 r1 r2 q2
theorem aA {op:Operator} {r:R2} (ho:OpR X (J5 op) r) (ha:PE X a ta) (hb:PE X b tb):PE X (.BinOp a op b pos) (tOp r ta tb):=by
 intro pins s σ H Q I h;exact wpAny_BinOp (B0 ha hb I h fun v u s2 x y H2 I2 rx ry q=>ho pins s2 σ H2 x y v u Q I2 rx ry q)
theorem cA {op:UnaryOp} {r:V->Hp->VK->Prop} (ho:UnR X (unaryOp op) r) (ha:PE X a ta):PE X (.UnaryOp op a pos) (tUn r ta):=by
 intro pins s σ H Q I h;exact UnaryOp_ (thn (ha pins s σ H _ I h) fun v s1 ⟨x,H1,I1,r1,q1⟩=>ho pins s1 σ H1 x v Q I1 r1 q1)
theorem opI {f:Δ->Δ->KZ Δ} {C:Int->Int->Prop} {g:Int->Int->Int}
  (rule:∀ (i j:Int) (t u:Tok) (s:A2) (Q:Δ->A2->Prop) (E:Δ->A2->Prop),C i j->Q (.int (g i j) s.toks) { s with toks:=s.toks+1 }->EM (EZ X.prog X.w) X.A (f (.int i t) (.int j u)) Q E s) :
  OpR X f (rI C fun i j=>.int (g i j)):=by
 intro pins s σ H x y v u Q I rx ry h;obtain ⟨i,j,rfl,rfl,hc,q⟩:=h;obtain ⟨t,rfl⟩:=rx;obtain ⟨t',rfl⟩:=ry;exact rule i j t t' s _ _ hc ⟨.int (g i j),H,I.tok _,⟨_,rfl⟩,q⟩
theorem Dw {f:Δ->Δ->KZ Δ} {g:Int->Int->Int}
  (rule:∀ (i j:Int) (t u:Tok) (s:A2) (Q:Δ->A2->Prop) (E:Δ->A2->Prop),Q (.int (g i j) s.toks) { s with toks:=s.toks+1 }->EM (EZ X.prog X.w) X.A (f (.int i t) (.int j u)) Q E s) :
  OpR X f (rI0 fun i j=>.int (g i j)):=by
 intro pins s σ H x y v u Q I rx ry h;obtain ⟨i,j,rfl,rfl,q⟩:=h;obtain ⟨t,rfl⟩:=rx;obtain ⟨t',rfl⟩:=ry;exact rule i j t t' s _ _ ⟨.int (g i j),H,I.tok _,⟨_,rfl⟩,q⟩
theorem Cq {f:Δ->Δ->KZ Δ} {g:Int->Int->Bool}
  (rule:∀ (i j:Int) (t u:Tok) (s:A2) (Q:Δ->A2->Prop) (E:Δ->A2->Prop),Q (.bool (g i j)) s->EM (EZ X.prog X.w) X.A (f (.int i t) (.int j u)) Q E s) :
  OpR X f (rI0 fun i j=>.bl (g i j)):=by
 intro pins s σ H x y v u Q I rx ry h;obtain ⟨i,j,rfl,rfl,q⟩:=h;obtain ⟨t,rfl⟩:=rx;obtain ⟨t',rfl⟩:=ry;exact rule i j t t' s _ _ ⟨.bl (g i j),H,I,rfl,q⟩
def D2 (i j:Int):Prop:=0<j/\j<1073741824
def D3 (i j:Int):Prop:=0<=j/\j<=1000000/\i.natAbs<2 ^ 64
def BU (i j:Int):Prop:=(-(2 ^ 64)<i/\i<2 ^ 64)\/(-(2 ^ 64)<j/\j<2 ^ 64)
theorem BU.ok {i j:Int} (h:BU i j):IntMulOk i j:=by
 rcases h with ⟨h1,h2⟩ | ⟨h1,h2⟩
 ·exact .of_left (intBits_le_64 h1 h2)
 ·exact .of_right (intBits_le_64 h1 h2)
theorem a7:OpR X (J5 .Add) (rI0 fun i j=>.int (i+j)):=Dw fun _ _ _ _ _ _ _ q=>add_int q
theorem bV:OpR X (J5 .Sub) (rI0 fun i j=>.int (i - j)):=Dw fun _ _ _ _ _ _ _ q=>sub_int q
theorem fE:OpR X (J5 .Mult) (rI BU fun i j=>.int (i*j)):=opI fun _ _ _ _ _ _ _ hc q=>mul_int q hc.ok
theorem tV:OpR X (J5 .FloorDiv) (rI D2 fun i j=>.int (i / j)):=opI fun i j _ _ _ _ _ hc q=>by
 have h1:(0:Int)<j:=hc.1;have h2:j<1073741824:=hc.2;exact floordiv_int (by omega) (by rw [Int.fdiv_eq_ediv_of_nonneg i (by omega)]; exact q) (.inl (Lf (by omega)))
theorem bU:OpR X (J5 .Mod) (rI (fun _ j=>0<j) fun i j=>.int (i%j)):=opI fun i j _ _ _ _ _ hc q=>by
 have h1:(0:Int)<j:=hc;exact mod_int' (by omega) (by rw [Int.fmod_eq_emod_of_nonneg i (by omega)]; exact q)
theorem Cr:OpR X (J5 .Pow) (rI D3 fun i j=>.int (i ^ j.toNat)):=opI fun _ _ _ _ _ _ _ hc q=>pow_int_small hc.1 hc.2.1 hc.2.2 q
theorem unI {f:Δ->KZ Δ} {g:Int->Int}
  (rule:∀ (i:Int) (t:Tok) (s:A2) (Q:Δ->A2->Prop) (E:Δ->A2->Prop),Q (.int (g i) s.toks) { s with toks:=s.toks+1 }->EM (EZ X.prog X.w) X.A (f (.int i t)) Q E s) :
  UnR X f (rU fun i=>.int (g i)):=by
 intro pins s σ H x v Q I rx h;obtain ⟨i,rfl,q⟩:=h;obtain ⟨t,rfl⟩:=rx;exact rule i t s _ _ ⟨.int (g i),H,I.tok _,⟨_,rfl⟩,q⟩
theorem bN:UnR X (unaryOp .USub) (rU fun i=>.int (-i)):=unI fun _ _ _ _ _ q=>neg_int q
end
noncomputable def DP:V->V->Bool
 | .non,.non=>true | .non,.int _=>true | .int _,.non=>true | .non,.bl _=>true | .bl _,.non=>true | .non,.str _=>true | .str _,.non=>true
 | .int _,.int _=>true | .bl _,.bl _=>true | .str _,.str _=>true | .byt _,.byt _=>true
 | .int _,.str _=>true | .str _,.int _=>true | .bl _,.str _=>true | .str _,.bl _=>true
 | _,_=>false
def rEq:R2:=fun x y H Q=>DP x y=true/\Q (.bl (decide (x=y))) H
def rNe:R2:=fun x y H Q=>DP x y=true/\Q (.bl (!decide (x=y))) H
theorem jA {i j:Int}:decide (V.int i=V.int j)=(i==j):=by
 rw [Hh];simp
theorem wQ {i j:Bool}:decide (V.bl i=V.bl j)=(i==j):=by
 rw [Hh];simp
theorem tm {i j:Str}:decide (V.str i=V.str j)=(i==j):=by
 rw [Hh];simp
theorem tj {i j:Array UInt8}:decide (V.byt i=V.byt j)=(i.toList==j.toList):=by
 rw [Hh]
 cases i
 cases j;simp
section
variable {X:Cx} {a b c:Fo} {ta tb tc:TE} {pos:Il}
theorem aZ {pins:List (Ω×HC)} {σ:St} {H:Hp} {s:A2} {Q:VK} {k k':Bool} (I:Inv X pins σ H s) (q:Q (.bl k) H) (e:k=k'):EP X pins σ Q (.bool k') s:=by
 subst e;exact ⟨.bl k,H,I,rfl,q⟩
theorem dh:OpR X (GQ .Eq) rEq:=by
 intro pins s σ H x y v u Q I rx ry h;obtain ⟨hs,q⟩:=h
 cases x with
 | non =>
  cases rx
  cases y with
  | non => cases ry; exact PySem.EqNone.eq_none_none (aZ I q (by simp))
  | bl j => cases ry; exact PySem.EqNone.eq_none_bool (aZ I q (by simp))
  | int j => obtain ⟨t', rfl⟩ := ry; exact PySem.EqNone.eq_none_int (aZ I q (by simp))
  | str j => obtain ⟨t', rfl⟩ := ry; exact PySem.EqNone.eq_none_str (aZ I q (by simp))
  | _ => exact absurd (show false = true from hs) E4
 | bl i =>
  cases rx
  cases y with
  | non => cases ry; exact PySem.EqNone.eq_bool_none (aZ I q (by simp))
  | bl j => cases ry; exact eq_bool (aZ I q wQ)
  | str j => obtain ⟨t', rfl⟩ := ry; exact PySem.EqMixed.eq_bool_str (aZ I q (by simp))
  | _ => exact absurd (show false = true from hs) E4
 | int i =>
  obtain ⟨t,rfl⟩:=rx
  cases y with
  | non => cases ry; exact PySem.EqNone.eq_int_none (aZ I q (by simp))
  | int j => obtain ⟨t', rfl⟩ := ry; exact eq_int (aZ I q jA)
  | str j => obtain ⟨t', rfl⟩ := ry; exact PySem.EqMixed.eq_int_str (aZ I q (by simp))
  | _ => exact absurd (show false = true from hs) E4
 | str i =>
  obtain ⟨t,rfl⟩:=rx
  cases y with
  | non => cases ry; exact PySem.EqNone.eq_str_none (aZ I q (by simp))
  | bl j => cases ry; exact PySem.EqMixed.eq_str_bool (aZ I q (by simp))
  | int j => obtain ⟨t', rfl⟩ := ry; exact PySem.EqMixed.eq_str_int (aZ I q (by simp))
  | str j => obtain ⟨t', rfl⟩ := ry; exact eq_str (aZ I q tm)
  | _ => exact absurd (show false = true from hs) E4
 | byt i =>
  obtain ⟨t,rfl⟩:=rx
  cases y with
  | byt j => obtain ⟨t', rfl⟩ := ry; exact W.eq_bytes (aZ I q tj)
  | _ => exact absurd (show false = true from hs) E4
 | _=>cases y<;>exact absurd (show false=true from hs) E4
theorem tW:OpR X (GQ .NotEq) rNe:=by
 intro pins s σ H x y v u Q I rx ry h;obtain ⟨hs,q⟩:=h
 cases x with
 | non =>
  cases rx
  cases y with
  | non => cases ry; exact PySem.EqNone.ne_none_none (aZ I q (by simp))
  | bl j => cases ry; exact PySem.EqNone.ne_none_bool (aZ I q (by simp))
  | int j => obtain ⟨t', rfl⟩ := ry; exact PySem.EqNone.ne_none_int (aZ I q (by simp))
  | str j => obtain ⟨t', rfl⟩ := ry; exact PySem.EqNone.ne_none_str (aZ I q (by simp))
  | _ => exact absurd (show false = true from hs) E4
 | bl i =>
  cases rx
  cases y with
  | non => cases ry; exact PySem.EqNone.ne_bool_none (aZ I q (by simp))
  | bl j => cases ry; exact ne_bool (aZ I q (congrArg not wQ))
  | str j => obtain ⟨t', rfl⟩ := ry; exact PySem.EqMixed.ne_bool_str (aZ I q (by simp))
  | _ => exact absurd (show false = true from hs) E4
 | int i =>
  obtain ⟨t,rfl⟩:=rx
  cases y with
  | non => cases ry; exact PySem.EqNone.ne_int_none (aZ I q (by simp))
  | int j => obtain ⟨t', rfl⟩ := ry; exact ne_int (aZ I q (congrArg not jA))
  | str j => obtain ⟨t', rfl⟩ := ry; exact PySem.EqMixed.ne_int_str (aZ I q (by simp))
  | _ => exact absurd (show false = true from hs) E4
 | str i =>
  obtain ⟨t,rfl⟩:=rx
  cases y with
  | non => cases ry; exact PySem.EqNone.ne_str_none (aZ I q (by simp))
  | bl j => cases ry; exact PySem.EqMixed.ne_str_bool (aZ I q (by simp))
  | int j => obtain ⟨t', rfl⟩ := ry; exact PySem.EqMixed.ne_str_int (aZ I q (by simp))
  | str j => obtain ⟨t', rfl⟩ := ry; exact ne_str (aZ I q (congrArg not tm))
  | _ => exact absurd (show false = true from hs) E4
 | byt i =>
  obtain ⟨t,rfl⟩:=rx
  cases y with
  | byt j => obtain ⟨t', rfl⟩ := ry; exact W.ne_bytes (aZ I q (congrArg not tj))
  | _ => exact absurd (show false = true from hs) E4
 | _=>cases y<;>exact absurd (show false=true from hs) E4
theorem dw:OpR X (GQ .Lt) (rI0 fun i j=>.bl (decide (i<j))):=Cq fun _ _ _ _ _ _ _ q=>lt_int q
theorem p9:OpR X (GQ .LtE) (rI0 fun i j=>.bl (decide (i<=j))):=Cq fun _ _ _ _ _ _ _ q=>le_int q
theorem By:OpR X (GQ .Gt) (rI0 fun i j=>.bl (decide (j<i))):=Cq fun _ _ _ _ _ _ _ q=>gt_int q
theorem tX:OpR X (GQ .IsNot) (fun x y H Q=>y=.non/\Q (.bl (!decide (x=.non))) H):=by
 intro pins s σ H x y v u Q I rx ry h;obtain ⟨rfl,q⟩:=h
 cases ry;refine isnot_none_gen (aZ I q ?_)
 cases x<;>first
  | (cases rx; rfl)
  | (obtain ⟨t, rfl⟩ := rx; rfl)
theorem xI (b:Fo) {op:MN} (h:op≠.In:=by decide) (h2:op≠.NotIn:=by decide):IG op b=false:=by
 have e1:(op==CmpOp.In)=false:=by cases op<;>first | rfl | exact absurd rfl h
 have e2:(op==CmpOp.NotIn)=false:=by cases op<;>first | rfl | exact absurd rfl h2
 cases b<;>simp [IG,e1,e2]
theorem Ak {op:MN} {r:R2} (ho:OpR X (GQ op) r) (ha:PE X a ta) (hb:PE X b tb) (hm:IG op b=false):PE X (.Compare a [op] [b] pos) (tOp r ta tb):=by
 intro pins s σ H Q I h;exact wpAny_Compare1 (B0 ha hb I h fun v u s2 x y H2 I2 rx ry q=>ho pins s2 σ H2 x y v u Q I2 rx ry q) hm
def uw (t:TE):TT:=fun σ H Q=>t σ H fun x H'=>∃ k,x=.bl k/\Q k H'
theorem Ap {op:MN} {r:R2} (ho:OpR X (GQ op) r) (ha:PE X a ta) (hb:PE X b tb) (hm:IG op b=false):PT X (.Compare a [op] [b] pos) (uw (tOp r ta tb)):=by
 intro pins s σ H Q I h;refine wpAny_isTrue_Compare1 (thn (ha pins s σ H _ I h) fun v s1 ⟨x,H1,I1,r1,q1⟩=>thn (hb pins s1 σ H1 _ I1 q1) fun u s2 ⟨y,H2,I2,r2,q2⟩ =>
  thn (ho pins s2 σ H2 x y v u _ I2 r1 r2 q2) fun c s3 ⟨z,H3,I3,r3,k,e,q3⟩=>?_) hm
 subst e
 cases r3;exact GA ⟨H3,I3,q3⟩
def sJ (r r':R2) (ta tb tc:TE):TE:=fun σ H Q=>ta σ H fun x H1=>tb σ H1 fun y H2=>r x y H2 fun z H3=>∃ k,z=.bl k /\
 (if k=true then tc σ H3 fun w' H4=>r' y w' H4 Q else Q (.bl false) H3)
theorem xT {op op':MN} {r r':R2} (ho:OpR X (GQ op) r) (ho':OpR X (GQ op') r') (ha:PE X a ta) (hb:PE X b tb) (hc:PE X c tc)
  (hm:lastMarks [op,op'] [b,c]=false:=by with_unfolding_all rfl):PE X (.Compare a [op,op'] [b,c] pos) (sJ r r' ta tb tc):=by
 intro pins s σ H Q I h;refine Compare_chain (thn (ha pins s σ H _ I h) fun v s1 ⟨x,H1,I1,r1,q1⟩=>chain_link (thn (hb pins s1 σ H1 _ I1 q1) fun u s2 ⟨y,H2,I2,r2,q2⟩ =>
  thn (ho pins s2 σ H2 x y v u _ I2 r1 r2 q2) fun d s3 ⟨z,H3,I3,r3,k,e,q3⟩=>?_)) hm
 subst e
 cases r3;refine GA ?_
 cases k with
 | false=>exact ite_ff ⟨.bl false,H3,I3,rfl,q3⟩
 | true=>exact ite_tt (chain_last (thn (hc pins s3 σ H3 _ I3 q3) fun w' s4 ⟨z',H4,I4,r4,q4⟩=>ho' pins s4 σ H4 y z' u w' Q I4 r2 r4 q4))
theorem dk {op op':MN} {r r':R2} (ho:OpR X (GQ op) r) (ho':OpR X (GQ op') r') (ha:PE X a ta) (hb:PE X b tb) (hc:PE X c tc)
  (hm:lastMarks [op,op'] [b,c]=false:=by with_unfolding_all rfl):PT X (.Compare a [op,op'] [b,c] pos) (uw (sJ r r' ta tb tc)):=by
 intro pins s σ H Q I h;refine isTrue_chain (thn (ha pins s σ H _ I h) fun v s1 ⟨x,H1,I1,r1,q1⟩=>test_link (thn (hb pins s1 σ H1 _ I1 q1) fun u s2 ⟨y,H2,I2,r2,q2⟩ =>
  thn (ho pins s2 σ H2 x y v u _ I2 r1 r2 q2) fun d s3 ⟨z,H3,I3,r3,k,e,q3⟩=>?_)) hm
 subst e
 cases r3;refine GA ?_
 cases k with
 | false =>
  obtain ⟨k',e',q'⟩:=q3
  cases e';exact ite_ff ⟨H3,I3,q'⟩
 | true =>
  refine ite_tt (test_last (thn (hc pins s3 σ H3 _ I3 q3) fun w' s4 ⟨z',H4,I4,r4,q4⟩=>thn (ho' pins s4 σ H4 y z' u w' _ I4 r2 r4 q4) fun d' s5 ⟨z2,H5,I5,r5,k2,e2,q5⟩=>?_));subst e2
  cases r5;exact GA ⟨H5,I5,q5⟩
theorem nG:(EF:Nat)<2 ^ 63:=by rw [KU]; decide
theorem uA {x:V} {us:List Δ} (r:Vals [x] us):∃ u,us=[u]/\aU x u:=by
 cases r with
 | cons r1 r2=>cases r2; exact ⟨_,rfl,r1⟩
theorem D1 {x y:V} {us:List Δ} (r:Vals [x,y] us):∃ u w',us=[u,w']/\aU x u/\aU y w':=by
 cases r with
 | cons r1 r2 =>
  cases r2 with
  | cons r3 r4 => cases r4; exact ⟨_, _, rfl, r1, r3⟩
theorem wK:bL X (.builtin "abs") (fun xs H Q=>∃ i,xs=[.int i]/\Q (.int (if i<0 then -i else i)) H):=by
 intro pins s σ H xs us Q I r h;obtain ⟨i,rfl,q⟩:=h;obtain ⟨u,rfl,t,rfl⟩:=uA r;exact call_abs_int fun u tk=>⟨.int (if i<0 then -i else i),H,I.tok _,⟨_,rfl⟩,q⟩
theorem uJ (hc:X.calm=true):bL X (.builtin "min") (fun xs H Q=>∃ i j,xs=[.int i,.int j]/\Q (.int (if j<i then j else i)) H):=by
 intro pins s σ H xs us Q I r h;obtain ⟨i,j,rfl,q⟩:=h;obtain ⟨u,w',rfl,⟨t,rfl⟩,⟨t',rfl⟩⟩:=D1 r;refine min_two_ints (I.ok.hd hc) fun h' tk k=>⟨_,H,I.kept k,?_,q⟩
 by_cases hj:j<i
 ·rw [if_pos hj,if_pos hj]; exact ⟨_,rfl⟩
 ·rw [if_neg hj,if_neg hj]; exact ⟨_,rfl⟩
end
structure rf (h:FD) (x dx C:Ω) (mA:Str->Option Δ):Prop where
 obj:h.get? x=some (W.instObj C dx)
 ns:h.Ns1 dx mA
 ne:dx≠x
theorem u5 {h:FD} {dx:Ω} {mA:Str->Option Δ} (n:h.Ns1 dx mA):∃ od,h.get? dx=some od/\∀ name,W.lookIn name od=some (mA name):=by
 obtain ⟨o,es,ep,ho,hd,hk,_,hm⟩:=n;refine ⟨o,ho,fun name=>?_⟩;have e:=hm name;unfold nsFind findBy at e;rw [<- Array.find?_toList] at e;unfold W.lookIn;rw [hd];dsimp only
 split
 ·rename_i y q;rw [q] at e;exact congrArg some e
 ·rename_i q;rw [q] at e
  have a:es.toList.any (·.refKey)=false:=by
   rw [List.any_eq_false];intro y hy;obtain ⟨z,t,hkey⟩:=hk y (Array.mem_toList_iff.mp hy);simp [DictEntry.refKey,hkey]
  have a':¬ es.toList.any (·.refKey)=true:=by rw [a]; exact E4
  rw [if_neg a'];exact congrArg some e
theorem rf.look {h:FD} {x dx C:Ω} {mA:Str->Option Δ} (I:rf h x dx C mA):∃ od,PySem.W.InstAt h x (W.instObj C dx) C (some od)/\∀ name,W.lookIn name od=some (mA name) :=
 let ⟨od,ho,hl⟩:=u5 I.ns
 ⟨od,⟨I.obj,rfl,rfl,ho⟩,hl⟩
section
variable {prog:ER} {w:E2} {A:E5} {E:Δ->A2->Prop} {s:A2} {K:W.Frag} {x dx C f:Ω} {mA:Str->Option Δ} {name:Str} {v:Δ}
theorem zN {expr:Bool} {Q:Δ->A2->Prop} (X:K.In s.heap) (I:rf s.heap x dx C mA) (hg:W.plainGet K C name=true) (hh:W.hasDictIn K C=true)
  (ha:W.findIn K (.ref C) name=some none) (hv:mA name=some v) (hv':W.handedIn v=true) (h:Q v { s with toks:=s.toks+1 }) :
  EM (EZ prog w) A (getAttr (.ref x) name expr) Q E s:=by
 obtain ⟨od,J,hl⟩:=I.look;exact W.get_value X J (W.plainGet_of hg).1 (W.findObj_own hh ha rfl (by rw [hl,hv])) hv' h
theorem xh {pl:KZ Bool} {Q:Δ×List Δ->A2->Prop} (X:K.In s.heap) (I:rf s.heap x dx C mA) (hg:W.plainGet K C name=true)
  (hf:W.findIn K (.ref C) name=some (some (.ref f))) (ht:W.isFn K (.ref f)=true) (hv:mA name=none) (h:Q (.ref f,[.ref x]) s) :
  EM (EZ prog w) A (Ld (.ref x) name pl) Q E s:=by
 obtain ⟨od,J,hl⟩:=I.look;exact W.method_fn X J (W.plainGet_of hg).1 (W.plainGet_of hg).2 hf (beq_iff_eq.mp ht) (by show (W.lookIn name od).map (·.isSome)=some false; rw [hl,hv]; rfl) h
theorem A4 {ns:List Str} {Q:Unit->A2->Prop} (X:K.In s.heap) (I:rf s.heap x dx C mA)
  (hs:W.findIn K (.ref C) "__setattr__"=some (some (.builtin "object.__setattr__"))) (hp:W.plainOver K C=true) (ht:W.takerIn K C name=some none) (hh:W.hasDictIn K C=true)
  (hw:Lu mA ns) (hsz:ns.length<=EF)
  (h:∀ h',rf h' x dx C (fun y=>if y=name then some v else mA y)->G0 dx s.heap h'->Q () { s with heap:=h',toks:=s.toks+2 }) :
  EM (EZ prog w) A (setAttr (.ref x) name v) Q E s:=by
 obtain ⟨od,J,hl⟩:=I.look;refine W.set_plain X J hs (W.osa_open (s:={ s with toks:=s.toks+1 }) (r:=none) X J hp ht fun b=>?_);obtain ⟨cd,hc,hd'⟩:=W.any_some hh;have hx:s.heap.get? x=some ⟨.ref C,some dx,.plain,#[]⟩:=I.obj;refine ξ (B_ (ξ (ξ (wpAny_loadPart hx (ξ (PySem.W.Looks.here (s:={ s with toks:=s.toks+1 }) (W.looks_clsIn X hc) ?_))))));rw [hd'];refine B_ (a:=some dx) (ξ (B_ (ξ ?_)));refine wpAny_nsSet1 (s:={ s with toks:=s.toks+1 }) I.ns fun h' hn2 hs2=>?_;obtain ⟨oD,esD,epD,hoD,hdD,hcD⟩:=hn2.count (PySem.Within.cons name v hw);refine ξ (wpAny_lookBehind hoD (by rw [hdD]; exact pastItsLine_dict (FA hcD (by rw [Ba]; omega))) ?_);exact B_ (h _ ⟨(hs2.2 _ (GH I.ne)).trans I.obj,hn2,I.ne⟩ hs2)
theorem xE {R:Result->A2->Prop} {vs:List Δ} {kw:List (Str×Δ)} (X:K.In s.heap) (hm:W.makesIn K C=true)
  (hi:W.findIn K (.ref C) "__init__"=some (some (.ref f))) (hf:W.typeIn K (.ref f)=some (.type "function"))
  (h:IY (EZ prog w) (A.under (.builtin "type.__call__" ⟨.ref C::vs,kw⟩)) (.call (.ref f) ⟨.ref (s.heap.objs.size+1)::vs,kw⟩) (PySem.W.InitBack (s.heap.objs.size+1) R)
   { s with heap:=(s.heap.push W.emptyDict).push (W.instObj C s.heap.objs.size) }) :
  IY (EZ prog w) A (.call (.ref C) ⟨vs,kw⟩) R s:=by
 obtain ⟨hh,g,d,t,os⟩:=s;exact W.make_core (W.makes_of X hm) (W.looks_findIn X hi) (fun self=>W.bind_fn X self hf) (.inl rfl) h
end
noncomputable def dN (f:Str) (v:V):List (Str×V)->List (Str×V)
 | []=>[(f,v)]
 | (g,x)::r=>if g=f then (g,v)::r else (g,x)::dN f v r
theorem aF (f g:Str) (v:V):∀ fs:List (Str×V),(dN f v fs).lookup g=if g=f then some v else fs.lookup g
 | []=>by
  show Ii g [(f,v)]=_
  by_cases h:g=f
  ·have hb:(g==f)=true:=beq_iff_eq.mpr h;simp only [Ii,hb,if_pos h]
  ·have hb:(g==f)=false:=beq_eq_false_iff_ne.mpr h;simp only [Ii,hb,if_neg h]
 | (k,x)::r=>by
  have ih:=aF f g v r;rw [show dN f v ((k,x)::r)=(if k=f then (k,v)::r else (k,x)::dN f v r) from rfl];by_cases hk:k=f
  ·rw [if_pos hk];by_cases h:g=k
   ·have hb:(g==k)=true:=beq_iff_eq.mpr h;simp only [Ii,hb,if_pos (h.trans hk)]
   ·have hb:(g==k)=false:=beq_eq_false_iff_ne.mpr h;simp only [Ii,hb,if_neg (fun e:g=f=>h (e.trans hk.symm))]
  ·rw [if_neg hk];by_cases h:g=k
   ·have hb:(g==k)=true:=beq_iff_eq.mpr h;simp only [Ii,hb,if_neg (fun e:g=f=>hk (h.symm.trans e))]
   ·have hb:(g==k)=false:=beq_eq_false_iff_ne.mpr h;simp only [Ii,hb];exact ih
theorem i6 (f:Str) (v:V):∀ fs:List (Str×V),f∈(dN f v fs).map (·.1)/\∀ g,g∈fs.map (·.1)->g∈(dN f v fs).map (·.1)
 | []=>⟨by simp [dN],fun g h=>by simp at h⟩
 | (k,x)::r=>by
  obtain ⟨i1,i2⟩:=i6 f v r;rw [show dN f v ((k,x)::r)=(if k=f then (k,v)::r else (k,x)::dN f v r) from rfl];by_cases hk:k=f
  ·rw [if_pos hk];subst hk;exact ⟨by simp,fun g h=>by simpa using h⟩
  ·rw [if_neg hk];refine ⟨?_,fun g h=>?_⟩
   ·rw [EW];exact Θ _ i1
   ·rw [EW] at h ⊢;rcases Bb.mp h with e | e
    ·exact Bb.mpr (.inl e)
    ·exact Θ _ (i2 g e)
theorem bf (f:Str) (v:V):∀ fs:List (Str×V),(dN f v fs).length<=fs.length+1
 | []=>by simp [dN]
 | (k,x)::r=>by
  have ih:=bf f v r;rw [show dN f v ((k,x)::r)=(if k=f then (k,v)::r else (k,x)::dN f v r) from rfl];by_cases hk:k=f
  ·rw [if_pos hk,Ba,Ba]; omega
  ·rw [if_neg hk,Ba,Ba]; omega
theorem iu.some_of {v:V} {o:Option Δ} (r:iu (some v) o):∃ u,o=some u/\aU v u:=by
 cases o with
 | none=>exact (show False from r).elim
 | some u=>exact ⟨u,rfl,r⟩
theorem iu.none_of {o:Option Δ} (r:iu none o):o=none:=by
 cases o with
 | none=>rfl
 | some u=>exact (show False from r).elim
theorem uQ {v:V} {u:Δ} (r:aU v u):W.handedIn u=true:=by
 cases v with
 | non=>cases (show u=Hw from r); rfl
 | bl b=>cases (show u=KI b from r); rfl
 | int i=>obtain ⟨t,e⟩:=(show ∃ t,u=IT i t from r); cases e; rfl
 | str x=>obtain ⟨t,e⟩:=(show ∃ t,u=Kq x t from r); cases e; rfl
 | byt b=>obtain ⟨t,e⟩:=(show ∃ t,u=Value.bytes b t from r); cases e; rfl
 | flt b=>obtain ⟨t,e⟩:=(show ∃ t,u=MG b t from r); cases e; rfl
 | ref a=>cases (show u=E3 a from r); rfl
 | ty n=>cases (show u=Fq n from r); rfl
section
variable {P:ER} {w:E2} {H H':Hp} {h h':FD} {a C dx:Ω} {fs fs':List (Str×V)}
theorem jC (hok:HOk P w H h) (e:H a=some (.ins C dx fs)):∃ mA,rf h a dx C mA/\(∀ f,iu (fs.lookup f) (mA f))/\Lu mA (fs.map (·.1))/\fs.length<=1000/\H dx=some (.own a):=by
 obtain ⟨d,z,ne,ob,mA,n,r,q⟩:=(show bg P w H h a (.ins C dx fs) from hok a _ e)
 exact ⟨mA,⟨ob,n,ne⟩,r,q,z,d⟩
end
structure Cls (K:W.Frag) (C:Ω):Prop where
 pg:W.plainGet K C Str.empty=true
 hd:W.hasDictIn K C=true
 po:W.plainOver K C=true
 sa:W.findIn K (.ref C) "__setattr__"=some (some (.builtin "object.__setattr__"))
theorem Cls.get {K:W.Frag} {C:Ω} (c:Cls K C) (f:Str):W.plainGet K C f=true:=c.pg
def cF (K:W.Frag) (C:Ω) (f:Str):Prop:=W.findIn K (.ref C) f=some none
theorem cF.taker {K:W.Frag} {C:Ω} {f:Str} (n:cF K C f):W.takerIn K C f=some none:=by
 unfold W.takerIn;rw [show W.findIn K (.ref C) f=some none from n];rfl
structure Con (K:W.Frag) (C:Ω) (f:Str) (v:V) (u:Δ):Prop where
 at_:W.findIn K (.ref C) f=some (some u)
 rel:aU v u
 get:W.specialIn K u "__get__"=some none
 cp:W.copiedNames.contains f=false
structure js (K:W.Frag) (C:Ω) (m:Str) (f:Ω):Prop where
 at_:W.findIn K (.ref C) m=some (some (.ref f))
 fn:W.isFn K (.ref f)=true
 kp:W.keepIn K (.ref f)=true
section
variable {X:Cx} {pins:List (Ω×HC)} {σ:St} {H:Hp} {s:A2} {a C dx:Ω} {fs:List (Str×V)} {f:Str} {v:V} {A:E5} {E:Δ->A2->Prop}
theorem rB {b:Bool} {Q:Δ->A2->Prop} (I:Inv X pins σ H s) (e:H a=some (.ins C dx fs)) (c:Cls X.K C) (n:cF X.K C f) (l:fs.lookup f=some v)
  (h:∀ u s',Inv X pins σ H s'->aU v u->Q u s'):EM (EZ X.prog X.w) A (getAttr (.ref a) f b) Q E s:=by
 obtain ⟨mA,O,r,_,_,_⟩:=jC I.hok e;obtain ⟨u,hu,ru⟩:=iu.some_of (v:=v) (o:=mA f) (by rw [<- l]; exact r f);exact zN I.kIn O (c.get f) c.hd n hu (uQ ru) (h u _ (I.tok _) ru)
theorem jW {m:Str} {g:Ω} {pl:KZ Bool} {Q:Δ×List Δ->A2->Prop} (I:Inv X pins σ H s) (e:H a=some (.ins C dx fs)) (c:Cls X.K C) (k:js X.K C m g) (l:fs.lookup m=none)
  (h:Q (.ref g,[.ref a]) s):EM (EZ X.prog X.w) A (Ld (.ref a) m pl) Q E s:=by
 obtain ⟨mA,O,r,_,_,_⟩:=jC I.hok e;have hn:mA m=none:=iu.none_of (by rw [<- l]; exact r m);exact xh I.kIn O (c.get m) k.at_ k.fn hn h
theorem sr {y:V} {u:Δ} {Q:Unit->A2->Prop} (I:Inv X pins σ H s) (e:H a=some (.ins C dx fs)) (c:Cls X.K C) (n:cF X.K C f) (hl:fs.length<1000) (ry:aU y u)
  (h:∀ s',Inv X pins σ (upd H a (.ins C dx (dN f y fs))) s'->Q () s'):EM (EZ X.prog X.w) A (setAttr (.ref a) f u) Q E s:=by
 obtain ⟨mA,O,r,wi,_,ho⟩:=jC I.hok e;have hz:(fs.map (·.1)).length<=sizeLine:=by rw [Aj,KU]; omega
 refine A4 I.kIn O c.sa c.po n.taker c.hd wi hz fun h' O' sb=>h _ ?_;have hd:∃ o,h'.get? dx=some o:=let ⟨o,_,_,e',_⟩:=O'.ns; ⟨o,e'⟩;refine I.write (x:=a) (e:=dx) (by rw [e]; exact HG) (.inr ho) (fun b q hb z=>(sb.2 b hb).trans z) hd ?_;refine ⟨by rw [aj O.ne]; exact ho,?_,O.ne,O'.obj,_,O'.ns,fun g=>?_,fun g hg=>?_⟩
 ·have:=bf f y fs; omega
 ·show iu ((dN f y fs).lookup g) (if g=f then some u else mA g)
  rw [aF];by_cases q:g=f
  ·rw [if_pos q,if_pos q]; exact ry
  ·rw [if_neg q,if_neg q]; exact r g
 ·by_cases q:g=f
  ·rw [q]; exact (i6 f y fs).1
  ·refine (i6 f y fs).2 g (wi g fun z=>hg ?_)
   show (if g=f then some u else mA g)=none
   rw [if_neg q]; exact z
theorem Inv.made (I:Inv X pins σ H s):Inv X pins σ (upd (upd H s.heap.objs.size (.own (s.heap.objs.size+1))) (s.heap.objs.size+1) (.ins C s.heap.objs.size []))
  { s with heap:=(s.heap.push W.emptyDict).push (W.instObj C s.heap.objs.size) }:=by
 have e1:(s.heap.push W.emptyDict).get? s.heap.objs.size=some W.emptyDict:=EB s.heap rfl
 have e2:((s.heap.push W.emptyDict).push (W.instObj C s.heap.objs.size)).get? (s.heap.objs.size+1)=some (W.instObj C s.heap.objs.size):=by
  have:=EB (s.heap.push W.emptyDict) (o:=W.instObj C s.heap.objs.size) rfl
  rwa [GF] at this
 have e3:(s.heap.push W.emptyDict).Ns s.heap.objs.size (fun _=>none):=⟨W.emptyDict,#[],_,e1,rfl,(fun e he=>absurd he (by simp)),fun _=>rfl⟩
 have I1:=I.laid (a:=s.heap.objs.size) (o:=.own (s.heap.objs.size+1)) (h':=s.heap.push W.emptyDict) (t':=s.toks) (fun b u q=>χ _ q) (A_ _) ⟨_,e1⟩;refine I1.laid (a:=s.heap.objs.size+1) (o:=.ins C s.heap.objs.size []) (t':=s.toks) (fun b u q=>χ _ q) (I_ (GF _ _)) ?_;have ne:s.heap.objs.size≠s.heap.objs.size+1:=EH (Ia _);refine ⟨by rw [aj ne,af],En _,ne,e2,fun _=>none,(Heap.Ns1.of_empty e3).at fun o q=>χ _ q,fun _=>HG,fun y hy=>absurd rfl hy⟩
theorem zE {prog:ER} {w:E2} {env:K8} {e:Fo} {f:Str} {pos:Il} {s:A2} {Q:Δ->A2->Prop} (hb:II e f env (Gf e env)=Gf e env)
  (h:EM (EZ prog w) A (Gf e env) (fun o s₁=>EM (EZ prog w) A (getAttr o f true) Q E s₁) E s):EM (EZ prog w) A (Gf (.Attribute e f pos) env) Q E s :=
 Attribute_any_ h (by rw [arm_eval_Attribute,hb])
end
def Dc (K:W.Frag) (ta:TE) (f:Str):TE:=fun σ H Q=>ta σ H fun x H1=>∃ a C dx fs v,x=.ref a/\H1 a=some (.ins C dx fs)/\Cls K C/\cF K C f/\fs.lookup f=some v/\Q v H1
def DO (K:W.Frag) (ta tv:TE) (f:Str):TS:=fun D σ H=>tv σ H fun y H1=>ta σ H1 fun x H2=>∃ a C dx fs,x=.ref a/\H2 a=some (.ins C dx fs)/\Cls K C/\cF K C f/\fs.length<1000 /\
 D.nx σ (upd H2 a (.ins C dx (dN f y fs)))
section
variable {X:Cx} {o e value:Fo} {f:Str} {pos pos' tpos:Il} {ta tv:TE}
theorem Cv (he:PE X e ta) (hb:II e f X.env (Gf e X.env)=Gf e X.env):PE X (.Attribute e f pos) (Dc X.K ta f):=by
 intro pins s σ H Q I h;refine zE hb (thn (he pins s σ H _ I h) fun u s1 ⟨x,H1,I1,rx,a,C,dx,fs,v,ex,ea,c,n,l,q⟩=>?_);subst ex;obtain rfl:u=E3 a:=rx
 exact rB I1 ea c n l fun u' s2 I2 ru=>⟨v,H1,I2,ru,q⟩
theorem kC (ha:PE X o ta) (hv:PE X value tv) (hs:Kg value (some (.Attribute o f pos')) pos.line X.env=pure false):PS X (.Assign [.Attribute o f pos'] value pos) (DO X.K ta tv f):=by
 intro pins s σ H D I h;refine plainObj_wpAny_Assign_Attribute (thn (hv pins s σ H _ I h) fun u s1 ⟨y,H1,I1,ry,q⟩=>thn (ha pins s1 σ H1 _ I1 q) fun ov s2 ⟨x,H2,I2,rx,a,C,dx,fs,ex,ea,c,n,l,q2⟩=>?_) hs;subst ex;obtain rfl:ov=E3 a:=rx
 exact sr I2 ea c n l ry fun s3 I3=>⟨σ,_,I3,q2⟩
end
section
variable {X:Cx} {pins:List (Ω×HC)} {σ:St} {H:Hp} {s:A2} {A:E5} {E:Δ->A2->Prop} {Q:Δ->A2->Prop} {c:Δ} {b:Bool}
inductive gL (K:W.Frag) (H:Hp):V->Δ->Prop where
  | non : gL K H .non (.type "NoneType")
  | bl (x : Bool) : gL K H (.bl x) (.type "bool")
  | int (i : Int) : gL K H (.int i) (.type "int")
  | str (x : Str) : gL K H (.str x) (.type "str")
  | flt (x : UInt64) : gL K H (.flt x) (.type "float")
  | lst {a : Ω} {xs : List V} (e : H a = some (.lst xs)) : gL K H (.ref a) (.type "list")
  | frz {a : Ω} {o : HC} {xs : List V} (e : H a = some (.frz o (.lst xs))) : gL K H (.ref a) (.type "list")
  | tup {a : Ω} {xs : List V} (e : H a = some (.tup xs)) : gL K H (.ref a) (.type "tuple")
  | dK {a : Ω} {kvs : List (Key × V)} (e : H a = some (.dK kvs)) : gL K H (.ref a) (.type "dict")
  | dT {a : Ω} {kvs : List (List Key × V)} (e : H a = some (.dT kvs)) : gL K H (.ref a) (.type "dict")
  | ins {a C dx : Ω} {fs : List (Str × V)} (e : H a = some (.ins C dx fs)) (cl : Cls K C) (ha : W.findIn K (.ref C) "__class__" = some (some (.builtin "object.__class__")))
      (hn:W.specialIn K (.builtin "object.__class__") "__get__"=some (some (.builtin "getset_descriptor.__get__"))) (htk:W.takesIn K (.builtin "object.__class__")=some true)
      (hm:W.mroIn K C (.type "object")=some true):gL K H (.ref a) (.ref C)
theorem uT {x:V} {u t:Δ} (I:Inv X pins σ H s) (rx:aU x u) (ty:gL X.K H x t) (e:W.kitOne X.K t c=some b) (h:∀ tk,Q (.bool b) { s with toks:=tk }) :
  EM (EZ X.prog X.w) A (call (.builtin "isinstance") [u,c]) Q E s:=by
 cases ty with
 | non=>cases (show u=Hw from rx); exact W.kia_one W.kitx_none I.kIn HG e (fun z=>nomatch z) h
 | bl y=>cases (show u=KI y from rx); exact W.kia_one W.kitx_bool I.kIn HG e (fun z=>nomatch z) h
 | int i=>obtain ⟨t,q⟩:=(show ∃ t,u=IT i t from rx); cases q; exact W.kia_one W.kitx_int I.kIn HG e (fun z=>nomatch z) h
 | str y=>obtain ⟨t,q⟩:=(show ∃ t,u=Kq y t from rx); cases q; exact W.kia_one W.kitx_str I.kIn HG e (fun z=>nomatch z) h
 | flt y=>obtain ⟨t,q⟩:=(show ∃ t,u=MG y t from rx); cases q; exact W.kia_one W.kitx_float I.kIn HG e (fun z=>nomatch z) h
 | @lst a xs ea =>
  cases (show u=E3 a from rx)
  obtain ⟨_,_,n,_,h1⟩:=(show bg X.prog X.w H s.heap a (.lst xs) from I.hok a _ ea)
  exact W.kia_one W.kitx_list I.kIn ⟨_,h1,rfl⟩ e (fun z=>nomatch z) h
 | @frz a ob xs ea =>
  cases (show u=E3 a from rx)
  obtain ⟨_,_,_,n,_,h1⟩:=(show bg X.prog X.w H s.heap a (.frz ob (.lst xs)) from I.hok a _ ea)
  exact W.kia_one W.kitx_list I.kIn ⟨_,h1,rfl⟩ e (fun z=>nomatch z) h
 | @tup a xs ea =>
  cases (show u=E3 a from rx)
  obtain ⟨_,_,_,p⟩:=(show bg X.prog X.w H s.heap a (.tup xs) from I.hok a _ ea)
  obtain ⟨o,h1,h2,_⟩:=p;exact W.kia_one W.kitx_tuple I.kIn ⟨o,h1,h2⟩ e (fun z=>nomatch z) h
 | @dK a kvs ea =>
  cases (show u=E3 a from rx)
  obtain ⟨_,_,vs,_,p⟩:=(show bg X.prog X.w H s.heap a (.dK kvs) from I.hok a _ ea)
  obtain ⟨o,es,ep,h1,h2,_⟩:=p;exact W.kia_one W.kitx_dict I.kIn ⟨o,h1,h2.1⟩ e (fun z=>nomatch z) h
 | @dT a kvs ea =>
  cases (show u=E3 a from rx)
  obtain ⟨_,_,xs,_,o,es,ep,h1,h2,_⟩:=(show bg X.prog X.w H s.heap a (.dT kvs) from I.hok a _ ea)
  exact W.kia_one W.kitx_dict I.kIn ⟨o,h1,h2.1⟩ e (fun z=>nomatch z) h
 | @ins a C dx fs ea cl ha hn htk hm =>
  cases (show u=E3 a from rx)
  obtain ⟨mA,O,_⟩:=jC I.hok ea;obtain ⟨od,J,_⟩:=O.look;exact W.kia_one (W.kitx_own (cl.get _) cl.hd ha hn htk hm) I.kIn J e (fun z=>nomatch z) h
end
structure bT (k:Nat) (A:E5):Prop where
 hd:A.handled=none
 dp:A.depth+3*k+5<recursionLimit
 un:A.units+16*k+200<HH
theorem bT.mono {j k:Nat} {A:E5} (r:bT k A) (h:j<=k):bT j A:=⟨r.hd,by have:=r.dp; omega,by have:=r.un; omega⟩
theorem bT.deeper {k:Nat} {A:E5} (r:bT (k+1) A) (env:K8):bT k (A.deeper env) :=
 ⟨r.hd,by have:=r.dp; show A.depth+1+3*k+5<_; omega,by have:=r.un; show A.units+3+16*k+200<_; omega⟩
theorem bT.in1 {k:Nat} {A:E5} (r:bT (k+1) A):bT k A.in1 :=
 ⟨r.hd,by have:=r.dp; show A.depth+3*k+5<_; omega,by have:=r.un; show A.units+1+16*k+200<_; omega⟩
theorem rE {A:E5} {C:Ω} {us:List Δ} {kw:List (Str×Δ)}:(A.under (.builtin "type.__call__" ⟨.ref C::us,kw⟩)).depth=A.depth+1:=by
 first | rfl | simp [Lr,Code.weight,Code.isCreation,Code.isGuard,Code.isCaller,Code.frames,MA,guardIds]
theorem rF {A:E5} {C:Ω} {us:List Δ} {kw:List (Str×Δ)}:(A.under (.builtin "type.__call__" ⟨.ref C::us,kw⟩)).units=A.units+1:=by
 first | rfl | simp [Lr,Code.cUnits,Code.frames,MA]
theorem bT.make {k:Nat} {A:E5} (r:bT (k+1) A) (C:Ω) (us:List Δ) (kw:List (Str×Δ)):bT k (A.under (.builtin "type.__call__" ⟨.ref C::us,kw⟩)) :=
 ⟨r.hd,by have:=r.dp; rw [rE]; omega,by have:=r.un; rw [rF]; omega⟩
theorem bT.depth {k:Nat} {A:E5} (r:bT k A):A.depth<recursionLimit:=by have:=r.dp; omega
theorem bT.units {k:Nat} {A:E5} (r:bT k A):A.units+64<cLine:=by have:=r.un; omega
def Dd:TA:=fun _ H Q=>Q [] H
def BJ (ta:TE) (tr:TA):TA:=fun σ H Q=>ta σ H fun x H1=>tr σ H1 fun xs H2=>Q (x::xs) H2
section
variable {X:Cx} {e:Fo} {es:List Fo} {te:TE} {t:TA} {pos:Il}
theorem ae:PA X [] Dd:=fun _ _ _ _ H Q I h=>IJ ⟨[],H,I,.nil,h⟩
theorem aa (ha:PE X e te) (hr:PA X es t) (hs:Ew (e::es) X.env=(false,Gf e X.env)::Ew es X.env:=by rfl):PA X (e::es) (BJ te t):=by
 intro pos pins s σ H Q I h;rw [hs]
 show EM _ _ (spliced ((false,Gf e X.env)::HB pos (Ew es X.env))) _ _ s
 refine HV (thn (ha pins s σ H _ I h) fun u s1 ⟨x,H1,I1,r1,q1⟩=>?_);exact thn (hr pos pins s1 σ H1 _ I1 q1) fun us s2 ⟨xs,H2,I2,r2,q2⟩=>⟨x::xs,H2,I2,.cons r1 r2,q2⟩
def D0 (t:TA):TE:=fun σ H Q=>t σ H fun xs H1=>xs.length<=EF/\∀ p,H1 p=none->Q (.ref p) (upd H1 p (.tup xs))
def DW (t:TA):TE:=fun σ H Q=>t σ H fun xs H1=>xs.length<=EF/\∀ p,H1 p=none->Q (.ref p) (upd H1 p (.lst xs))
theorem bw {x1} (h:PA X es t):PE X (.Tuple es x1 pos) (D0 t):=by
 intro pins s σ H Q I hq;refine wpAny_Tuple_spliced (thn (h pos pins s σ H _ I hq) fun us s1 ⟨xs,H1,I1,r,z,q⟩=>⟨by rw [<- r.length]; exact z,?_⟩);have hf:H1 s1.heap.objs.size=none:=I1.hok.fresh (A_ _);refine ⟨.ref s1.heap.objs.size,upd H1 s1.heap.objs.size (.tup xs),I1.laid (t':=s1.toks) (fun b u e=>χ _ e) (A_ _) ?_,rfl,q _ hf⟩;exact ⟨z,us,r,⟨_,EB _ rfl,rfl,_,rfl⟩⟩
theorem cw (h:PA X es t):PE X (.List es pos) (DW t):=by
 intro pins s σ H Q I hq;refine wpAny_List_spliced (thn (h pos pins s σ H _ I hq) fun us s1 ⟨xs,H1,I1,r,z,q⟩=>⟨by rw [<- r.length]; exact z,?_⟩);have hf:H1 s1.heap.objs.size=none:=I1.hok.fresh (A_ _);refine ⟨.ref s1.heap.objs.size,upd H1 s1.heap.objs.size (.lst xs),I1.laid (t':=s1.toks) (fun b u e=>χ _ e) (A_ _) ?_,rfl,q _ hf⟩;exact ⟨z,us,0,r,EB _ rfl⟩
end
noncomputable abbrev Sp:=List V->Hp->VK->XK->Prop
noncomputable abbrev CXT:=List K8->Hp->A2->XK->Δ->A2->Prop
structure qZ (P:ER) (w:E2) (K:W.Frag) (mg:Str->Option Δ) (base:FD) (A:E5) (outer:List K8) (s:A2) (H:Hp):Prop where
 frames:A.frames=some outer
 mod:Mod K mg base
 bs:∀ b o,base.get? b=some o->s.heap.get? b=some o/\H b=none
 bsz:base.objs.size<=s.heap.objs.size
 funs:s.heap.FunFrames base outer
 frf:∀ b∈frs outer,H b=none
 hok:HOk P w H s.heap
 bare:JK s.gens
def CE (outer:List K8) (P:ER) (w:E2) (H:Hp) (s:A2) (Q:VK) (u:Δ) (s':A2):Prop :=
 ∃ v H',s'.os=s.os/\JK s'.gens/\Un (frs outer) [] H H' s.heap s'.heap/\HOk P w H' s'.heap/\aU v u/\Q v H'
def CR (CX:CXT) (outer:List K8) (P:ER) (w:E2) (H:Hp) (s:A2) (Q:VK) (E:XK) (r:Result) (s':A2):Prop :=
 match r with
 | .ok (.ret u)=>CE outer P w H s Q u s'
 | .ok _=>False
 | .error e=>CX outer H s E e s'
structure aP (P:ER) (w:E2) (K:W.Frag) (mg:Str->Option Δ) (base:FD) (CX:CXT) (k:Nat) (f:Ω) (fd:GB) (ps:List Str) (sp:Sp):Prop where
 len:∀ vs H Q E,sp vs H Q E->vs.length=ps.length
 run:∀ (A:E5) (outer:List K8) (s:A2) (H:Hp) (args:Args) (us:List Δ) (vs:List V) (Q:VK) (E:XK),bT k A->qZ P w K mg base A outer s H->MB s fd args (ps.zip us)->Vals vs us->sp vs H Q E ->
  IY (EZ P w) A (.call (.ref f) args) (CR CX outer P w H s Q E) s
theorem qZ.make {P:ER} {w:E2} {K:W.Frag} {mg:Str->Option Δ} {base:FD} {A:E5} {outer:List K8} {s:A2} {H:Hp} (e:qZ P w K mg base A outer s H) (C:Ω) (us:List Δ) (kw:List (Str×Δ)) :
  qZ P w K mg base (A.under (.builtin "type.__call__" ⟨.ref C::us,kw⟩)) outer s H:=⟨by first | exact e.frames | (simpa [Lr,Code.envs,MA,pushEnvs] using e.frames),e.mod,e.bs,e.bsz,e.funs,e.frf,e.hok,e.bare⟩
section
variable {X:Cx} {pins:List (Ω×HC)} {σ:St} {H:Hp} {s s':A2}
theorem Inv.env0 (I:Inv X pins σ H s):qZ X.prog X.w X.K X.mg X.base X.A X.stack s H :=
 ⟨I.ok.frames,I.ok.mod,I.bs,FA I.ok.bsz I.sz,I.stack,I.stkFree,I.hok,I.bare⟩
theorem Inv.after {Q:VK} {u:Δ} (I:Inv X pins σ H s) (h:CE X.stack X.prog X.w H s Q u s'):EP X pins σ Q u s':=by
 obtain ⟨v,H',os,bare,un,hok,r,q⟩:=h;obtain ⟨hh,g,d,t,os'⟩:=s';obtain rfl:os'=s.os:=os
 exact ⟨v,H',I.call (h':=hh) (g':=g) (d':=d) (t':=t) (ch:=[]) un hok bare (fun b z=>absurd z (by simp)),r,q⟩
end
def zg (sp:Sp) (dvs:List V) (E:XK) (t:TA):TE:=fun σ H Q=>t σ H fun vs H1=>sp (vs++dvs) H1 Q E
def zj (C:Ω) (m:Str) (sp:Sp) (dvs:List V) (E:XK) (ta:TE) (t:TA):TE:=fun σ H Q=>ta σ H fun x H1=>∃ a dx fs,x=.ref a/\H1 a=some (.ins C dx fs)/\fs.lookup m=none /\
 t σ H1 fun vs H2=>sp (x::(vs++dvs)) H2 Q E
def BM (C:Ω) (sp:Sp) (dvs:List V) (E:XK) (t:TA):TE:=fun σ H Q=>t σ H fun vs H1=>∀ x dx,H1 x=none->H1 dx=none->dx≠x ->
 sp (.ref x::(vs++dvs)) (upd (upd H1 dx (.own x)) x (.ins C dx [])) (fun v H2=>v=.non/\Q (.ref x) H2) E
def aH (K:W.Frag) (fd:GB) (ps:List Str) (ds:List Δ):Prop :=
 ∀ (s:A2) (us:List Δ),K.In s.heap->(us++ds).length=ps.length->MB s fd ⟨us,[]⟩ (ps.zip (us++ds))
theorem aH.all {K:W.Frag} {fd:GB} {ps:List Str} (h:∀ us:List Δ,us.length=ps.length->J4 fd ⟨us,[]⟩=pure (ps.zip us)):aH K fd ps []:=fun s us _ hl=>by
 rw [ET] at hl ⊢;exact .of_eq (h us hl)
def ft (CX:CXT) (X:Cx) (E:XK):Prop:=∀ (pins:List (Ω×HC)) (σ:St) (H:Hp) (s:A2) (e:Δ) (s':A2),Inv X pins σ H s->CX X.stack H s E e s'->X.xe e s'
section
variable {X:Cx} {CX:CXT} {k:Nat} {f C:Ω} {fd:GB} {ps:List Str} {sp:Sp} {dvs:List V} {ds:List Δ} {E:XK} {x m:Str} {p pos apos:Il} {e o:Fo} {es:List Fo} {ta:TE} {t:TA}
theorem nZ {pins:List (Ω×HC)} {σ:St} {H:Hp} {s:A2} {Q:VK} {us:List Δ} {vs:List V} (F:aP X.prog X.w X.K X.mg X.base CX k f fd ps sp) (hr:bT k X.A) (hb:aH X.K fd ps ds) (hd:Vals dvs ds) (hx:ft CX X E)
  (I:Inv X pins σ H s) (r:Vals vs us) (h:sp (vs++dvs) H Q E):EM (EZ X.prog X.w) X.A (call (.ref f) us) (EP X pins σ Q) X.xe s:=by
 have r2:Vals (vs++dvs) (us++ds):=r.append hd;have hl:(us++ds).length=ps.length:=by rw [<- r2.length]; exact F.len _ _ _ _ h
 refine wpAny_call (IX (F.run X.A X.stack s H ⟨us,[]⟩ (us++ds) (vs++dvs) Q E hr I.env0 (hb s us I.kIn hl) r2 h) fun r s' hq=>?_)
 cases r with
 | error e=>exact hx pins σ H s e s' I hq
 | ok fl =>
  cases fl with
  | ret u => exact I.after hq
  | next => exact GJ hq
  | brk => exact GJ hq
  | cont => exact GJ hq
theorem ao (F:aP X.prog X.w X.K X.mg X.base CX k f fd ps sp) (hr:bT k X.A) (hg:Gl X x) (hm:X.mg x=some (.ref f)) (hk:W.keepIn X.K (.ref f)=true) (hb:aH X.K fd ps ds) (hd:Vals dvs ds) (hx:ft CX X E)
  (ha:PA X (e::es) t) (hdb:(x==("__debug__":Str))=false:=by decide) (he:Ew (e::es) X.env=(false,Gf e X.env)::Ew es X.env:=by rfl) (hpl:(HB pos (Ew es X.env)).any (·.1)=false:=by rfl) :
  PE X (.Call (.Name x p) (e::es) [] pos) (zg sp dvs E t):=by
 intro pins s σ H Q I h;refine G_ (iG I hg hm ?_ hdb);refine W.callWith_K (h₀:=X.base) I.ok.mod.kin hk (thn (ha pos pins s σ H _ I h) fun us s1 ⟨vs,H1,I1,r,q⟩=>⟨I1.kIn,?_⟩) he hpl;exact nZ F hr hb hd hx I1 r q
theorem iN {pl:KZ Bool} (he:PE X o ta) (c:Cls X.K C) (hm:js X.K C m f) (F:aP X.prog X.w X.K X.mg X.base CX k f fd ps sp) (hr:bT k X.A) (hb:aH X.K fd ps ds) (hd:Vals dvs ds) (hx:ft CX X E) (ha:PA X (e::es) t)
  (hst:Ew (e::es) X.env=(false,Gf e X.env)::Ew es X.env:=by rfl) (hpl:(HB pos (Ew es X.env)).any (·.1)=false:=by rfl)
  (ht:Gf (.Call (.Attribute o m apos) (e::es) [] pos) X.env=(do
   let ov <- Gf o X.env
   standAt apos.atName
   let (f,first) <- Lz [ov] (Ld ov m pl)
   callWith pos f first (HB pos (Ew (e::es) X.env)) (LI pos (Jk [] X.env))):=by rfl) :
  PE X (.Call (.Attribute o m apos) (e::es) [] pos) (zj C m sp dvs E ta t):=by
 intro pins s σ H Q I h;refine W.methodCall_KW (pl:=pl) (thn (he pins s σ H _ I h) fun u s1 ⟨x,H1,I1,rx,a,dx,fs,ex,ea,l,q⟩=>?_) ht;subst ex;obtain rfl:u=E3 a:=rx
 refine jW I1 ea c hm l ?_;refine W.callWith_K (first:=[.ref a]) (h₀:=X.base) I.ok.mod.kin hm.kp (thn (ha pos pins s1 σ H1 _ I1 q) fun us s2 ⟨vs,H2,I2,r,q2⟩=>⟨I2.kIn,?_⟩) hst hpl;exact nZ (us:=.ref a::us) (vs:=.ref a::vs) F hr hb hd hx I2 (.cons rfl r) q2
theorem aT {pl:KZ Bool} (he:PE X o ta) (c:Cls X.K C) (hm:js X.K C m f) (F:aP X.prog X.w X.K X.mg X.base CX k f fd ps sp) (hr:bT k X.A) (hb:aH X.K fd ps ds) (hd:Vals dvs ds) (hx:ft CX X E)
  (ht:Gf (.Call (.Attribute o m apos) [] [] pos) X.env=(do
   let ov <- Gf o X.env
   standAt apos.atName
   let (f,first) <- Lz [ov] (Ld ov m pl)
   callWith pos f first (HB pos (Ew [] X.env)) (LI pos (Jk [] X.env))):=by rfl) :
  PE X (.Call (.Attribute o m apos) [] [] pos) (zj C m sp dvs E ta Dd):=by
 intro pins s σ H Q I h;refine W.methodCall_KW (pl:=pl) (thn (he pins s σ H _ I h) fun u s1 ⟨x,H1,I1,rx,a,dx,fs,ex,ea,l,q⟩=>?_) ht;subst ex;obtain rfl:u=E3 a:=rx
 refine jW I1 ea c hm l ?_;exact W.callWith_K0 (first:=[.ref a]) I1.kIn hm.kp (nZ (us:=[.ref a]) (vs:=[.ref a]) F hr hb hd hx I1 (.cons rfl .nil) q)
structure Mk (K:W.Frag) (C f:Ω):Prop where
 makes:W.makesIn K C=true
 init:W.findIn K (.ref C) "__init__"=some (some (.ref f))
 fn:W.isFn K (.ref f)=true
 kp:W.keepIn K (.ref C)=true
theorem yN {pins:List (Ω×HC)} {σ:St} {H:Hp} {s:A2} {Q:VK} {us:List Δ} {vs:List V} (M:Mk X.K C f) (F:aP X.prog X.w X.K X.mg X.base CX k f fd ps sp) (hr:bT (k+1) X.A) (hb:aH X.K fd ps ds) (hd:Vals dvs ds)
  (hx:ft CX X E) (I:Inv X pins σ H s) (r:Vals vs us)
  (h:∀ x dx,H x=none->H dx=none->dx≠x->sp (.ref x::(vs++dvs)) (upd (upd H dx (.own x)) x (.ins C dx [])) (fun v H2=>v=.non/\Q (.ref x) H2) E) :
  EM (EZ X.prog X.w) X.A (call (.ref C) us) (EP X pins σ Q) X.xe s:=by
 have hq:=h (s.heap.objs.size+1) s.heap.objs.size (I.hok.fresh (G3 _)) (I.hok.fresh (A_ _)) (EH (Ia _));have I2:=Inv.made (C:=C) I;have r2:Vals (V.ref (s.heap.objs.size+1)::(vs++dvs)) (E3 (s.heap.objs.size+1)::(us++ds)):=.cons rfl (r.append hd)
 have hl:(E3 (s.heap.objs.size+1)::us++ds).length=ps.length:=by
  have e:=r2.length;rw [F.len _ _ _ _ hq] at e;exact e.symm
 refine wpAny_call (xE (f:=f) I.kIn M.makes M.init (beq_iff_eq.mp M.fn) (IX (F.run _ X.stack _ _ ⟨E3 (s.heap.objs.size+1)::us,[]⟩ (E3 (s.heap.objs.size+1)::(us++ds)) _ _ E (hr.make C us [])
  (I2.env0.make C us []) (hb _ (E3 (s.heap.objs.size+1)::us) I2.kIn hl) r2 hq) fun r s' hq'=>?_))
 cases r with
 | error e=>exact hx pins σ _ _ e s' I2 hq'
 | ok fl =>
  cases fl with
  | ret u =>
   obtain ⟨v,H',I3,rv,ev,q3⟩:=I2.after hq';subst ev;exact ⟨rv,⟨V.ref (s.heap.objs.size+1),H',I3,rfl,q3⟩⟩
  | next => exact GJ hq'
  | brk => exact GJ hq'
  | cont => exact GJ hq'
theorem jE (M:Mk X.K C f) (F:aP X.prog X.w X.K X.mg X.base CX k f fd ps sp) (hr:bT (k+1) X.A) (hg:Gl X x) (hm:X.mg x=some (.ref C)) (hb:aH X.K fd ps ds) (hd:Vals dvs ds) (hx:ft CX X E)
  (ha:PA X (e::es) t) (hdb:(x==("__debug__":Str))=false:=by decide) (he:Ew (e::es) X.env=(false,Gf e X.env)::Ew es X.env:=by rfl) (hpl:(HB pos (Ew es X.env)).any (·.1)=false:=by rfl) :
  PE X (.Call (.Name x p) (e::es) [] pos) (BM C sp dvs E t):=by
 intro pins s σ H Q I h;refine G_ (iG I hg hm ?_ hdb);refine W.callWith_K (h₀:=X.base) I.ok.mod.kin M.kp (thn (ha pos pins s σ H _ I h) fun us s1 ⟨vs,H1,I1,r,q⟩=>⟨I1.kIn,?_⟩) he hpl;exact yN M F hr hb hd hx I1 r q
end
structure aw (N P:List Str) (sc:Jl):Prop where
 kind:sc.kind=.function
 co:sc.isCoroutine=false
 gen:sc.isGenerator=false
 nd:N.Nodup
 pre:N.take P.length=P
 par:∀ x∈P,sc.names.lookup x=some .local\/sc.names.lookup x=some .cell
 nofree:∀ y∈sc.names,y.2≠.free
theorem mf {Ga:Str->Option JR} {x:Str}:∀ {binds:List (Str×Δ)} {m:Str->Option Δ},(∀ v,(x,v)∉binds)->Me Ga binds m x=m x
 | [],_,_=>rfl
 | (n,v)::r,m,h=>by
  unfold Me;rw [mf fun w hw=>h w (Θ _ hw)]
  split
  ·have:x≠n:=by rintro rfl; exact h v θ
   simp [this]
  ·rfl
theorem md {Ga:Str->Option JR} {x:Str}:∀ {binds:List (Str×Δ)} {m:Str->Option Δ},(∀ v,(x,v)∉binds)->Mf Ga binds m x=m x
 | [],_,_=>rfl
 | (n,v)::r,m,h=>by
  unfold Mf;rw [md fun w hw=>h w (Θ _ hw)]
  split
  ·rfl
  ·have:x≠n:=by rintro rfl; exact h v θ
   simp [this]
theorem me {Ga:Str->Option JR} {x:Str} {v:Δ}:∀ {P:List Str} {vs:List Δ} {i:Nat} {m:Str->Option Δ},P.Nodup->P[i]?=some x->vs[i]?=some v->Ga x=some .local ->
  Me Ga (P.zip vs) m x=some v
 | [],_,_,_,_,h,_,_=>by simp at h
 | _::_,[],_,_,_,_,h,_=>by simp at h
 | p::P,w::vs,0,m,nd,h1,h2,hk=>by
  simp at h1 h2; subst h1; subst h2
  show Me Ga ((p,w)::P.zip vs) m p=_
  unfold Me;rw [mf fun v hv=>(EO.mp nd).1 (LA hv).1,if_pos hk];simp
 | p::P,w::vs,i+1,m,nd,h1,h2,hk=>by
  show Me Ga ((p,w)::P.zip vs) m x=_
  unfold Me;exact me (i:=i) (EO.mp nd).2 (by simpa using h1) (by simpa using h2) hk
theorem lZ {Ga:Str->Option JR} {x:Str} {v:Δ}:∀ {P:List Str} {vs:List Δ} {i:Nat} {m:Str->Option Δ},P.Nodup->P[i]?=some x->vs[i]?=some v->Ga x≠some .local ->
  Mf Ga (P.zip vs) m x=some v
 | [],_,_,_,_,h,_,_=>by simp at h
 | _::_,[],_,_,_,_,h,_=>by simp at h
 | p::P,w::vs,0,m,nd,h1,h2,hk=>by
  simp at h1 h2; subst h1; subst h2
  show Mf Ga ((p,w)::P.zip vs) m p=_
  unfold Mf;rw [md fun v hv=>(EO.mp nd).1 (LA hv).1,if_neg hk];simp
 | p::P,w::vs,i+1,m,nd,h1,h2,hk=>by
  show Mf Ga ((p,w)::P.zip vs) m x=_
  unfold Mf;exact lZ (i:=i) (EO.mp nd).2 (by simpa using h1) (by simpa using h2) hk
noncomputable def start (N:List Str) (vs:List V):St:=vs.map some++List.replicate (N.length - vs.length) none
noncomputable def eW (CX:CXT) (P:ER) (w:E2) (K:W.Frag) (mg:Str->Option Δ) (base:FD) (N:List Str) (qual:Str) (scope:Jl) (f:Ω) (cd:Δ) (A:E5) (outer:List K8) (s:A2) (H:Hp) (E:XK):Cx where
 prog:=P
 w:=w
 K:=K
 mg:=mg
 base:=base
 A:=A.deeper (Ju qual scope s.heap.objs.size f cd)
 N:=N
 s₀:=s
 H₀:=H
 env:=Ju qual scope s.heap.objs.size f cd
 outer:=outer
 stack:=Ju qual scope s.heap.objs.size f cd::outer
 ex:=[]
 calm:=true
 fn:=fun _=>true
 pn:=[]
 xe:=fun e s'=>EM (EZ P w) (A.deeper (Ju qual scope s.heap.objs.size f cd)) (leaving (Ju qual scope s.heap.objs.size f cd) e) (fun _ s''=>CX outer H s E e s'') (fun e' s''=>CX outer H s E e' s'') s'
theorem pA {sc:Jl} {n:Nat} {x:Str} (h:sc.names.lookup x=some .cell):∃ c,(cellsFrom n sc.names []).lookup x=some c:=by
 have q:=W.cellsFrom_some sc.names n [] (.inl h);exact LQ.mp q
theorem uS {CX:CXT} {P:ER} {w:E2} {K:W.Frag} {mg:Str->Option Δ} {base:FD} {N ps:List Str} {qual:Str} {scope:Jl} {f:Ω} {cd:Δ} {A:E5} {outer:List K8} {s s1:A2} {H:Hp} {E:XK} {us:List Δ} {vs:List V}
    (S:aw N ps scope) (hd:A.handled=none) (e0:qZ P w K mg base A outer s H) (hl:vs.length=ps.length) (r:Vals vs us)
    (x:InCallC s s.heap.objs.size (Me (Ju qual scope s.heap.objs.size f cd).kindOf (ps.zip us) fun _=>none) (cellsFrom (s.heap.objs.size+1) scope.names []) (Mf (Ju qual scope s.heap.objs.size f cd).kindOf (ps.zip us) fun _=>none) s1) :
    Inv (eW CX P w K mg base N qual scope f cd A outer s H E) [] (start N vs) H s1:=by
  have hpl:ps.length<=N.length:=by have:=congrArg Ij S.pre; rw [E7] at this; omega
  obtain ⟨h1,tk,rfl,hk⟩:=x.done;have noA:∀ b:Ω,b∉(eW CX P w K mg base N qual scope f cd A outer s H E).ex:=fun b z=>absurd (show b∈([]:List Ω) from z) (by simp);refine ⟨⟨e0.mod,S.kind,rfl,rfl,A_ _,fun y z c h1 h2=>?_,fun y hy=>?_,fun y c _ h=>?_,fun _=>hd,Around.frames_deeper e0.frames,.inr ⟨rfl,rfl⟩,fun b z=>absurd z (noA b),e0.bs,e0.bsz,fun b _ _=>noA b,fun b z=>absurd z (noA b),e0.funs,e0.frf⟩,
    rfl,e0.bare,Un.kept hk,⟨_,x.toInCall.ns,fun i y v h1 h2 h3=>?_⟩,fun y c h=>⟨_,x.cell y c h⟩,e0.hok.fresh (A_ _),fun y c h=>?_,fun p hp=>absurd (show p∈([]:List (Ω×HC)) from hp) (by simp),e0.hok.kept hk,?_⟩
  · exact name_of_addr x.apart (H_ h1) (H_ h2)
  · have hy:scope.names.lookup y=some .cell\/scope.names.lookup y=some .free:=hy
    rcases hy with hy | hy
    · exact pA hy
    · exact absurd rfl (S.nofree _ (H_ hy))
  · exact Kv (x.above y c (H_ h))
  · have hi:i<vs.length:=by
      unfold start at h2;by_cases hi:i<vs.length
      · exact hi
      · rw [FQ (by simpa using hi)] at h2
        rw [List.getElem?_replicate] at h2
        split at h2<;>cases h2
    have ha:vs[i]?=some v:=by
      unfold start at h2;rw [GI (by simpa using hi),EX] at h2
      cases e:vs[i]? with
      | none=>rw [e] at h2; cases h2
      | some a=>rw [e] at h2; cases h2; rfl
    obtain ⟨u,hu,rv⟩:=r.get ha
    have hp:ps[i]?=some y:=by
      rw [<- S.pre,Gi (by omega)]; exact h1
    have ndP:ps.Nodup:=by rw [<- S.pre]; exact S.nd.sublist (FW _ _)
    refine ⟨u,rv,?_⟩;rcases S.par y (ES hp) with k | k
    · exact .inl ⟨k,me ndP hp hu k⟩
    · obtain ⟨c,e⟩:=pA (n:=s.heap.objs.size+1) k
      refine .inr ⟨.inl k,c,e,?_⟩;have q:=x.cell y c e;rw [lZ ndP hp hu (by show scope.names.lookup y≠_; rw [k]; decide)] at q;exact q
  · exact e0.hok.fresh (Kv (x.above y c (H_ h)))
  · unfold start
    show _=N.length
    rw [Bd,Aj,List.length_replicate];omega
theorem Bq {CX:CXT} {P:ER} {w:E2} {K:W.Frag} {mg:Str->Option Δ} {base:FD} {k:Nat} {f:Ω} {name qual:Str} {params:Arguments} {body:List Jd} {scope:Jl} {dV kV doc pm cdv ct oc:Δ} {an od:Option Ω}
  {osl:Array (Option Δ)} {N ps:List Str} {sp:Sp} (lk:K.lookup f=some ⟨oc,od,.func (W.fnOf name qual params body scope dV kV doc pm an cdv ct),osl⟩) (hcd:W.codeIn K cdv qual=true) (S:aw N ps scope)
  (len:∀ vs H Q E,sp vs H Q E->vs.length=ps.length)
  (hbody:∀ (A:E5) (outer:List K8) (s:A2) (H:Hp) (vs:List V) (Q:VK) (E:XK),bT k (A.deeper (Ju qual scope s.heap.objs.size f cdv))->sp vs H Q E ->
   ∃ t,PSs (eW CX P w K mg base N qual scope f cdv A outer s H E) body t/\t { nx:=fun _ H'=>Q .non H',rt:=Q } (start N vs) H) :
  aP P w K mg base CX (k+1) f (W.fnOf name qual params body scope dV kV doc pm an cdv ct) ps sp:=by
 refine ⟨len,fun A outer s H args us vs Q E hr e0 hb r hsp=>?_⟩;have hl:=len _ _ _ _ hsp;have KX:K.In s.heap:=e0.mod.kin.keeps fun b o e=>(e0.bs b o e).1;have lim:s.heap.NoLimit:=e0.mod.nolimit.keeps fun b o e=>(e0.bs b o e).1;have hkind:∀ y∈ps.zip us,scope.names.lookup y.1=some .local\/(scope.names.lookup y.1=some .cell/\((cellsFrom (s.heap.objs.size+1) scope.names []).lookup y.1).isSome=true):=fun ⟨n,v⟩ hy=>by
  rcases S.par n (LA hy).1 with q | q
  ·exact .inl q
  ·exact .inr ⟨q,W.cellsFrom_some _ _ _ (.inl q)⟩
 refine codeAny_call_function hr.depth (KX _ _ lk) rfl S.co S.gen rfl (W.codeRec_of KX hcd) (hb _ _ _ _ ?_);refine wpAny_newFunctionEnv_cells S.kind hkind fun env he s1 x=>?_;subst he;refine ⟨lim.keeps x.toInCall.keep,codeAny_func ?_⟩;obtain ⟨t,ht,hq⟩:=hbody A outer s H vs Q E (hr.deeper _) hsp;have I:Inv (eW CX P w K mg base N qual scope f cdv A outer s H E) [] (start N vs) H s1:=uS S hr.hd e0 hl r x;refine GO (ht [] s1 (start N vs) H _ I hq) (fun fl s' hs=>?_) fun e s' hs=>hs
 have fin:∀ {σ':St} {H':Hp} {v:V} {u:Δ},Inv (eW CX P w K mg base N qual scope f cdv A outer s H E) [] σ' H' s'->aU v u->Q v H'->CE outer P w H s Q u s' :=
  fun {σ' H' v u} J rv q=>⟨v,H',J.os,J.bare,J.base,J.hok,rv,q⟩
 cases fl with
 | ret u =>
  obtain ⟨v,σ',H',J,rv,q⟩:=hs;exact fin J rv q
 | next =>
  obtain ⟨σ',H',J,q⟩:=hs;exact fin (v:=V.non) (u:=Hw) J rfl q
 | brk =>
  obtain ⟨_,_,_,q⟩:=hs;exact GJ q
 | cont =>
  obtain ⟨_,_,_,q⟩:=hs;exact GJ q
section
variable {X:Cx} {x:Str} {p pos:Il} {e:Fo} {es:List Fo} {t:TA} {id T:String} {r:List V->Hp->VK->Prop}
def tCB (r:List V->Hp->VK->Prop) (t:TA):TE:=fun σ H Q=>t σ H fun vs H1=>r vs H1 Q
theorem aq (hc:bL X (.builtin id) r) (hg:Gl X x) (hm:X.mg x=none) (hv:Fi x=some (.builtin id)) (ha:PA X (e::es) t) (hn:x≠"__name__":=by decide) (hdb:(x==("__debug__":Str))=false:=by decide)
  (he:Ew (e::es) X.env=(false,Gf e X.env)::Ew es X.env:=by rfl) (hpl:(HB pos (Ew es X.env)).any (·.1)=false:=by rfl):PE X (.Call (.Name x p) (e::es) [] pos) (tCB r t):=by
 intro pins s σ H Q I h;refine G_ (eR I hg hm hv ?_ hn hdb);exact PyProof.Rows.callWith_builtin1 (thn (ha pos pins s σ H _ I h) fun us s1 ⟨vs,H1,I1,r1,q1⟩=>hc pins s1 σ H1 vs us Q I1 r1 q1) he hpl
theorem dC (hc:bL X (.type T) r) (hg:Gl X x) (hm:X.mg x=none) (hv:Fi x=some (.type T)) (ha:PA X (e::es) t) (hn:x≠"__name__":=by decide) (hdb:(x==("__debug__":Str))=false:=by decide)
  (he:Ew (e::es) X.env=(false,Gf e X.env)::Ew es X.env:=by rfl) (hpl:(HB pos (Ew es X.env)).any (·.1)=false:=by rfl):PE X (.Call (.Name x p) (e::es) [] pos) (tCB r t):=by
 intro pins s σ H Q I h;refine G_ (eR I hg hm hv ?_ hn hdb);exact F6 (thn (ha pos pins s σ H _ I h) fun us s1 ⟨vs,H1,I1,r1,q1⟩=>hc pins s1 σ H1 vs us Q I1 r1 q1) he hpl
end
end L2
namespace HT
open PySem PyProof.Rows
section
open PySem.SeqAt
open PySem.AutoSeq1 (wpAny_loadPart')
open PySem.MeetsSeq PySem.MeetsSeq2 PySem.MeetsSeq3
end
section
variable {prog:ER} {w:E2} {A:E5} {E:Δ->A2->Prop} {s:A2}
noncomputable def sIx (n d:Nat):Option Int->Nat
 | none=>d
 | some v=>if v<0 then (v+(n:Int)).toNat else min v.toNat n
theorem fZ (n d:Nat):sIx n d none=d:=rfl
theorem jJ (n d k:Nat):sIx n d (some (k:Int))=min k n:=by
 show (if (k:Int)<0 then ((k:Int)+(n:Int)).toNat else min (k:Int).toNat n)=min k n
 rw [if_neg (by omega),Gb]
theorem C7 (n d:Nat) (hd:d<=n) (o:Option Int):sIx n d o<=n:=by
 cases o with
 | none=>exact hd
 | some v =>
  show (if v<0 then (v+(n:Int)).toNat else min v.toNat n)<=n
  by_cases hv:v<0
  ·rw [if_pos hv]; omega
  ·rw [if_neg hv]; exact Nat.min_le_right _ _
theorem tf (v:Int) (n d:Nat):(if v<0 then max (v+(n:Int)) 0 else min v (n:Int))=((sIx n d (some v):Nat):Int):=by
 show (if v<0 then max (v+(n:Int)) 0 else min v (n:Int))=(((if v<0 then (v+(n:Int)).toNat else min v.toNat n):Nat):Int)
 by_cases hv:v<0
 ·simp only [if_pos hv]; omega
 ·simp only [if_neg hv]; omega
theorem ri (lo hi:Option Int) (n:Nat):Ic lo hi 1 (n:Int)=(((sIx n 0 lo:Nat):Int),((sIx n n hi:Nat):Int)):=by
 have h1:¬ ((1:Int)<0):=by omega
 unfold Ic;simp only [h1,if_false];refine Fg ?_ ?_
 ·cases lo with
  | none => rfl
  | some v => exact tf v n 0
 ·cases hi with
  | none => rfl
  | some v => exact tf v n n
theorem rK (i j:Nat):Hg (i:Int) (j:Int) 1=j - i:=by
 unfold Hg;have h1:(1:Int) > 0:=by omega
 simp only [h1,if_true,Int.ediv_one]
 split<;>omega
theorem kX {v:Δ} {o:Option Int} {Q:Option Int->A2->Prop} (p:Ke v o) (h:Q o s):EM (EZ prog w) A (Builtin.Slice.slicePartIndex v) Q E s:=by
 cases p with
 | none=>exact slicePart_none h
 | int i t=>exact slicePart_int h
theorem fj {sl:Ω} {vl vu:Δ} {lo hi:Option Int} {n:Nat} {Q:Int×Int×Nat->A2->Prop} (hs:s.heap.IsSliceOf sl vl vu .none) (pl:Ke vl lo) (pu:Ke vu hi)
  (h:Q (((sIx n 0 lo:Nat):Int),1,sIx n n hi - sIx n 0 lo) s):EM (EZ prog w) A (KL (.ref sl) (pure (n:Int))) Q E s:=by
 obtain ⟨os,hos,hcs,hds⟩:=id hs;unfold KL Builtin.Slice.sliceFields;refine ξ (ξ (GY hos hds (x:=vl) rfl (ξ (GY hos hds (x:=vu) rfl (ξ (GY hos hds (x:=.none) rfl (B_ ?_)))))));refine ξ (slicePart_none ?_)
 show EM _ _ (if ((1:Int)==0)=true then _ else _) _ _ s
 rw [if_neg (by decide)];refine ξ (kX pl (ξ (kX pu (ξ (B_ ?_)))))
 show EM _ _ (match Ic lo hi 1 (n:Int) with | (lo,hi)=>pure (lo,(1:Int),Hg lo hi 1)) _ _ s
 rw [ri lo hi n]
 show EM _ _ (pure (((sIx n 0 lo:Nat):Int),(1:Int),Hg ((sIx n 0 lo:Nat):Int) ((sIx n n hi:Nat):Int) 1)) _ _ s
 rw [rK];exact B_ h
theorem x6 (xs:Array Δ) (i k:Nat):((FG k).filterMap fun (m:Nat)=>xs[((i:Int)+(m:Int)*1).toNat]?).toArray=((xs.toList.drop i).take k).toArray:=by
 have e:(fun (m:Nat)=>xs[((i:Int)+(m:Int)*1).toNat]?)=fun m=>xs[i+m]?:=by
  funext m
  have:((i:Int)+(m:Int)*1).toNat=i+m:=by omega
  rw [this]
 rw [e];have:=pick_run xs i k
 rw [Mp] at this;have e2:((fun x=>xs[x]?)∘fun x=>i+x)=fun m=>xs[i+m]?:=rfl;rw [e2] at this;rw [this]
theorem iC {t sl:Ω} {items:Array Δ} {vl vu:Δ} {lo hi:Option Int} {Q:Δ->A2->Prop} (ht:IsTup s.heap t items) (hs:s.heap.IsSliceOf sl vl vu .none) (pl:Ke vl lo) (pu:Ke vu hi)
  (hw:¬ (sIx items.size 0 lo=0/\sIx items.size items.size hi=items.size))
  (h:Q (.ref s.heap.objs.size) { s with heap:=s.heap.push { cls:=.type "tuple",data:=.seq ((items.toList.drop (sIx items.size 0 lo)).take (sIx items.size items.size hi - sIx items.size 0 lo)).toArray } })
  (hsz:items.size<=EF):EM (EZ prog w) A (LG (.ref t) (.ref sl)) Q E s:=by
 have htake:sizeOk (.seq ((items.toList.drop (sIx items.size 0 lo)).take (sIx items.size items.size hi - sIx items.size 0 lo)).toArray):=by
  show ((items.toList.drop (sIx items.size 0 lo)).take (sIx items.size items.size hi - sIx items.size 0 lo)).toArray.size<=EF
  rw [EK,E7,Fb,Eo];omega
 have hj:sIx items.size items.size hi<=items.size:=C7 _ _ (A_ _) hi;obtain ⟨os,hos,hcs,hds⟩:=id hs;have hTs:s.TypeIs (.ref sl) "slice":=⟨os,hos,hcs⟩
 unfold LG
 try with_reducible refine Gd ?_
 first | refine ξ (B_ ?_) | skip
 refine ξ (wpAny_sequenceKey ht.typeIs (by decide) ?_);refine ξ (Gx (name:=HE "__getitem__") ht.typeIs F8
  (Gk F8 ht.typeIs entry_tuple_getitem ?_ (args_tuple_getitem _ _)))
 show EM _ _ (KJ (.ref t) >>= _) _ _ s
 refine ξ (tupleItemsOf_ ht ?_);refine ξ (LC hTs ?_);rw [if_pos (by decide)];refine ξ (fj hs pl pu ?_)
 have hno:¬ ((((sIx items.size 0 lo:Nat):Int)==0&&(1:Int)==1&&(sIx items.size items.size hi - sIx items.size 0 lo)==items.size)=true):=by
  intro q;rw [FL,FL] at q;have q1:((sIx items.size 0 lo:Nat):Int)=0:=eq_of_beq q.1.1;have q2:sIx items.size items.size hi - sIx items.size 0 lo=items.size:=eq_of_beq q.2;exact hw ⟨by omega,by omega⟩
 show EM _ _ (if (((sIx items.size 0 lo:Nat):Int)==0&&(1:Int)==1&&(sIx items.size items.size hi - sIx items.size 0 lo)==items.size)=true then _ else _) _ _ s
 rw [if_neg hno,x6]
 first
  | exact ξ (m := Hs _) (Gw (B_ ⟨_, rfl, B_ h⟩) htake)
  | exact ξ (m := Hs _) (Gw (ξ (B_ (B_ ⟨_, rfl, B_ h⟩))) htake)
  | exact ξ (ξ (m := Hs _) (Gw (B_ (B_ ⟨_, rfl, B_ h⟩)) htake))
  | exact ξ (ξ (m := Hs _) (Gw (B_ ⟨_, rfl, B_ h⟩) htake))
end
end HT
namespace L2
open PySem PySem.Spec PyProof.Rows
noncomputable abbrev TO:=St->Hp->(Option Int->Hp->Prop)->Prop
def PO (X:Cx) (e:Option Fo) (t:TO):Prop :=
 ∀ (pins:List (Ω×HC)) (s:A2) (σ:St) (H:Hp) (Q:Option Int->Hp->Prop),Inv X pins σ H s->t σ H Q ->
  EM (EZ X.prog X.w) X.A (evalPart e X.env) (fun u s'=>∃ o H',Inv X pins σ H' s'/\Ke u o/\Q o H') X.xe s
noncomputable def uv:TO:=fun _ H Q=>Q none H
noncomputable def BP (t:TE):TO:=fun σ H Q=>t σ H fun x H1=>∃ i,x=.int i/\Q (some i) H1
section
variable {X:Cx} {e:Fo} {te:TE} {lo hi:Option Fo} {tl th:TO} {pos p2:Il}
theorem fF:PO X none uv:=by
 intro pins s σ H Q I h;rw [Ky];exact B_ ⟨none,H,I,.none,h⟩
theorem cE (h:PE X e te):PO X (some e) (BP te):=by
 intro pins s σ H Q I hw;rw [evalPart_some];refine thn (h pins s σ H _ I hw) fun u s1 ⟨x,H1,I1,r1,q1⟩=>?_;obtain ⟨i,rfl,q⟩:=q1;obtain ⟨t,rfl⟩:=r1;exact ⟨some i,H1,I1,.int i t,q⟩
def SlR (X:Cx) (r:V->Option Int->Option Int->Hp->VK->Prop):Prop :=
 ∀ (pins:List (Ω×HC)) (s:A2) (σ:St) (H:Hp) (x:V) (v vl vu:Δ) (lo hi:Option Int) (sl:Ω) (Q:VK),Inv X pins σ H s->aU x v->s.heap.IsSliceOf sl vl vu .none->Ke vl lo->Ke vu hi->r x lo hi H Q ->
  ∃ T id,typeLookup (.type T) "__getitem__"=pure (some (.builtin id))/\s.TypeIs v T/\EM (EZ X.prog X.w) X.A (LG v (.ref sl)) (EP X pins σ Q) X.xe s
def tSl (r:V->Option Int->Option Int->Hp->VK->Prop) (te:TE) (tl th:TO):TE:=fun σ H Q=>te σ H fun x H1=>tl σ H1 fun l H2=>th σ H2 fun u H3=>r x l u H3 Q
theorem dM {r:V->Option Int->Option Int->Hp->VK->Prop} (hr:SlR X r) (he:PE X e te) (hl:PO X lo tl) (hu:PO X hi th):PE X (.Subscript e (.Slice lo hi none p2) pos) (tSl r te tl th):=by
 intro pins s σ H Q I h;refine MH (thn (he pins s σ H _ I h) fun v s1 ⟨x,H1,I1,r1,q1⟩=>?_);refine wpAny_Slice (thn (hl pins s1 σ H1 _ I1 q1) fun vl s2 ⟨l,H2,I2,pl,q2⟩=>thn (hu pins s2 σ H2 _ I2 q2) fun vu s3 ⟨u,H3,I3,pu,q3⟩=>?_);rw [Ky];refine B_ ?_;have I4:Inv X pins σ H3 { s3 with heap:=s3.heap.push { cls:=.type "slice",data:=.fields #[vl,vu,.none] } }:=I3.kept (t':=s3.toks) fun b ob q=>χ _ q;obtain ⟨T,id,hT,ht,hg⟩:=hr pins { s3 with heap:=s3.heap.push { cls:=.type "slice",data:=.fields #[vl,vu,.none] } } σ H3 x v vl vu l u s3.heap.objs.size Q I4 r1 (Jc ..) pl pu q3
 show EM (EZ X.prog X.w) X.A (Kx e (.Slice lo hi none p2) v (.ref s3.heap.objs.size)) (EP X pins σ Q) X.xe { s3 with heap:=s3.heap.push { cls:=.type "slice",data:=.fields #[vl,vu,.none] } }
 exact tail_any (ops:=[.ref s3.heap.objs.size,v]) ht hT hg (by with_unfolding_all rfl)
noncomputable def dY (xs:List V) (lo hi:Option Int):List V:=(xs.drop (HT.sIx xs.length 0 lo)).take (HT.sIx xs.length xs.length hi - HT.sIx xs.length 0 lo)
theorem ji (xs:List V) (lo hi:Option Int):(dY xs lo hi).length<=xs.length:=by
 unfold dY;rw [E7,Fb];omega
def Ei (K:W.Frag):V->Option Int->Option Int->Hp->VK->Prop:=fun x lo hi H Q=>∃ a xs,x=.ref a/\SqT K H a xs /\
 ¬ (HT.sIx xs.length 0 lo=0/\HT.sIx xs.length xs.length hi=xs.length)/\∀ p,H p=none->Q (.ref p) (upd H p (.tup (dY xs lo hi)))
theorem C8:SlR X (Ei X.K):=by
 intro pins s σ H x v vl vu lo hi sl Q I rx hs pl pu h;obtain ⟨a,xs,rfl,hx,hw,q⟩:=h
 cases rx;obtain ⟨its,r,ht,hz⟩:=I.tuple hx;have hlen:its.toArray.size=xs.length:=by rw [EK]; exact r.length.symm
 refine ⟨"tuple",_,F8.lookup,ht.typeIs,?_⟩;refine HT.iC ht hs pl pu (by rw [hlen]; exact hw) ?_ (by rw [hlen]; exact hz);rw [hlen];refine ⟨.ref s.heap.objs.size,_,I.laid (t':=s.toks) (o:=.tup (dY xs lo hi)) (fun b ob q=>χ _ q) (A_ _) ?_,rfl,q _ (I.hok.fresh (A_ _))⟩;exact ⟨FA (ji xs lo hi) hz,_,(r.drop (HT.sIx xs.length 0 lo)).take (HT.sIx xs.length xs.length hi - HT.sIx xs.length 0 lo),IsTup.new _ _⟩
end
noncomputable def ixN (n:Nat) (i:Int):Option Nat:=if 0<=i then (if i<n then some i.toNat else none) else if -(n:Int)<=i then some (i+n).toNat else none
noncomputable def atI {α:Type} (xs:List α) (i:Int):Option α:=(ixN xs.length i).bind fun j=>xs[j]?
theorem zU {n:Nat} {i:Int} {j:Nat} (h:ixN n i=some j):seqIndex? i n=some j/\j<n/\-(n:Int)<=i/\i<n:=by
 unfold ixN at h;by_cases h0:0<=i
 ·rw [if_pos h0] at h;by_cases h1:i<n
  ·rw [if_pos h1] at h;have e:i.toNat=j:=Ez h;exact ⟨by rw [seqIndex_of h0 h1,e],by omega,by omega,h1⟩
  ·rw [if_neg h1] at h; cases h
 ·rw [if_neg h0] at h;by_cases h1:-(n:Int)<=i
  ·rw [if_pos h1] at h;have e:(i+n).toNat=j:=Ez h;exact ⟨by rw [seqIndex_neg (by omega) h1,e],by omega,h1,by omega⟩
  ·rw [if_neg h1] at h; cases h
theorem mR {α:Type} {xs:List α} {i:Int} {v:α} (h:atI xs i=some v):∃ j,seqIndex? i xs.length=some j/\xs[j]?=some v/\j<xs.length/\-(xs.length:Int)<=i/\i<xs.length:=by
 unfold atI at h
 cases e:ixN xs.length i with
 | none=>rw [e] at h; cases h
 | some j =>
  rw [e] at h;obtain ⟨h1,h2,h3,h4⟩:=zU e;exact ⟨j,h1,h,h2,h3,h4⟩
theorem bH {α:Type} {xs:List α} {j:Nat} {v:α} (h:xs[j]?=some v):atI xs (j:Int)=some v:=by
 have hj:j<xs.length:=(Bc.mp h).1
 have e:ixN xs.length (j:Int)=some j:=by
  unfold ixN;rw [if_pos (by omega),if_pos (by omega)]; simp
 unfold atI; rw [e]; exact h
theorem o7 {α:Type} (xs:List α) (v:α):atI (xs++[v]) (-1)=some v:=by
 have hl:(xs++[v]).length=xs.length+1:=by simp
 have e:ixN (xs++[v]).length (-1)=some xs.length:=by
  unfold ixN;rw [hl,if_neg (by decide),if_pos (by omega)]
  congr 1
  omega
 unfold atI;rw [e]
 show (xs++[v])[xs.length]?=some v
 simp
def sU (b:Fo):Prop:=∀ o i,subscripted b false o i=operate [o,i] (LG o i)
def IxR (X:Cx) (r:R2):Prop :=
 ∀ (value slice:Fo) (pins:List (Ω×HC)) (s:A2) (σ:St) (H:Hp) (x y:V) (v u:Δ) (Q:VK),Inv X pins σ H s->aU x v->aU y u->r x y H Q ->
  subscripted slice false v u=operate [v,u] (LG v u)->EM (EZ X.prog X.w) X.A (Kx value slice v u) (EP X pins σ Q) X.xe s
def MtR (X:Cx) (id:String) (r:V->List V->Hp->VK->Prop):Prop :=
 ∀ (pins:List (Ω×HC)) (s:A2) (σ:St) (H:Hp) (x:V) (xs:List V) (v:Δ) (us:List Δ) (Q:VK),Inv X pins σ H s->aU x v->Vals xs us->r x xs H Q ->
  EM (EZ X.prog X.w) X.A (call (.builtin id) (v::us)) (EP X pins σ Q) X.xe s
section
variable {X:Cx} {a b:Fo} {ta tb:TE} {pos:Il}
theorem IxR.or {r r':R2} (h:IxR X r) (h':IxR X r'):IxR X (fun x y H Q=>r x y H Q\/r' x y H Q):=by
 intro value slice pins s σ H x y v u Q I rx ry q hs;rcases q with q | q
 ·exact h value slice pins s σ H x y v u Q I rx ry q hs
 ·exact h' value slice pins s σ H x y v u Q I rx ry q hs
theorem Dx {r:R2} (hr:IxR X r) (ha:PE X a ta) (hb:PE X b tb) (hs:sU b):PE X (.Subscript a b pos) (tOp r ta tb):=by
 intro pins s σ H Q I h;exact MH (B0 ha hb I h fun v u s2 x y H2 I2 rx ry q=>hr a b pins s2 σ H2 x y v u Q I2 rx ry q (hs _ _))
def Av (K:W.Frag):R2:=fun x y H Q=>∃ p xs i v,x=.ref p/\y=.int i/\SqL K H p xs/\atI xs i=some v/\Q v H
def Aw (K:W.Frag):R2:=fun x y H Q=>∃ p xs i v,x=.ref p/\y=.int i/\SqT K H p xs/\atI xs i=some v/\Q v H
def DD:R2:=fun x y H Q=>∃ z i c,x=.str z/\y=.int i/\z.length<=EF/\atI z.cps.toList i=some c/\Q (.str ⟨#[c]⟩) H
theorem tL:IxR X (Av X.K):=by
  intro value slice pins s σ H x y v u Q I rx ry h hs;obtain ⟨p,xs,i,z,rfl,rfl,hq,he,q⟩:=h
  cases rx;obtain ⟨t,rfl⟩:=ry;obtain ⟨its,r,pl,hz⟩:=I.list hq;obtain ⟨j,h1,h2,h3,h4,h5⟩:=mR he;obtain ⟨w,ew,rw'⟩:=r.get h2;have hl:=r.length;have hn:=nG;have fin:EP X pins σ Q w s:=⟨z,H,I,rw',q⟩
  by_cases h0:0<=i
  · have hj:i.toNat=j:=by
      rw [seqIndex_of h0 h5] at h1;exact Ez h1
    exact item_listR pl.isList h0 (by omega) (by rw [hj]; simpa using ew) fin hs
  · have hj:(i+(its.toArray.size:Int)).toNat=j:=by
      rw [seqIndex_neg (by omega) h4] at h1;rw [EK,<- hl];exact Ez h1
    exact subscriptTail_builtinR (x:=w) pl.isList.typeIs Jj.lookup
      (wpAny_getItem_list_neg (Q:=fun r s'=>r=w/\EP X pins σ Q r s') pl.isList (by omega) (by rw [EK]<;>omega) (by omega) (by rw [hj]; simpa using ew) ⟨rfl,fin⟩) hs
theorem xr:IxR X (Aw X.K):=by
 intro value slice pins s σ H x y v u Q I rx ry h hs;obtain ⟨p,xs,i,z,rfl,rfl,hq,he,q⟩:=h
 cases rx;obtain ⟨t,rfl⟩:=ry;obtain ⟨its,r,pl,hz⟩:=I.tuple hq;obtain ⟨j,h1,h2,h3,h4,h5⟩:=mR he;obtain ⟨w,ew,rw'⟩:=r.get h2;have hl:=r.length;have hn:=nG;have fin:EP X pins σ Q w s:=⟨z,H,I,rw',q⟩
 exact subscriptTail_builtinR (x:=w) pl.typeIs slot_tuple_getitem.lookup
  (getItem_tuple (j:=j) (Q:=fun r s'=>r=w/\EP X pins σ Q r s') pl (by omega) (by omega) (by rw [EK,<- hl]; exact h1) (by simpa using ew) ⟨rfl,fin⟩) hs
theorem Cb:IxR X DD:=by
 intro value slice pins s σ H x y v u Q I rx ry h hs;obtain ⟨z,i,c,rfl,rfl,hz,he,q⟩:=h;obtain ⟨t,rfl⟩:=rx;obtain ⟨t',rfl⟩:=ry;obtain ⟨j,h1,h2,h3,h4,h5⟩:=mR he;have hl:z.cps.toList.length=z.length:=by simp [Str.length]
 rw [hl] at h1 h4 h5;have hn:=nG;exact tail_any (typeIs_str s z t) slot_str_getitem.lookup (getItem_str (c:=c) (by
  have e1:decide (i < -(2 ^ 63:Int))=false:=decide_eq_false (by omega);have e2:decide (i>=2 ^ 63)=false:=decide_eq_false (by omega);rw [e1,e2,Bool.or_false]) (by rw [h1]; simpa using h2) ⟨.str ⟨#[c]⟩,H,I.tok _,⟨_,rfl⟩,q⟩) hs
def rIx (K:W.Frag):R2:=fun x y H Q=>Av K x y H Q\/Aw K x y H Q\/DD x y H Q
theorem Ca:IxR X (rIx X.K):=tL.or (xr.or Cb)
theorem oJ (lo hi:Option Int) (n:Nat):(IC lo hi none n).1=((HT.sIx n 0 lo:Nat):Int)/\(IC lo hi none n).2.1=((HT.sIx n n hi:Nat):Int)/\(IC lo hi none n).2.2=1:=by
 refine ⟨?_,?_,rfl⟩
 ·cases lo with
  | none => simp [IC, HT.sIx]
  | some i =>
   simp only [IC,HT.sIx,Ml,show (1:Int) > 0 by decide,if_true];by_cases h:i<0
   ·simp only [h,if_true]<;>omega
   ·simp only [h,if_false]<;>omega
 ·cases hi with
  | none => simp [IC, HT.sIx]
  | some i =>
   simp only [IC,HT.sIx,Ml,show (1:Int) > 0 by decide,if_true];by_cases h:i<0
   ·simp only [h,if_true]<;>omega
   ·simp only [h,if_false]<;>omega
theorem lO (its:List Δ) (lo hi:Option Int):Mc its.toArray lo hi none=((its.drop (HT.sIx its.length 0 lo)).take (HT.sIx its.length its.length hi - HT.sIx its.length 0 lo)).toArray:=by
 obtain ⟨h1,h2,h3⟩:=oJ lo hi its.toArray.size;unfold Mc;rw [h1,h2,h3];simp only [sliceRange_one,pick_run,EK]<;>rfl
def CH (K:W.Frag):V->Option Int->Option Int->Hp->VK->Prop:=fun x lo hi H Q=>∃ a xs,x=.ref a/\SqL K H a xs/\∀ p,H p=none->Q (.ref p) (upd H p (.lst (dY xs lo hi)))
theorem A8:SlR X (CH X.K):=by
 intro pins s σ H x v vl vu lo hi sl Q I rx hs pl pu h;obtain ⟨a,xs,rfl,hx,q⟩:=h
 cases rx;obtain ⟨its,r,ht,hz⟩:=I.list hx;have hlen:=r.length;refine ⟨"list",_,Jj.lookup,ht.isList.typeIs,?_⟩;refine Js ht.isList hs pl pu .none (by simp) ?_ (by rw [EK]<;>omega);rw [lO,<- hlen];refine ⟨.ref s.heap.objs.size,_,I.laid (t':=s.toks) (o:=.lst (dY xs lo hi)) (fun b ob q=>χ _ q) (A_ _) ?_,rfl,q _ (I.hok.fresh (A_ _))⟩;exact ⟨FA (ji xs lo hi) hz,_,0,(r.drop (HT.sIx xs.length 0 lo)).take (HT.sIx xs.length xs.length hi - HT.sIx xs.length 0 lo),EB _ rfl⟩
theorem mV:bL X (.builtin "len") (fun xs H Q=>∃ p ys,xs=[.ref p]/\(SqL X.K H p ys\/SqT X.K H p ys)/\Q (.int ys.length) H):=by
 intro pins s σ H xs us Q I r h;obtain ⟨p,ys,rfl,hq,q⟩:=h;obtain ⟨u,rfl,rx⟩:=uA r
 cases rx;have hn:=nG;rcases hq with hq | hq
 ·obtain ⟨its,r',pl,hz⟩:=I.list hq;have hlen:=r'.length;exact Calls.call_len_list pl.isList (by simp only [EK]<;>omega) ⟨.int ys.length,H,I.tok _,⟨s.toks+1,by rw [EK,hlen]⟩,q⟩
 ·obtain ⟨its,r',pl,hz⟩:=I.tuple hq;have hlen:=r'.length;exact len_tuple pl (by simp only [EK]<;>omega) ⟨.int ys.length,H,I.tok _,⟨s.toks+1,by rw [EK,hlen]⟩,q⟩
theorem mW:bL X (.type "list") (fun xs H Q=>∃ p ys,xs=[.ref p]/\(SqL X.K H p ys\/SqT X.K H p ys)/\∀ l,H l=none->Q (.ref l) (upd H l (.lst ys))):=by
  intro pins s σ H xs us Q I r h;obtain ⟨p,ys,rfl,hq,q⟩:=h;obtain ⟨u,rfl,rx⟩:=uA r
  cases rx;have fin:∀ (its:List Δ),Vals ys its->ys.length<=EF->∀ (h':FD) (c':Nat),(∀ b o',s.heap.get? b=some o'->h'.get? b=some o') ->
      h'.get? s.heap.objs.size=some { cls:=.type "list",dict:=none,data:=.seq its.toArray c',slots:=#[] }->EP X pins σ Q (.ref s.heap.objs.size) { s with heap:=h' }:=fun its r' hz h' c' kp e =>
    ⟨.ref s.heap.objs.size,_,I.laid (t':=s.toks) kp (A_ _) (show bg X.prog X.w _ h' _ (.lst ys) from ⟨hz,its,c',r',e⟩),rfl,q _ (I.hok.fresh (A_ _))⟩
  rcases hq with hq | hq
  · obtain ⟨its,r',pl,hz⟩:=I.list hq
    have hlen:=r'.length;obtain ⟨o,ho,hc,n,hd⟩:=pl.isList;exact call_list_seq p (.inl rfl) ho hc hd (fun h' c' kp e=>fin its r' hz h' c' kp e) (by simp only [EK]<;>omega)
  · obtain ⟨its,r',pl,hz⟩:=I.tuple hq
    have hlen:=r'.length;obtain ⟨o,ho,hc,n,hd⟩:=pl;exact call_list_seq p (.inr rfl) ho hc hd (fun h' c' kp e=>fin its r' hz h' c' kp e) (by simp only [EK]<;>omega)
theorem lE:bL X (.type "tuple") (fun xs H Q=>∃ p ys,xs=[.ref p]/\((SqL X.K H p ys/\∀ l,H l=none->Q (.ref l) (upd H l (.tup ys)))\/(SqT X.K H p ys/\Q (.ref p) H))):=by
 intro pins s σ H xs us Q I r h;obtain ⟨p,ys,rfl,h⟩:=h;obtain ⟨u,rfl,rx⟩:=uA r
 cases rx;rcases h with ⟨hq,q⟩ | ⟨hq,q⟩
 ·obtain ⟨its,r',pl,hz⟩:=I.list hq;have hlen:=r'.length;refine call_tuple_list pl.isList (fun h' kp=>?_) (by simp only [EK]<;>omega);have I1:Inv X pins σ H { s with heap:=h' }:=I.kept (t':=s.toks) kp
  have I2:Inv X pins σ (upd H h'.objs.size (.tup ys)) { s with heap:=h'.push { cls:=.type "tuple",data:=.seq its.toArray } } :=
   I1.laid (t':=s.toks) (fun b o e=>χ _ e) (A_ _) (show bg X.prog X.w _ _ _ (.tup ys) from ⟨hz,its,r',IsTup.new _ _⟩)
  exact ⟨.ref h'.objs.size,_,I2,rfl,q _ (I1.hok.fresh (A_ _))⟩
 ·obtain ⟨its,r',pl,hz⟩:=I.tuple hq;exact call_tuple_same pl ⟨.ref p,H,I,rfl,q⟩
def tyV (K:W.Frag) (T:String) (x:V) (H:Hp):Prop:=match x with
  | .str _ => T = "str"
  | .int _ => T = "int"
  | .ref p => (T = "list" /\ ∃ xs, SqL K H p xs) \/ (T = "tuple" /\ ∃ o, K.lookup p = some o /\ o.cls = .type "tuple" /\ o.dict = none) \/
      (T="dict"/\((∃ kvs,H p=some (.dK kvs))\/∃ kvs,H p=some (.dT kvs)))\/(T="set"/\∃ S n,H p=some (.set S n))
  | _ => False
theorem zu {pins:List (Ω×HC)} {σ:St} {H:Hp} {s:A2} {T:String} {x:V} {v:Δ} (I:Inv X pins σ H s) (r:aU x v) (ty:tyV X.K T x H) :
    s.TypeIs v T/\∀ a,v=.ref a->∃ ob,s.heap.get? a=some ob/\ob.dict=none:=by
  cases x with
  | str z =>
    obtain ⟨t,rfl⟩:=r
    cases (show T="str" from ty)
    exact ⟨typeIs_str s z t,fun _ e=>nomatch e⟩
  | int i =>
    obtain ⟨t,rfl⟩:=r
    cases (show T="int" from ty)
    exact ⟨typeIs_int s i t,fun _ e=>nomatch e⟩
  | ref p =>
    cases r;rcases ty with ⟨rfl,xs,hq⟩ | ⟨rfl,o,hk,hc,hd⟩ | ⟨rfl,hk⟩ | ⟨rfl,S,n,hk⟩
    · obtain ⟨its,_,pl,_⟩:=I.list hq
      refine ⟨pl.isList.typeIs,fun a e=>?_⟩
      cases e;obtain ⟨o,n,e,c,hd,_⟩:=pl;exact ⟨o,e,hd⟩
    · refine ⟨⟨o,I.kIn p o hk,hc⟩,fun a e=>?_⟩
      cases e;exact ⟨o,I.kIn _ o hk,hd⟩
    · have z:∃ o,s.heap.get? p=some o/\o.ExactDict:=by
        rcases hk with ⟨kvs,hk⟩ | ⟨kvs,hk⟩
        · obtain ⟨_,_,_,_,o,_,_,e,ex,_⟩:=I.hok p _ hk
          exact ⟨o,e,ex⟩
        · obtain ⟨_,_,_,_,o,_,_,e,ex,_⟩:=I.hok p _ hk
          exact ⟨o,e,ex⟩
      obtain ⟨o,e,ex⟩:=z;refine ⟨⟨o,e,ex.1⟩,fun a e2=>?_⟩
      cases e2;exact ⟨o,e,ex.2.1⟩
    · obtain ⟨o,_,_,_,e,ex,_⟩:=I.hok p _ hk
      refine ⟨⟨o,e,ex.1⟩,fun a e2=>?_⟩
      cases e2;exact ⟨o,e,ex.2.1⟩
  | _ => exact GJ ty
def DR (K:W.Frag) (T:String) (r:V->List V->Hp->VK->Prop) (to:TE):TE:=fun σ H Q=>to σ H fun x H1=>tyV K T x H1/\r x [] H1 Q
def tBM (K:W.Frag) (T:String) (r:V->List V->Hp->VK->Prop) (to:TE) (t:TA):TE:=fun σ H Q=>to σ H fun x H1=>tyV K T x H1/\t σ H1 fun xs H2=>r x xs H2 Q
variable {o e:Fo} {es:List Fo} {to:TE} {t:TA} {name:Str} {apos cpos:Il} {T id:String} {r:V->List V->Hp->VK->Prop}
theorem Cu (pa:PlainAttrs T) (slot:Slot T name id) (hty:typeOf (.builtin id)=pure (.type "method_descriptor")) (hm:MtR X id r) (ho:PE X o to)
  (hbase:II o name X.env (Gf o X.env)=Gf o X.env:=by rfl) (hline:(apos.endLine==cpos.line)=true:=by rfl):PE X (.Call (.Attribute o name apos) [] [] cpos) (DR X.K T r to):=by
 intro pins s σ H Q I h;refine wpAny_Call_method0_late hbase hline (thn (ho pins s σ H _ I h) fun v s1 ⟨x,H1,I1,r1,ty,q1⟩=>?_);obtain ⟨h1,h2⟩:=zu I1 r1 ty;exact ⟨T,id,pa,slot,hty,h1,h2,Jg rfl (PySem.evalArgs_none (hm pins s1 σ H1 x [] v [] Q I1 r1 .nil q1))⟩
theorem cU (pa:PlainAttrs T) (slot:Slot T name id) (hty:typeOf (.builtin id)=pure (.type "method_descriptor")) (hm:MtR X id r) (ho:PE X o to) (ha:PA X (e::es) t)
  (hbase:II o name X.env (Gf o X.env)=Gf o X.env:=by rfl)
  (hfew:((HB cpos (Ew (e::es) X.env)).all (fun x=>!x.1)&&(LI cpos (Jk [] X.env)).all (fun x=>x.1.isSome)
   && decide ((e::es).length+([]:List L8).length+(if ([]:List L8).isEmpty then 0 else 1)<30))=true:=by rfl)
  (hline:(apos.endLine==cpos.line)=true:=by rfl) (hs:Ew (e::es) X.env=(false,Gf e X.env)::Ew es X.env:=by rfl) (hplain:(HB cpos (Ew es X.env)).any (·.1)=false:=by rfl) :
  PE X (.Call (.Attribute o name apos) (e::es) [] cpos) (tBM X.K T r to t):=by
 intro pins s σ H Q I h;refine wpAny_Call_method_late hbase hfew hline rfl (thn (ho pins s σ H _ I h) fun v s1 ⟨x,H1,I1,r1,ty,q1⟩=>?_);obtain ⟨h1,h2⟩:=zu I1 r1 ty;refine ⟨T,id,pa,slot,hty,h1,h2,?_⟩;have hA:=ha cpos pins s1 σ H1 _ I1 q1;rw [hs] at hA ⊢;refine Jg (by show (false||(HB cpos (Ew es X.env)).any (·.1))=false; rw [hplain]<;>rfl) (J7 ?_);exact thn hA fun us s2 ⟨vs,H2,I2,r2,q2⟩=>hm pins s2 σ H2 x vs v us Q I2 r1 r2 q2
end
def MtM (X:Cx) (id:String) (r:V->List V->Hp->VK->Prop):Prop :=
 ∀ (pins:List (Ω×HC)) (s:A2) (σ:St) (H:Hp) (x:V) (xs:List V) (v:Δ) (us:List Δ) (Q:VK),Inv X pins σ H s->aU x v->Vals xs us->r x xs H Q ->
  EM (EZ X.prog X.w) X.A (call (.builtin id) (v::us)) (EP X pins σ Q) X.xe s
theorem Vals.one:∀ {x:V} {us:List Δ},Vals [x] us->∃ u,us=[u]/\aU x u
 | _,_,.cons r .nil=>⟨_,rfl,r⟩
theorem Vals.two:∀ {x y:V} {us:List Δ},Vals [x,y] us->∃ u v,us=[u,v]/\aU x u/\aU y v
 | _,_,_,.cons r (.cons q .nil)=>⟨_,_,rfl,r,q⟩
section
variable {X:Cx} {pins:List (Ω×HC)} {σ:St} {H:Hp} {s:A2} {l b:Ω} {xs ys zs:List V}
theorem Inv.lset {its its':List Δ} {n:Nat} {f:Array Δ->Array Δ} {t':Nat} (I:Inv X pins σ H s) (hH:H l=some (.lst xs))
  (e:s.heap.get? l=some { cls:=.type "list",data:=.seq its.toArray n }) (hf:f its.toArray=its'.toArray) (hv:Vals ys its') (hz:ys.length<=EF) :
  Inv X pins σ (upd H l (.lst ys)) { s with heap:=s.heap.update l (Er f),toks:=t' }:=by
 have q:=PySem.IsL.update e f;rw [hf] at q;refine I.write (x:=l) (e:=l) (by rw [hH]; exact trivial) (.inl rfl) (fun b' u hb hu=>(E9 s.heap (Er f) (GH hb)).trans hu) ⟨_,q⟩ ?_;exact ⟨hz,its',_,hv,q⟩
theorem Inv.lnew {its:List Δ} {t':Nat} (I:Inv X pins σ H s) (hv:Vals ys its) (hz:ys.length<=EF) :
  Inv X pins σ (upd H s.heap.objs.size (.lst ys)) { s with heap:=s.heap.push { cls:=.type "list",data:=.seq its.toArray },toks:=t' } :=
 I.laid (fun _ _ q=>χ _ q) (A_ _) ⟨hz,its,0,hv,EB _ rfl⟩
theorem Inv.fresh (I:Inv X pins σ H s):H s.heap.objs.size=none:=I.hok.fresh (A_ _)
theorem Inv.lstM (I:Inv X pins σ H s) (hH:H l=some (.lst xs)):xs.length<=EF/\∃ (its:List Δ) (n:Nat),Vals xs its/\xs.length=its.length/\s.heap.get? l=some { cls:=.type "list",data:=.seq its.toArray n }:=by
 obtain ⟨z,its,n,r,e⟩:=I.hok l _ hH;exact ⟨z,its,n,r,r.length,e⟩
theorem xJ {n:Nat} (h:n<=EF):Iq n=false:=by
 unfold Iq;exact decide_eq_false (by omega)
end
section
variable {X:Cx}
def uc:V->List V->Hp->VK->Prop:=fun x vs H Q=>∃ l xs y,x=.ref l/\vs=[y]/\H l=some (.lst xs)/\xs.length<EF/\Q .non (upd H l (.lst (xs++[y])))
theorem a8:MtM X "list.append" uc:=by
 intro pins s σ H x vs v us Q I rx rv h;obtain ⟨l,xs,y,rfl,rfl,hH,hz,q⟩:=h
 cases rx;obtain ⟨u,rfl,ru⟩:=rv.one;obtain ⟨z,its,n,r,hl,e⟩:=I.lstM hH;refine MF F.slot_list_append ⟨_,e,rfl⟩ F.entry_list_append (F.args_list_append_2 _ _) (PySem.list_append l its.toArray n u (by rw [EK]; omega)) ⟨e,?_⟩;refine ⟨.non,_,I.lset (its':=its++[u]) hH e (by simp) (r.append (.cons ru .nil)) ?_,rfl,q⟩;rw [Bd,EL];omega
def As:V->List V->Hp->VK->Prop:=fun x vs H Q=>∃ l b xs zs,x=.ref l/\vs=[.ref b]/\H l=some (.lst xs)/\H b=some (.lst zs)/\xs.length+zs.length<=EF/\Q .non (upd H l (.lst (xs++zs)))
theorem u7:MtM X "list.extend" As:=by
 intro pins s σ H x vs v us Q I rx rv h;obtain ⟨l,b,xs,zs,rfl,rfl,hH,hB,hz,q⟩:=h
 cases rx;obtain ⟨u,rfl,ru⟩:=rv.one
 cases ru;obtain ⟨z,its,n,r,hl,e⟩:=I.lstM hH;obtain ⟨z2,its2,n2,r2,hl2,e2⟩:=I.lstM hB;have hsz:its.toArray.size+its2.toArray.size<=sizeLine:=by rw [EK,EK]; omega
 have hlong:¬ (!its.toArray.isEmpty&&Iq (its.toArray.size+its2.toArray.size))=true:=by
  rw [xJ hsz,KA];exact E4
 refine MF F.slot_list_extend ⟨_,e,rfl⟩ F.entry_list_extend (F.args_list_extend_2 _ _)
  (AutoSeq1.list_extend_list_list_0 l its.toArray n b its2.toArray n2 hlong (by rw [EK]; omega) (by omega)) ⟨e,e2,?_⟩
 refine ⟨.non,_,I.lset (its':=its++its2) hH e (by simp) (r.append r2) ?_,rfl,q⟩;rw [Bd];omega
def DA:R2:=fun x y H Q=>∃ l b xs zs,x=.ref l/\y=.ref b/\H l=some (.lst xs)/\H b=some (.lst zs)/\xs.length+zs.length<=EF/\∀ p,H p=none->Q (.ref p) (upd H p (.lst (xs++zs)))
theorem rJ:OpR X (J5 .Add) DA:=by
 intro pins s σ H x y v u Q I rx ry h;obtain ⟨l,b,xs,zs,rfl,rfl,hH,hB,hz,q⟩:=h
 cases rx
 cases ry;obtain ⟨z,its,n,r,hl,e⟩:=I.lstM hH;obtain ⟨z2,its2,n2,r2,hl2,e2⟩:=I.lstM hB;refine PySem.P.add_list e e2 ?_ (by rw [EK,EK]; omega);have ea:its.toArray++its2.toArray=(its++its2).toArray:=by simp
 rw [ea];exact ⟨.ref _,_,I.lnew (t':=s.toks) (r.append r2) (by rw [Bd]; omega),rfl,q _ I.fresh⟩
end
section
variable {prog:ER} {w:E2} {A:E5} {E:Δ->A2->Prop} {s:A2}
set_option maxRecDepth 100000 in
end
end L2
namespace Att
open PySem PySem.W PySem.Calls PyProof.Rows
theorem ju {P:Params} {h:FD}:∀ (ns:List Int) (vs:List Δ),WellAll P h vs (ns.map WData.int)->Ko vs ns:=by
 intro ns
 induction ns with
 | nil =>
  intro vs w;rw [HW] at w
  cases w;exact .nil
 | cons n ns ih =>
  intro vs w;rw [EW] at w
  cases w with
  | cons a b =>
   cases a;exact .cons _ _ (ih _ b)
theorem vQ {l:OpenLaw} {n:Nat} (hn:l.most=some n) {P:Params} {h:FD} {args:List WData} {vals:List Δ}
  (hpre:l.row.toRowW.claim.pre args=true) (hwl:WellAll P h vals args) :
  ∃ a vs ns,vals=[E3 a]/\args=[WData.list (ns.map WData.int)]/\h.get? a=some { cls:=.type "list",data:=.seq vs.toArray }/\Ko vs ns/\ns.length<=n:=by
 have hsh:WShape.hasAll [] args [.list .int]=true:=(pre_splitW hpre).1;have hc:l.pre.holds [] { args:=args }=true:=(pre_splitW hpre).2;obtain ⟨d,r,rfl,h1,h2⟩:=hasAllW_cons hsh;obtain rfl:=hasAllW_nil h2
 obtain ⟨xs,rfl,h3⟩:=hasW_list h1;obtain ⟨ns,rfl⟩:=items_int h3
 have hlen:ns.length<=n:=by
  unfold OpenLaw.pre at hc
  have h4:(WTm.not (.lt (.lit (.int (n:Int))) (.len (.arg 0)))).holds [] { args:=[.list (ns.map .int)] }=true:=by
   have h4:=(holds_andW hc).1;rw [hn] at h4;exact h4
  have h5:=condW_of h4 (w_not (w_lt w_lit (w_len_list (w_arg rfl))));rw [Aj] at h5;refine Nat.le_of_not_lt fun q=>?_;have q':(n:Int)<((ns.length:Nat):Int):=by omega
  first
   | (rw [decide_eq_true q'] at h5; exact absurd h5 (by decide))
   | (simp at h5; omega)
 cases hwl with
 | cons w1 w2 =>
  cases w2
  cases w1 with
  | list ho hall => exact ⟨_, _, ns, rfl, rfl, ho, ju ns _ hall, hlen⟩
theorem vA (l:OpenLaw) (args:List WData):l.row.toRowW.claim.post args (.bool true) args=true :=
 postW_of (r:=l.row.toRowW) (X:=(true==true))
  (show WShape.has [] (.bool true) .bool=true by first | rfl | decide | simp [WShape.has,WShape.arms,WShape.armsAll])
  (show (WTm.eq .res (.lit (.bool true))).value [] { args:=args,res:=some (.bool true),after:=args }=some (.bool (true==true)) from w_eq_bool (w_res rfl) w_lit) rfl
theorem o8 {l:OpenLaw} {n:Nat} {q:ER} {loose:List Str} {XP:(Str->Option Δ)->FD->Prop} {YP:E2->FD->Prop} {d:DefRec}
  (hn:l.most=some n) (hdf:d.params.defaults=[])
  (call:∀ (w:E2) (s₀ s₁:A2) (mg mb:Str->Option Δ) (fa:Ω) (o:HC) (pm cd doc:Δ) (a:Ω) (vs:List Δ) (ns:List Int),
   Ground q loose [] XP w s₀ mg mb s₁.heap->YP w s₁.heap ->
   s₁.heap.get? fa=some o->o.data=.func (docDef d.name d.params d.body d.scope pm cd doc)->s₁.heap.CodeRec cd d.name->mg d.name=some (.ref fa) ->
   s₁.heap.get? a=some { cls:=.type "list",data:=.seq vs.toArray }->Ko vs ns->ns.length<=n->s₁.gens=#[] ->
   IY (EZ l.prog w) Kl (.call (.ref fa) ⟨[.ref a],[]⟩) (fun r s'=>r=.ok (.ret (.bool true))/\OldK s₁.heap s'.heap/\s'.os=s₁.os/\JK s'.gens) s₁) :
  WalkO q loose XP YP l.row.toRowW d [] (fun f vs=>Je f vs):=by
 intro w s₀ s₁ mg mb G Y fa o pm cd doc dV kV ho hd hcd hD hmg hg args vals as hpre hlay hrd hwl hlo;obtain rfl:dV=.none:=Dflts.none hD hdf
 obtain rfl:kV=.none:=Dflts.noKw hD
 obtain ⟨a,vs,ns,rfl,rfl,hobj,hints,hlen⟩:=vQ hn hpre hwl;refine enter_call (IX (call w s₀ s₁ mg mb fa o pm cd doc a vs ns G Y ho (fd_plain hd) hcd hmg hobj hints hlen hg) fun r s' hq=>?_);obtain ⟨rfl,h2,h3,h4⟩:=hq;exact ⟨.inl ⟨.bool true,.bool true,[],rfl,fun _=>rfl,.bool true,vA l _,fun _=>⟨GP,fun _ hm=>(nomatch hm)⟩⟩,h2,h3,h4⟩
section
variable {prog:ER} {w:E2} {A:E5} {E:Δ->A2->Prop} {s:A2} {K:Frag}
noncomputable def Ec (h:FD) (L d:Ω):List (Ω×HC):=(FG h.objs.size).filterMap fun a=>if a=L\/a=d then none else (h.get? a).map fun o=>(a,o)
end
end Att
namespace L2
open PySem PySem.Spec PyProof.Rows
theorem mJ:∀ {vs:List Δ} {ns:List Int},Ko vs ns->Vals (ns.map V.int) vs
 | _,_,.nil=>.nil
 | _,_,.cons n t h=>.cons ⟨t,rfl⟩ (mJ h)
def zA (H:Hp):Prop:=∀ b,H b=none\/∃ o xs,H b=some (.frz o (.lst xs))
theorem xx {P:ER} {w:E2} {K:W.Frag} {mg mb:Str->Option Δ} {CX:CXT} {k:Nat} {fa a:Ω} {fd:GB} {x:Str} {sp:Sp} {s₁:A2} {vs:List Δ} {ns:List Int}
    (KX:K.In s₁.heap) (hns:s₁.heap.Ns Gs mg) (hb:s₁.heap.Ns builtinsNs mb) (hbb:∀ x:Str,x≠"__name__"->mb x=Fi x) (hlim:s₁.heap.NoLimit) (hg:s₁.gens=#[])
    (ha:s₁.heap.get? a=some { cls:=.type "list",data:=.seq vs.toArray }) (hi:Ko vs ns) (hl:ns.length<=EF) (hr:bT k Kl)
    (F:∀ base:FD,K.In base->base.Ns Gs mg->aP P w K mg base CX k fa fd [x] sp) (hbind:∀ (s:A2) (u:Δ),MB s fd ⟨[u],[]⟩ [(x,u)])
    (hsp:∀ H:Hp,zA H->SqL K H a (ns.map V.int)->sp [.ref a] H (fun v _=>v=.bl true) fun _ _ _=>False)
    (hCX:∀ H e s',CX [] H s₁ (fun _ _ _=>False) e s'->False) :
    IY (EZ P w) Kl (.call (.ref fa) ⟨[.ref a],[]⟩) (fun r s'=>r=.ok (.ret (.bool true))/\OldK s₁.heap s'.heap/\s'.os=s₁.os/\JK s'.gens) s₁:=by
  have rv:=mJ hi;have lenV:=hi.length
  -- from an abstract heap in which nothing but the script may be tracked
  have core:∀ H:Hp,zA H->SqL K H a (ns.map V.int)->HOk P w H s₁.heap->(∀ b,H b≠none->b=a)->(H a≠none->K.lookup a=none) ->
      IY (EZ P w) Kl (.call (.ref fa) ⟨[.ref a],[]⟩) (fun r s'=>r=.ok (.ret (.bool true))/\OldK s₁.heap s'.heap/\s'.os=s₁.os/\JK s'.gens) s₁:=by
    intro H hO hS hok hA hK;have base_of:∀ {b:Ω} {o:HC},s₁.heap.get? b=some o->H b=none->(nA s₁.heap H).get? b=some o:=fun e n=>xj e n;have noA:∀ {b:Ω} {o:HC} {es:Array DictEntry} {ep:Nat},s₁.heap.get? b=some o->o.data=.dict es ep->H b=none:=fun {b o es ep} e d=>by
      cases q:H b with
      | none=>rfl
      | some u =>
        have e':b=a:=hA b (by rw [q]; simp);subst e';rw [ha] at e; cases e;have d':Data.seq vs.toArray _=Data.dict es ep:=d
        cases d'
    have nsK:∀ {b:Ω} {m:Str->Option Δ},s₁.heap.Ns b m->(nA s₁.heap H).Ns b m:=fun {b m} ⟨o,es,ep,e,d,r⟩=>⟨o,es,ep,base_of e (noA e d),d,r⟩
    have hKb:K.In (nA s₁.heap H):=fun b o e=>base_of (KX b o e) (by
      cases q:H b with
      | none=>rfl
      | some u =>
        have e':b=a:=hA b (by rw [q]; simp);subst e';rw [hK (by rw [q]; simp)] at e; cases e)
    have hM:Mod K mg (nA s₁.heap H):=⟨hKb,nsK hns,⟨mb,nsK hb,hbb⟩,let ⟨mc,h1,h2⟩:=hlim; ⟨mc,nsK h1,h2⟩⟩
    have e0:qZ P w K mg (nA s₁.heap H) Kl [] s₁ H:=⟨rfl,hM,fun b o e=>Ag e,I_ (uR _ _),trivial,fun b hb=>absurd (show b∈([]:List Ω) from hb) (by simp),hok,.of_eq hg⟩
    refine IX ((F _ hKb (nsK hns)).run Kl [] s₁ H ⟨[.ref a],[]⟩ [.ref a] [.ref a] _ _ hr e0 (hbind s₁ (.ref a)) (.cons rfl .nil) (hsp H hO hS)) fun r s' h=>?_
    cases r with
    | error e=>exact (hCX H e s' h).elim
    | ok fl =>
      cases fl with
      | next=>exact GJ h
      | brk=>exact GJ h
      | cont=>exact GJ h
      | ret u =>
        obtain ⟨v,H',os,bare,un,hok',r',q⟩:=h;have q':v=.bl true:=q;subst q';obtain rfl:u=KI true:=r'
        refine ⟨rfl,OldK.of_keep fun b o e=>?_,os,bare⟩
        cases q:H b with
        | none=>exact un.keep b o e q (by intro z; exact absurd (show b∈([]:List Ω) from z) (by simp)) (by simp)
        | some u =>
          rcases hO b with z | ⟨ob,xs,z⟩
          · rw [q] at z; cases z
          · have z2:=un.frzs b ob _ z
            obtain ⟨e1,_⟩:=hok b _ z;obtain ⟨e2,_⟩:=hok' b _ z2;rw [e] at e1; cases e1;exact e2
  cases hk:K.lookup a with
  | some o =>
    -- the script is one of the module's own objects
    have e:=KX a o hk;rw [ha] at e
    cases e;refine core (fun _=>none) (fun _=>.inl rfl) (.inr ⟨_,vs.toArray,_,hk,rfl,rfl,rfl,by rw [EK,lenV]; exact hl,by simpa using rv⟩) (fun b u z=>by have z':(none:Option HO)=some u:=z; cases z') (fun b z=>absurd rfl z) fun z=>absurd rfl z
  | none =>
    refine core (fun b=>if b=a then some (.frz { cls:=.type "list",data:=.seq vs.toArray } (.lst (ns.map V.int))) else none) (fun b=>?_) (.inl (.inr ⟨{ cls:=.type "list",data:=.seq vs.toArray },if_pos rfl⟩)) (fun b u z=>?_) (fun b z=>?_) fun _=>hk
    · by_cases hb:b=a
      · exact .inr ⟨_,_,if_pos hb⟩
      · exact .inl (if_neg hb)
    · by_cases hb:b=a
      · have z':=(if_pos hb).symm.trans z
        cases z';subst hb;exact ⟨ha,by rw [Aj]; exact hl,vs,_,rv,ha⟩
      · have z':=(if_neg hb).symm.trans z
        cases z'
    · by_cases hb:b=a
      · exact hb
      · exact absurd (if_neg hb) z
noncomputable abbrev KOf {K:W.Frag} {h:FD} (_:K.In h):W.Frag:=K
theorem walk_of {l:Mj} {n k:Nat} {q:ER} {loose:List Str} {XP:(Str->Option Δ)->FD->Prop} {YP:E2->FD->Prop} {d:DefRec} {K:Params->W.Frag} {CX:E2->CXT} {sp:E2->Sp} {x:Str}
  (hn:l.most=some n) (hn2:n<=EF) (hdf:d.params.defaults=[]) (hr:bT k Kl)
  (hY:∀ (w:E2) (h:FD),YP w h->(K w.params).In h)
  (F:∀ (w:E2) (mg:Str->Option Δ) (fa:Ω) (h:FD),(K w.params).In h->h.Ns Gs mg->mg d.name=some (.ref fa) ->
   ∃ fd:GB,(∀ (s:A2) (u:Δ),MB s fd ⟨[u],[]⟩ [(x,u)]) /\
    ∀ base:FD,(K w.params).In base->base.Ns Gs mg->aP l.prog w (K w.params) mg base (CX w) k fa fd [x] (sp w))
  (hsp:∀ (w:E2) (H:Hp) (a:Ω) (ns:List Int),ns.length<=n->zA H->SqL (K w.params) H a (ns.map V.int)->sp w [.ref a] H (fun v _=>v=.bl true) fun _ _ _=>False)
  (hCX:∀ (w:E2) (H:Hp) (s:A2) (e:Δ) (s':A2),CX w [] H s (fun _ _ _=>False) e s'->False) :
  PySem.W.WalkO q loose XP YP l.row.toRowW d [] (fun f vs=>Je f vs):=by
 refine Att.o8 hn hdf fun w s₀ s₁ mg mb fa o pm cd doc a vs ns G Y ho hd hcd hmg hobj hints hlen hg=>?_;have KX:=hY w _ Y;obtain ⟨fd,hb,hF⟩:=F w mg fa _ KX G.T.g hmg;exact xx KX G.T.g G.T.b G.T.builtins G.T.nolimit hg hobj hints (FA hlen hn2) hr hF hb (fun H hO hS=>hsp w H a ns hlen hO hS) fun H e s'=>hCX w H s₁ e s'
theorem walk_ofK {l:Mj} {n k:Nat} {q:ER} {loose:List Str} {XP:(Str->Option Δ)->FD->Prop} {YP:E2->FD->Prop} {d:DefRec} {K:Params->W.Frag} {CX:CXT} {sp:W.Frag->Sp} {x:Str}
  (hn:l.most=some n) (hn2:n<=EF) (hdf:d.params.defaults=[]) (hr:bT k Kl)
  (hY:∀ (w:E2) (h:FD),YP w h->(K w.params).In h)
  (F:∀ (w:E2) (mg:Str->Option Δ) (fa:Ω) (h:FD),(K w.params).In h->h.Ns Gs mg->mg d.name=some (.ref fa) ->
   ∃ fd:GB,(∀ (s:A2) (u:Δ),MB s fd ⟨[u],[]⟩ [(x,u)]) /\
    ∀ base:FD,(K w.params).In base->base.Ns Gs mg->aP l.prog w (K w.params) mg base CX k fa fd [x] (sp (K w.params)))
  (hsp:∀ (K:W.Frag) (H:Hp) (a:Ω) (ns:List Int),ns.length<=n->zA H->SqL K H a (ns.map V.int)->sp K [.ref a] H (fun v _=>v=.bl true) fun _ _ _=>False)
  (hCX:∀ (H:Hp) (s:A2) (e:Δ) (s':A2),CX [] H s (fun _ _ _=>False) e s'->False) :
  PySem.W.WalkO q loose XP YP l.row.toRowW d [] (fun f vs=>Je f vs) :=
 walk_of (K:=K) (CX:=fun _=>CX) (sp:=fun w=>sp (K w.params)) hn hn2 hdf hr hY F (fun w H a ns h1 h2 h3=>hsp (K w.params) H a ns h1 h2 h3) fun _ H s e s'=>hCX H s e s'
end L2
namespace L2
open PySem PySem.Spec PyProof.Rows
noncomputable def cN (s:Jd) (j:Nat):Stmt:=match s with
 | .ClassDef _ _ _ body _ _ _ _ _ _ _=>body.getD j (.Pass ⟨0,0,0,0⟩)
 | _=>.Pass ⟨0,0,0,0⟩
noncomputable def c8 (s:Jd):Arguments:=match s with
 | .FunctionDef _ a _ _ _ _ _ _ _ _=>a
 | _=>{ posonlyargs:=[],args:=[],vararg:=none,kwonlyargs:=[],kw_defaults:=[],kwarg:=none,defaults:=[] }
noncomputable def cC (s:Jd):List Stmt:=match s with
 | .FunctionDef _ _ b _ _ _ _ _ _ _=>b
 | _=>[]
noncomputable def ak (s:Jd):Scope:=match s with
 | .FunctionDef _ _ _ _ _ _ sc _ _ _=>sc
 | _=>{ kind:=.function,names:=[],isGenerator:=false,isCoroutine:=false }
noncomputable abbrev CX0:CXT:=fun _ _ _ _ _ _=>False
abbrev E0:XK:=fun _ _ _=>False
theorem aB {X:Cx}:ft CX0 X E0:=fun _ _ _ _ _ _ _ h=>h.elim
structure Fun (K:W.Frag) (x qual:Str) (st:Jd) (f:Ω) (fd:GB):Prop where
 ex:∃ (oc:Δ) (od:Option Ω) (kV doc pm:Δ) (an:Option Ω) (cdv ct:Δ) (osl:Array (Option Δ)),
  fd=W.fnOf x qual (c8 st) (cC st) (ak st) .none kV doc pm an cdv ct/\K.lookup f=some ⟨oc,od,.func fd,osl⟩/\W.codeIn K cdv qual=true
 kp:W.keepIn K (.ref f)=true
section
variable {P:ER} {w:E2} {K:W.Frag} {mg:Str->Option Δ} {base:FD}
theorem Fun.ok {x qual:Str} {st:Jd} {f:Ω} {fd:GB} {N ps:List Str} {k:Nat} {sp:Sp} (F:Fun K x qual st f fd) (S:aw N ps (ak st)) (len:∀ vs H Q E,sp vs H Q E->vs.length=ps.length)
  (hbody:∀ (cdv:Δ) (A:E5) (outer:List K8) (s:A2) (H:Hp) (vs:List V) (Q:VK) (E:XK),bT k (A.deeper (Ju qual (ak st) s.heap.objs.size f cdv))->sp vs H Q E ->
   ∃ t,PSs (eW CX0 P w K mg base N qual (ak st) f cdv A outer s H E).nox (cC st) t/\t { nx:=fun _ H'=>Q .non H',rt:=Q } (start N vs) H):aP P w K mg base CX0 (k+1) f fd ps sp:=by
 obtain ⟨oc,od,kV,doc,pm,an,cdv,ct,osl,rfl,lk,hcd⟩:=F.ex;refine Bq lk hcd S len fun A outer s H vs Q E hr hsp=>?_;obtain ⟨t,h,q⟩:=hbody cdv A outer s H vs Q E hr hsp;exact ⟨t,h.nox,q⟩
theorem Fun.binds {x qual:Str} {st:Jd} {f:Ω} {fd:GB} {ps:List Str} (F:Fun K x qual st f fd)
  (h:∀ (kV doc pm:Δ) (an:Option Ω) (cdv ct:Δ) (us:List Δ),us.length=ps.length->J4 (W.fnOf x qual (c8 st) (cC st) (ak st) .none kV doc pm an cdv ct) ⟨us,[]⟩=pure (ps.zip us)):aH K fd ps []:=by
 obtain ⟨oc,od,kV,doc,pm,an,cdv,ct,osl,rfl,lk,hcd⟩:=F.ex;exact .all (h kV doc pm an cdv ct)
theorem fun_mk {x qual:Str} {st:Jd} {f:Ω} {oc:Δ} {od an:Option Ω} {osl:Array (Option Δ)} {kV doc pm cdv ct:Δ} (l:K.lookup f=some ⟨oc,od,.func (W.fnOf x qual (c8 st) (cC st) (ak st) .none kV doc pm an cdv ct),osl⟩)
  (c:W.codeIn K cdv qual=true) (k:W.keepIn K (.ref f)=true):Fun K x qual st f (W.fnOf x qual (c8 st) (cC st) (ak st) .none kV doc pm an cdv ct):=⟨⟨oc,od,kV,doc,pm,an,cdv,ct,osl,rfl,l,c⟩,k⟩
end
theorem tJ {A:E5} {k:Nat} (hr:bT k A):A.units+1<cLine:=E_ (Nat.add_le_add_left (by decide:1<=64) _) hr.units
theorem fm {n:Nat} (h:n<=1000):n<sizeLine:=E_ h (by decide)
section
variable {X:Cx}
theorem pv (i:Nat) {x:Str} {pos:Il} (hN:X.N[i]?=some x:=by rfl) (hv:Vis X.env.scope x:=by first | exact Fp rfl | exact JW (Fp rfl) | exact JW (JW rfl)) (hd:(x==("__debug__":Str))=false:=by decide)
  (hcd:(x==("__classdict__":Str))=false:=by decide):PE X (.Name x pos) (Df i):=Cy hN hv hd hcd
end
theorem Ea {A B:Prop} (h:B):if false=true then A else B:=by
 rw [if_neg E4];exact h
theorem lF {A B:Prop} (h:A):if true=true then A else B:=by
 rw [if_pos rfl];exact h
theorem jZ {c A B:Prop} [Decidable c] (h1:c->A) (h2:¬ c->B):if c then A else B:=by
 by_cases h:c
 ·rw [if_pos h];exact h1 h
 ·rw [if_neg h];exact h2 h
def ah (H H':Hp):Prop:=∀ b o,H b=some o->H' b=some o
theorem ah.refl (H:Hp):ah H H:=fun _ _ h=>h
theorem ah.trans {H H1 H2:Hp} (a:ah H H1) (b:ah H1 H2):ah H H2:=fun c o h=>b c o (a c o h)
theorem ah.free {H H':Hp} (e:ah H H') {l:Ω} (h:H' l=Option.none):H l=Option.none:=by
 cases q:H l with
 | none=>rfl
 | some o =>
  rw [e l o q] at h
  cases h
theorem ah.seq {K:W.Frag} {H H':Hp} {a:Ω} {xs:List V} (e:ah H H') (h:SqL K H a xs):SqL K H' a xs:=by
 rcases h with (h | ⟨o,h⟩) | h
 ·exact .inl (.inl (e _ _ h))
 ·exact .inl (.inr ⟨o,e _ _ h⟩)
 ·exact .inr h
noncomputable def cf (cells:List (Str×Ω)):List (Str×JR)->List (Str×Ω)->List (Str×Ω)
 | [],acc=>acc
 | (n,k)::r,acc=>cf cells r (if k==.free then (n,(cells.lookup n).getD 0)::acc else acc)
theorem gQ {scope:Jl} {env:K8} (h:∀ x∈scope.names,x.2=.free->∃ c,env.cells.lookup x.1=some c):closureFor scope env=pure (cf env.cells scope.names []):=by
 unfold closureFor;generalize hn:scope.names=names at h ⊢;clear hn;generalize ([]:List (Str×Ω))=acc
 induction names generalizing acc with
 | nil=>simp [cf]
 | cons x r ih =>
  obtain ⟨n,k⟩:=x;have ih':=fun a=>ih (fun x hx=>h x (Θ _ hx)) a;simp only [Io,bind_pure] at ih' ⊢;by_cases hk:k=.free
  ·obtain ⟨c,hc⟩:=h (n,k) θ hk;subst hk;have hcl:cellOf env n=pure c:=by simp only [cellOf,hc]
   simp only [beq_self_eq_true,if_true,hcl,hc,pure_bind,cf,Km]
   simpa using ih' _
  ·have hb:(k==IP)=false:=by simpa using hk
   simp only [hb,FJ,if_false,pure_bind,cf]
   simpa using ih' _
theorem dZ {cells:List (Str×Ω)} {y:Str} {c:Ω}:∀ {names:List (Str×JR)} {acc:List (Str×Ω)},(∀ x∈names,x.2=.free->∃ c,cells.lookup x.1=some c)->(acc.lookup y=some c->cells.lookup y=some c) ->
  (cf cells names acc).lookup y=some c->cells.lookup y=some c
 | [],_,_,ha,e=>ha e
 | (n,k)::r,acc,h,ha,e=>by
  unfold cf at e;refine dZ (names:=r) (fun x hx=>h x (Θ _ hx)) (fun e'=>?_) e;by_cases hk:k=.free
  ·obtain ⟨d,hd⟩:=h (n,k) θ hk;subst hk;simp only [beq_self_eq_true,if_true,hd,Km,K2] at e'
   cases q:y==n with
   | true =>
    rw [q] at e';have:y=n:=by simpa using q
    subst this;exact hd.trans e'
   | false=>rw [q] at e'; exact ha e'
  ·have hb:(k==IP)=false:=by simpa using hk
   simp only [hb,FJ,if_false] at e';exact ha e'
theorem gW {cells:List (Str×Ω)} {y:Str}:∀ {names:List (Str×JR)} {acc:List (Str×Ω)},((y,IP)∈names\/∃ c,acc.lookup y=some c)->∃ c,(cf cells names acc).lookup y=some c
 | [],_,h=>by simpa [cf] using h
 | (n,k)::r,acc,h=>by
  unfold cf;refine gW (names:=r) ?_;rcases h with h | ⟨c,h⟩
  ·rcases Bb.mp h with e | e
   ·cases e;right
    simp
   ·exact .inl e
  ·right
   by_cases hk:(k==IP)=true
   ·rw [if_pos hk,K2]
    cases y==n
    ·exact ⟨c,h⟩
    ·exact ⟨_,rfl⟩
   ·rw [if_neg hk];exact ⟨c,h⟩
def PTs (X:Cx) (ifs:List Fo) (t:TT):Prop :=
 ∀ (pins:List (Ω×HC)) (s:A2) (σ:St) (H:Hp) (Q:Bool->Hp->Prop),Inv X pins σ H s->t σ H Q ->
  EM (EZ X.prog X.w) X.A (forIn ifs true fun c r=>if r=true then do let ok <- isTrue c X.env (Gf c X.env); pure (JO ok) else pure (JO r)) (TP X pins σ Q) X.xe s
def gU:TT:=fun _ H Q=>Q true H
theorem bX {X:Cx}:PTs X [] gU:=fun _ _ _ H _ I h=>wpAny_tests_nil ⟨H,I,h⟩
theorem jG {X:Cx} {c:Fo} {t:TT} (h:PT X c t):PTs X [c] t:=fun pins s σ H Q I hw=>wpAny_tests_one (h pins s σ H Q I hw)
noncomputable def Cx.block (X:Cx) (scope:Jl) (N:List Str) (s:A2) (H:Hp) (fp:List Ω):Cx where
 prog:=X.prog
 w:=X.w
 K:=X.K
 mg:=X.mg
 base:=X.base
 A:=X.A
 N:=N
 s₀:=s
 H₀:=H
 env:=compEnvC scope (cf X.env.cells scope.names []) s.heap.objs.size X.env
 outer:=X.stack
 stack:=X.stack
 ex:=fp
 fn:=fun _=>false
 calm:=X.calm
 pn:=[]
 xe:=fun _ _=>False
noncomputable def xp:Option JR->Bool
 | some .cell=>true
 | some .free=>true
 | _=>false
theorem jX {k:Option JR} (h:xp k=true):k=some .cell\/k=some .free:=by
 unfold xp at h
 split at h
 ·exact .inl rfl
 ·exact .inr rfl
 ·cases h
structure dG (X:Cx) (scope:Jl) (N:List Str) (cap:List (Option Nat)):Prop where
 kind:scope.kind=.function
 nocell:(scope.names.all fun y=>!(y.2==.cell))=true
 loc:(scope.names.all fun y=>!(y.2==.local)||(scope.names.lookup y.1==some .local))=true
 fre:(scope.names.all fun y=>!(y.2==.free)||xp (X.env.kindOf y.1))=true
 len:cap.length=N.length
 cap:((cap.zip N).all fun p=>match p.1 with | none=>true | some j=>(X.N[j]?==some p.2)&&xp (X.env.kindOf p.2)&&xp ((relabel scope X.env).names.lookup p.2))=true
noncomputable def eQ (cap:List (Option Nat)) (σ:St):St:=cap.map fun o=>match o with | none=>none | some j=>(σ[j]?).join
section
variable {X:Cx} {pins:List (Ω×HC)} {σ:St} {H:Hp} {s:A2} {fp:List Ω} {scope:Jl} {N:List Str} {cap:List (Option Nat)}
theorem dG.freeH (c:dG X scope N cap) (ok:X.Ok):∀ x∈scope.names,x.2=.free->∃ a,X.env.cells.lookup x.1=some a:=fun x hx hf=>by
 have:=Hz.mp c.fre x hx
 rw [hf] at this;simp only [beq_self_eq_true,Bool.not_true,KN] at this;exact ok.has x.1 (jX this)
theorem iS {scope:Jl} {env:K8} {y:Str} (h:(relabel scope env).names.lookup y=some .cell\/(relabel scope env).names.lookup y=some .free) (nc:∀ z∈scope.names,z.2≠.cell):(y,IP)∈scope.names:=by
 unfold relabel at h;dsimp only at h;generalize scope.names=names at h nc
 induction names with
 | nil=>simp at h
 | cons z r ih =>
  obtain ⟨n,k⟩:=z;have nc':∀ z∈r,z.2≠.cell:=fun z hz=>nc z (Θ _ hz);rw [EW,K2] at h;have nck:=nc (n,k) θ;dsimp only at h nck;by_cases hc:(k==IP&&env.scope.kind==.function&&env.kindOf n==some .cell)=true
  ·rw [if_pos hc] at h;dsimp only at h
   have hk:k=.free:=by
    simp only [FL,beq_iff_eq] at hc;exact hc.1.1
   cases q:y==n with
   | true=>rw [show y=n from by simpa using q,hk]; exact θ
   | false=>rw [q] at h; exact Θ _ (ih h nc')
  ·rw [if_neg hc] at h;dsimp only at h
   cases q:y==n with
   | true =>
    rw [q] at h;rcases h with h | h
    ·cases h; exact absurd rfl nck
    ·cases h; rw [show y=n from by simpa using q]; exact θ
   | false=>rw [q] at h; exact Θ _ (ih h nc')
theorem dG.nc (c:dG X scope N cap):∀ z∈scope.names,z.2≠.cell:=fun z hz e=>by
 have:=Hz.mp c.nocell z hz
 rw [e] at this;exact absurd this (by decide)
theorem dG.lc (c:dG X scope N cap):∀ x∈scope.names,x.2=.local->scope.names.lookup x.1=some .local:=fun x hx e=>by
 have:=Hz.mp c.loc x hx
 rw [e] at this
 simpa using this
theorem wI (c:dG X scope N cap) (I:Inv X pins σ H s) (hf:∀ b∈fp,gJ X pins H b) (hlt:∀ b∈fp,b<s.heap.objs.size):(X.block scope N s H fp).Ok:=by
 have lk:∀ {y:Str} {a:Ω},(cf X.env.cells scope.names []).lookup y=some a->X.env.cells.lookup y=some a:=fun e=>dZ (c.freeH I.ok) (fun z=>by simp at z) e;refine ⟨I.ok.mod,c.kind,I.ok.glob,I.ok.blt,A_ _,fun x y a h1 h2=>I.ok.inj x y a (lk h1) (lk h2),fun x hx=>gW (.inl (iS hx c.nc)),fun x a h=>absurd h (by simp [Cx.block]),I.ok.hd,I.ok.frames,.inl rfl,fun b hb=>⟨?_,fun x a h=>(hf b hb).2.2.2.2.1 x a (lk h)⟩,I.bs,FA I.ok.bsz I.sz,fun b o e hb=>?_,fun b hb z=>?_,I.stack,I.stkFree⟩
 ·exact EH (hlt b hb)
 ·rcases (hf b hb).2.2.2.1 with z | z
  ·exact I.ok.noex b o e z
  ·exact absurd (EU (EC (I.ok.bs b o e).1) z) (Gj _)
 ·rcases Bb.mp (I.stkSub b z) with e | e
  ·exact (hf b hb).2.1 e
  ·exact (hf b hb).2.2.1 e
theorem wL {i:Nat} {v:V} (h:(eQ cap σ)[i]?=some (some v)):∃ j,cap[i]?=some (some j)/\σ[j]?=some (some v):=by
 unfold eQ at h;rw [EX] at h
 cases q:cap[i]? with
 | none=>rw [q] at h; cases h
 | some o =>
  rw [q] at h
  cases o with
  | none => cases h
  | some j =>
   refine ⟨j,rfl,?_⟩;have h':(σ[j]?).join=some v:=Ez h
   cases q2:σ[j]? with
   | none=>rw [q2] at h'; cases h'
   | some o =>
    rw [q2] at h';have:o=some v:=h'
    rw [this]
theorem uF (c:dG X scope N cap) (I:Inv X pins σ H s) (hf:∀ b∈fp,gJ X pins H b) (hlt:∀ b∈fp,b<s.heap.objs.size) {h1:FD} {t1:Nat} (hns:h1.Ns s.heap.objs.size (fun x=>([]:List (Str×Δ)).reverse.lookup x))
  (hsb:G0 s.heap.objs.size (s.heap.push { cls:=.type (if (some X.env:Option K8).isSome then "dict" else "frame"),data:=.dict #[] }) h1):Inv (X.block scope N s H fp) [] (eQ cap σ) H { s with heap:=h1,toks:=t1 }:=by
 have lk:∀ {y:Str} {a:Ω},(cf X.env.cells scope.names []).lookup y=some a->X.env.cells.lookup y=some a:=fun e=>dZ (c.freeH I.ok) (fun z=>by simp at z) e;have keep:∀ b o,s.heap.get? b=some o->h1.get? b=some o:=fun b o e=>(hsb.2 b (EH (EC e))).trans (χ _ e);have cellK:∀ {a:Ω} {v:Option Δ},s.heap.IsCell a v->h1.IsCell a v:=fun ⟨o,e,d⟩=>⟨o,keep _ _ e,d⟩
 refine ⟨wI c I hf hlt,rfl,I.bare,Un.kept keep,⟨_,hns,fun i x v h1 h2 h3=>?_⟩,fun x a e=>?_,I.hok.fresh (A_ _),fun x a e=>I.freeC x a (lk e),fun p hp=>absurd (show p∈([]:List (Ω×HC)) from hp) (by simp),I.hok.kept keep,?_⟩
 ·obtain ⟨j,hc,hs⟩:=wL h2;have hN:N[i]?=some x:=h1;have hz:(cap.zip N)[i]?=some (some j,x):=by rw [JG]; exact ⟨hc,hN⟩
  have:=Hz.mp c.cap _ (ES hz)
  simp only [FL,beq_iff_eq] at this;obtain ⟨⟨e1,e2⟩,e3⟩:=this;obtain ⟨m,hn,hl⟩:=I.loc;have hk:=jX e2;obtain ⟨u,r,l⟩:=hl j x v e1 hs (by rcases hk with z | z; exact .inr (.inl z); exact .inr (.inr z));refine ⟨u,r,?_⟩;rcases l with ⟨l,_⟩ | ⟨_,a,ea,ca⟩
  ·rw [l] at hk; rcases hk with z | z<;>cases z
  ·have hk':=jX e3;obtain ⟨a',ha'⟩:=gW (cells:=X.env.cells) (acc:=[]) (.inl (iS hk' c.nc));have:a'=a:=Ez ((lk ha').symm.trans ea)
   subst this;exact .inr ⟨hk',a',ha',cellK ca⟩
 ·obtain ⟨v,hv⟩:=I.cell x a (lk e);exact ⟨v,cellK hv⟩
 ·unfold eQ;rw [Aj];exact c.len
end
theorem pC {prog:ER} {w:E2} {A:E5} {R:Result->A2->Prop} {s:A2} {elt target iter:Fo} {ifs:List Fo} {scope:Jl} {pos:Il} {it acc:Δ} {env:K8} (J:Nat->A2->Prop)
    (turn:∀ n s,J n s->EM (EZ prog w) A (KW it) (fun r s₁=>match r with
      | none=>R (.ok .next) s₁
      | some v=>EM (EZ prog w) A (KH target it v) (fun _ s₀=>EM (EZ prog w) A (assign target env v) (fun _ s₂ =>
          EM (EZ prog w) A (forIn ifs true fun c r=>if r=true then do let ok <- isTrue c env (Gf c env); pure (JO ok) else pure (JO r)) (fun ok s₃ =>
            if ok=true then EM (EZ prog w) A (Gf elt env) (fun x s₄ =>
              EM (EZ prog w) A (call (.builtin "list.append") [acc,x]) (fun _ s₅=>∃ m,m<n/\J m s₅) (fun _ _=>False) s₄) (fun _ _=>False) s₃
            else ∃ m,m<n/\J m s₃) (fun _ _=>False) s₂) (fun _ _=>False) s₀) (fun _ _=>False) s₁) (fun _ _=>False) s)
    (n:Nat) (h:J n s) :
    IY (EZ prog w) A (.compLoop (.ListComp elt [⟨target,iter,ifs,0⟩] scope pos) 0 it acc env) R s:=by
  refine codeAny_loop rfl J (fun n s hI=>?_) n h
  show EM _ A ((compTurn (.ListComp elt [⟨target,iter,ifs,0⟩] scope pos) 0 it acc env).onRaise (fun x=>do noteFrame x env; theTreesLotGoes x)) _ _ s
  refine wpAny_noted ?_;rw [compTurn_list];refine ξ (wpAny_standAt (ξ (GO (turn n s hI) (fun r s₁ h₁=>?_) fun _ _ h'=>h'.elim)))
  cases r with
  | none => exact B_ h₁
  | some v =>
    refine ξ (GO h₁ (fun _ s₀ h₀=>?_) fun _ _ h'=>h'.elim);refine ξ (GO h₀ (fun _ s₂ h₂=>ξ (GO h₂ (fun ok s₃ h₃=>?_) fun _ _ h'=>h'.elim)) fun _ _ h'=>h'.elim)
    cases ok with
    | false=>exact B_ ⟨rfl,h₃⟩
    | true =>
      exact ξ (ξ (GO h₃ (fun x s₄ h₄=>ξ (GO h₄ (fun _ s₅ h₅=>B_ (B_ ⟨rfl,h₅⟩)) fun _ _ h'=>h'.elim)) fun _ _ h'=>h'.elim))
def uo (wi:TI) (g:TG) (tt:TT) (te:TE) (cap:List (Option Nat)):TE:=fun σ H Q=>wi σ H fun J H1=>∀ l,H1 l=none ->
 ∃ (n:Nat) (Pv:Nat->List V->St->Hp->Prop),Pv 0 [] (eQ cap σ) (upd H1 l (.lst [])) /\
  (∀ i ys σ' H',i<n->Pv i ys σ' H'->J.go i H'/\∀ x H2,J.yld i H' x H2->g x σ' H2 fun σ3 H3=>tt σ3 H3 fun b H4 =>
   if b=true then te σ3 H4 fun y H5=>H5 l=some (.lst ys)/\ys.length<EF/\Pv (i+1) (ys++[y]) σ3 (upd H5 l (.lst (ys++[y]))) else Pv (i+1) ys σ3 H4) /\
  ∀ ys σ' H',Pv n ys σ' H'->J.stop n H'/\Q (.ref l) H'
section
variable {X:Cx} {elt tg iter:Fo} {ifs:List Fo} {scope:Jl} {pos:Il} {N:List Str} {cap:List (Option Nat)} {wi:TI} {g:TG} {tt:TT} {te:TE}
theorem pE {U:Δ->Ω->A2->Prop} (hc:X.calm=true) (c:dG X scope N cap) (hi:PI X tg iter wi) (hg:∀ s H fp,PG (X.block scope N s H fp) tg g) (ht:∀ s H fp,PTs (X.block scope N s H fp) ifs tt)
    (he:∀ s H fp,PE (X.block scope N s H fp) elt te)
    {pins:List (Ω×HC)} {s:A2} {σ:St} {H:Hp} {Q:VK} (I:Inv X pins σ H s) (h:uo wi g tt te cap σ H Q)
    (hU:∀ (l C:Ω) (H':Hp) (s':A2),Inv X pins σ H' s'->(∃ m,s'.heap.Ns C m)->gJ X pins H' C->Q (.ref l) H'->U (.ref l) C s')
    {RR:Δ->Ω->Result->A2->Prop} (hRR:∀ a C s',U a C s'->RR a C (.ok .next) s') :
    EM (EZ X.prog X.w) X.A (Gf iter X.env) (fun x s₁=>EM (EZ X.prog X.w) X.A (pyIter x) (fun it s₂=>EM (EZ X.prog X.w) X.A (newList []) (fun acc s₃ =>
      EM (EZ X.prog X.w) X.A (newFunctionEnv scope X.env.globals (cf X.env.cells scope.names []) [] X.env.qual none .none (some X.env)) (fun cenv s₄ =>
        IY (EZ X.prog X.w) X.A (.compStart (.ListComp elt [⟨tg,iter,ifs,0⟩] scope pos) 0 it acc { cenv with scope:=relabel scope X.env }) (RR acc cenv.locals) s₄) X.xe s₃) X.xe s₂) X.xe s₁) X.xe s:=by
  refine thn (hi pins s σ H _ I h) fun v s1 h1=>thn h1 fun itv s2 h2=>?_;obtain ⟨it,fp,tn,J,H2,e,I2,T,st2,f2,hq⟩:=h2;subst e;have hl:H2 s2.heap.objs.size=none:=I2.hok.fresh (A_ _);obtain ⟨n,Pv,p0,step,fin⟩:=hq _ hl;refine Gw ?_ (by show 0<=EF; exact En _)
  have I3:Inv X pins σ (upd H2 s2.heap.objs.size (.lst [])) { s2 with heap:=s2.heap.push { cls:=.type "list",data:=.seq ([]:List Δ).toArray } } :=
    I2.laid (t':=s2.toks) (fun b u e=>χ _ e) (A_ _) ⟨En _,[],_,.nil,EB _ rfl⟩
  generalize hs3:({ s2 with heap:=s2.heap.push { cls:=.type "list",data:=.seq ([]:List Δ).toArray } }:A2)=s3 at I3 ⊢;have k23:∀ b o,s2.heap.get? b=some o->s3.heap.get? b=some o:=fun b o e=>by rw [<- hs3]; exact χ _ e
  have fplt2:∀ b∈fp,b<s2.heap.objs.size:=fun b hb=>let ⟨o,e,_⟩:=T.obj _ _ st2 b hb; EC e;have sz23:s2.heap.objs.size<=s3.heap.objs.size:=by rw [<- hs3]; show _<=(s2.heap.push _).objs.size; rw [GF]; exact G3 _
  have fplt:∀ b∈fp,b<s3.heap.objs.size:=fun b hb=>EU (fplt2 b hb) sz23;have f3:∀ b∈fp,gJ X pins (upd H2 s2.heap.objs.size (.lst [])) b:=fun b hb=>⟨by rw [aj (EH (fplt2 b hb))]; exact (f2 b hb).1,(f2 b hb).2⟩
  have st3:tn 0 s3.heap:=T.keep _ _ _ st2 fun b hb o e=>k23 b o e;refine wpAny_newFunctionEnv c.nc (by intro y hy; simp at hy) (fun h4 hns hsb=>?_) c.kind;have I4:=uF (t1:=s3.toks+([]:List (Str×Δ)).length) c I3 f3 fplt hns hsb;have st4:tn 0 h4:=T.keep _ _ _ st3 fun b hb o e=>(hsb.2 b (EH (fplt b hb))).trans (χ _ e);generalize hY:X.block scope N s3 (upd H2 s2.heap.objs.size (.lst [])) fp=Y at I4;have yP:Y.prog=X.prog:=by rw [<- hY]; rfl
  have yw:Y.w=X.w:=by rw [<- hY]; rfl
  have yK:Y.K=X.K:=by rw [<- hY]; rfl
  have yA:Y.A=X.A:=by rw [<- hY]; rfl
  have yx:Y.xe=fun _ _=>False:=by rw [<- hY]; rfl
  have yc:Y.calm=true:=by rw [<- hY]; exact hc
  have yex:Y.ex=fp:=by rw [<- hY]; rfl
  have yfs:Y.fs=frs X.stack:=by rw [<- hY]; rfl
  have yH:Y.H₀=upd H2 s2.heap.objs.size (.lst []):=by rw [<- hY]; rfl
  have ys:Y.s₀=s3:=by rw [<- hY]; rfl
  have yC:Y.env.locals=s3.heap.objs.size:=by rw [<- hY]; rfl
  have yenv:compEnvC scope (cf X.env.cells scope.names []) s3.heap.objs.size X.env=Y.env:=by rw [<- hY]; rfl
  have yg:=hg s3 (upd H2 s2.heap.objs.size (.lst [])) fp;have yt:=ht s3 (upd H2 s2.heap.objs.size (.lst [])) fp;have ye:=he s3 (upd H2 s2.heap.objs.size (.lst [])) fp;have ypn:Y.pn=[]:=by rw [<- hY]; rfl
  have ycl:Y.env.cells=cf X.env.cells scope.names []:=by rw [<- hY]; rfl
  rw [hY] at yg yt ye;have lk:∀ {y:Str} {a:Ω},Y.env.cells.lookup y=some a->X.env.cells.lookup y=some a:=fun e=>by rw [ycl] at e; exact dZ (c.freeH I.ok) (fun z=>by simp at z) e
  have stat:∀ {H':Hp},(∀ b∈fp,H' b=none)->∀ b∈fp,gJ Y [] H' b:=fun hn b hb=>by
    refine ⟨hn b hb,by rw [yC]; exact EH (fplt b hb),?_,.inl (by rw [yex]; exact hb),fun x a e=>(f2 b hb).2.2.2.2.1 x a (lk e),fun p hp=>?_⟩
    · rw [yfs]
      intro z;rcases Bb.mp (I2.stkSub b z) with e | e
      · exact (f2 b hb).2.1 e
      · exact (f2 b hb).2.2.1 e
    · rw [ypn] at hp
      exact absurd hp (by simp)
  -- the end
  have done:∀ {σ':St} {H':Hp} {s':A2},Inv Y [] σ' H' s'->Q (.ref s2.heap.objs.size) H'->U (.ref s2.heap.objs.size) s3.heap.objs.size s':=fun {σ' H' s'} J' q=>by
    have un:=J'.base;rw [yfs,yex,yH,ys] at un;have J3:=I3.call' (s':=s') (ch:=fp) (by rw [J'.os,ys]) un (by have:=J'.hok; rw [yP,yw] at this; exact this) J'.bare fun b hb=>⟨(f3 b hb).2.2.2.1,(f3 b hb).2.1,(f3 b hb).2.2.2.2.1,(f3 b hb).2.2.2.2.2⟩
    have hCn:H' s3.heap.objs.size=none:=by have:=J'.free; rw [yC] at this; exact this
    have hne:s3.heap.objs.size≠X.env.locals:=Jw I3.lt;have hcl:∀ x a,X.env.cells.lookup x=some a->a≠s3.heap.objs.size:=fun x a e=>let ⟨_,o,ho,_⟩:=I3.cell x a e; EH (EC ho);have hpn:∀ p∈X.pn++pins,p.1≠s3.heap.objs.size:=fun p hp=>EH (EC (I3.pin p hp).1);obtain ⟨m,hn,_⟩:=J'.loc;rw [yC] at hn;exact hU _ _ H' s' J3 ⟨m,hn⟩ ⟨hCn,hne,I3.nofs (A_ _),.inr I3.sz,hcl,hpn⟩ q
  have loop:∀ s5:A2,s5={ s3 with heap:=h4,toks:=s3.toks+([]:List (Str×Δ)).length } ->
      IY (EZ X.prog X.w) X.A (.compLoop (.ListComp elt [⟨tg,iter,ifs,0⟩] scope pos) 0 (.ref it) (.ref s2.heap.objs.size) Y.env) (RR (.ref s2.heap.objs.size) s3.heap.objs.size) s5:=by
    rintro s5 rfl;refine pC (fun k s'=>∃ i ys σ' H',Inv Y [] σ' H' s'/\tn i s'.heap/\(∀ b∈fp,H' b=none)/\i<=n/\k=n - i/\Pv i ys σ' H') ?_ n ⟨0,[],_,_,I4,st4,fun b hb=>(f3 b hb).1,En _,rfl,p0⟩;rintro k s6 ⟨i,zs,σ6,H6,I6,st6,fr6,hin,rfl,pv6⟩;by_cases hlt:i<n
    · obtain ⟨go,stp⟩:=step i zs σ6 H6 hlt pv6
      have q:=T.item Y yP yw yK yc i [] s6 σ6 H6 (fun _ _=>False) I6 (stat fr6) st6 go;rw [yA] at q;refine thn q fun r s7 ⟨u,hr,h7⟩=>?_;subst hr;refine thn h7 fun _ s8 ⟨x,H8,I8,r8,y8,st8,fr8⟩=>?_;have I8':=I8.pinned (stat fr8) (T.obj _ _ st8);have q:=yg _ s8 σ6 H8 x u _ I8' r8 (stp x H8 y8);rw [yP,yw,yA,yx] at q;refine thn q fun _ s9 ⟨σ9,H9,I9,q9⟩=>?_;have q:=yt _ s9 σ9 H9 _ I9 q9;rw [yP,yw,yA,yx] at q;refine thn q fun b s10 ⟨H10,I10,q10⟩=>?_;have again:∀ {ws:List V} {σ':St} {H':Hp} {s':A2},Inv Y ([]++kA fp s8.heap) σ' H' s'->Pv (i+1) ws σ' H'->∃ m,m<n - i/\∃ i ys σ' H',Inv Y [] σ' H' s'/\tn i s'.heap/\(∀ b∈fp,H' b=none)/\i<=n/\m=n - i/\Pv i ys σ' H':=fun {ws σ' H' s'} J' p'=>by
        refine ⟨n - (i+1),by omega,i+1,ws,σ',H',J'.unpinned,T.keep _ _ _ st8 fun b hb o e=>(J'.pin (b,o) (ED _ (ED _ (fB hb e)))).1,fun b hb=>?_,hlt,rfl,p'⟩;obtain ⟨o,e,d⟩:=T.obj _ _ st8 b hb;exact (J'.pin (b,o) (ED _ (ED _ (fB hb e)))).2.1
      cases b with
      | false=>exact again I10 q10
      | true =>
        have q10:=(if_pos (α:=Prop) rfl).mp q10;have q:=ye _ s10 σ9 H10 _ I10 q10;rw [yP,yw,yA,yx] at q;refine lF ?_;refine thn q fun xv s11 ⟨y,H11,I11,r11,hl11,hz,p11⟩=>?_;have q:=a8 (X:=Y) _ s11 σ9 H11 (.ref s2.heap.objs.size) [y] _ [xv] (fun _ H'=>Pv (i+1) (zs++[y]) σ9 H') I11 rfl (.cons r11 .nil) ⟨_,_,_,rfl,rfl,hl11,hz,p11⟩;rw [yP,yw,yA,yx] at q;exact thn q fun _ s12 ⟨_,H12,I12,_,p12⟩=>again I12 p12
    · have e:i=n:=by omega
      subst e;obtain ⟨stop,q⟩:=fin zs σ6 H6 pv6;have qd:=T.done Y yP yw yK yc i [] s6 σ6 H6 (fun _ _=>False) I6 (stat fr6) st6 stop;rw [yA] at qd;refine thn qd fun r s7 ⟨hr,I7⟩=>?_;subst hr;exact hRR _ _ _ (done I7 q)
  show IY _ _ (.compStart _ 0 (.ref it) _ (compEnvC scope (cf X.env.cells scope.names []) s3.heap.objs.size X.env)) (RR (.ref s2.heap.objs.size) s3.heap.objs.size) _
  rw [yenv];exact codeAny_compStart_list (loop _ rfl) (T.self X.A 0 _ _ _ st4 (loop _ rfl))
theorem gJ.turned {pins:List (Ω×HC)} {σ:St} {H:Hp} {s:A2} {C:Ω} {h':FD} (f:gJ X pins H C) (I:Inv X pins σ H s) (sb:G0 C s.heap h'):Inv X pins σ H { s with heap:=h' } :=
 I.turned (t':=s.toks) (fun b o hb e=>(sb.2 b hb).trans e) f.1 f.2.1 f.2.2.2.1 f.2.2.2.2.1 f.2.2.2.2.2
theorem bW (hc:X.calm=true) (c:dG X scope N cap) (hi:PI X tg iter wi) (hg:∀ s H fp,PG (X.block scope N s H fp) tg g) (ht:∀ s H fp,PTs (X.block scope N s H fp) ifs tt)
  (he:∀ s H fp,PE (X.block scope N s H fp) elt te) (hs:∀ x,LH iter X.env x=pure x:=by intro _; rfl):PE X (.ListComp elt [⟨tg,iter,ifs,0⟩] scope pos) (uo wi g tt te cap):=by
 intro pins s σ H Q I h;rw [eval_ListComp];refine MV rfl hs (gQ (c.freeH I.ok)) c.kind c.lc ?_;exact pE (U:=fun a C s'=>∃ m,s'.heap.Ns C m/\∀ h',G0 C s'.heap h'->EP X pins σ Q a { s' with heap:=h' }) hc c hi hg ht he I h
  (fun l C H' s' I' ⟨m,hn⟩ f q=>⟨m,hn,fun h' sb=>⟨.ref l,H',f.turned I' sb,rfl,q⟩⟩) fun a C s' u=>u
theorem jF {i:Nat} {x:Str} {pos' pos2:Il} (hN:X.N.Nodup) (hi':X.N[i]?=some x) (hx:Loc X.env.scope x) (hc:X.calm=true) (c:dG X scope N cap) (hi:PI X tg iter wi) (hg:∀ s H fp,PG (X.block scope N s H fp) tg g) (ht:∀ s H fp,PTs (X.block scope N s H fp) ifs tt)
  (he:∀ s H fp,PE (X.block scope N s H fp) elt te) (hsw:Kg (.ListComp elt [⟨tg,iter,ifs,0⟩] scope pos) (some (.Name x pos')) pos2.line X.env=pure true) (hs:∀ x,LH iter X.env x=pure x:=by intro _; rfl)
  (hf:X.fn x=true\/X.env.scope.names.lookup x=some .local:=by first | exact .inl rfl | exact .inr rfl | assumption):PS X (.Assign [.Name x pos'] (.ListComp elt [⟨tg,iter,ifs,0⟩] scope pos) pos2) (Bf (uo wi g tt te cap) (cT i)):=by
 intro pins s σ H D I h;rw [exec_Assign_Name_used _ _ _ _ hsw];refine ξ (wpAny_standAt (ξ ?_))
 show EM _ X.A (do let _ <- comprehension (.ListComp elt [⟨tg,iter,ifs,0⟩] scope pos) scope X.env _ (newList []) false (Gf iter X.env) (some (assign (.Name x pos') X.env))) _ _ s
 refine ξ (GO (MV (Q:=fun _ s'=>SP X pins D .next s') rfl hs (gQ (c.freeH I.ok)) c.kind c.lc ?_) (fun _ s' hq=>B_ (B_ hq)) fun _ _ e=>e);refine pE (U:=fun a C s'=>EM (EZ X.prog X.w) X.A (assign (.Name x pos') X.env a) (fun _ s''=>∃ m,s''.heap.Ns C m/\∀ h',G0 C s''.heap h'->SP X pins D .next { s'' with heap:=h' }) X.xe s') hc c hi hg ht he I h ?_ fun a C s' u=>u;intro l C H' s' I' hn f q;obtain ⟨m,o,es,ep,ho,hd,r⟩:=hn;have I2:Inv X (pins++[(C,o)]) σ H' s':=I'.pins_of fun p hp=>by
  rcases EG.mp hp with z | z
  ·exact I'.pin p (ED _ z)
  ·have e:p=(C,o):=by simpa using z
   subst e;exact ⟨ho,f.1,f.2.1,f.2.2.1,fun v z=>by rw [hd] at z; cases z⟩
 refine wpAny_assign_Name (lh I2 hN hi' hx (v:=.ref l) rfl (fun s2 I3=>?_) hf);have pc:=(I3.pin (C,o) (ED _ (ED _ θ))).1;exact ⟨m,⟨o,es,ep,pc,hd,r⟩,fun h' sb=>⟨_,H',f.turned I3.unpinned sb,q⟩⟩
end
section
variable {X:Cx}
theorem pj:bL X (.builtin "isinstance") (fun xs H Q=>∃ x n t b,xs=[x,.ty n]/\gL X.K H x t/\W.kitOne X.K t (.type n)=some b/\Q (.bl b) H):=by
 intro pins s σ H xs us Q I r h;obtain ⟨x,n,t,b,rfl,ty,e,q⟩:=h;obtain ⟨u,v,rfl,ru,rv⟩:=r.two
 cases (show v=Fq n from rv)
 exact uT I ru ty e fun tk=>⟨.bl b,H,I.tok tk,rfl,q⟩
theorem xm {A:E5} (h:A.handled=none):A.in1.handled=none:=h
theorem wo {its:List Δ} {bs:List Bool} (r:Vals (bs.map V.bl) its) {i:Nat} {v:Δ} (e:its[i]?=some v):v=.bool (bs.getD i false):=by
 have hl:=r.length;rw [Aj] at hl;have hi:i<its.length:=(Bc.mp e).1
 have hb:(bs.map V.bl)[i]?=some (V.bl (bs.getD i false)):=by
  rw [EX,Ex,ς (by omega)];rfl
 obtain ⟨u,hu,ru⟩:=r.get hb;rw [e] at hu
 cases hu;exact ru
theorem vD (bs:List Bool):(FG bs.length).all (fun i=>bs.getD i false)=bs.all id:=by
 rw [Hh];simp only [Hz,FE,id];constructor
 ·intro h b hb;obtain ⟨i,hi,rfl⟩:=List.mem_iff_getElem.mp hb;have:=h i hi
  rwa [Ex,ς hi] at this
 ·intro h i hi;rw [Ex,ς hi];exact h _ (HN hi)
theorem pf (hc:X.calm=true):bL X (.builtin "all") (fun xs H Q=>∃ (p:Ω) (bs:List Bool),xs=[.ref p]/\SqL X.K H p (bs.map V.bl)/\Q (.bl (bs.all id)) H):=by
 intro pins s σ H xs us Q I r h;obtain ⟨p,bs,rfl,hp,q⟩:=h;obtain ⟨u,rfl,ru⟩:=r.one
 cases (show u=E3 p from ru)
 obtain ⟨its,rv,pl,hz⟩:=I.list hp;have hh:=xm (I.ok.hd hc);have hlt:p<s.heap.objs.size:=let ⟨o,ho,_⟩:=pl.isList; EC ho;refine call_all_walk (Jh pl.isList ?_);refine ⟨s.heap.objs.size,_,_,_,_,_,fun i=>bs.getD i false,rfl,LK hh s.heap.objs.size p (EH hlt) its.toArray,⟨⟨_,EB _ rfl,rfl,rfl⟩,pl.isList.push _⟩,fun i v s' Q' E' hP hQ=>?_,fun h' tk hk=>?_⟩
 ·have:=wo rv (i:=i) (v:=v) (by simpa using hP)
  subst this;exact GA hQ
 ·have hl:=rv.length;rw [Aj] at hl;refine ⟨.bl (bs.all id),H,I.kept (h':=h') (t':=tk) fun b o e=>hk b o (by simpa using EH (EC e)) (χ _ e),?_,q⟩
  show _=_
  rw [EK,<- hl,vD]
theorem mI {its:List Δ} {ns:List Int} (r:Vals (ns.map V.int) its) {i:Nat} {v:Δ} (e:its[i]?=some v):∃ t,v=.int (ns.getD i 0) t:=by
 have hl:=r.length;rw [Aj] at hl;have hi:i<its.length:=(Bc.mp e).1
 have hb:(ns.map V.int)[i]?=some (V.int (ns.getD i 0)):=by
  rw [EX,Ex,ς (by omega)];rfl
 obtain ⟨u,hu,ru⟩:=r.get hb;rw [e] at hu
 cases hu;exact ru
theorem fT (ns:List Int):∀ k,k<=ns.length->preSum (fun i=>ns.getD i 0) k=(ns.take k).sum
 | 0,_=>rfl
 | k+1,h=>by
  have ih:=fT ns k (by omega);rw [Gn,List.sum_append,<- ih,ς (by omega)]
  show preSum _ k+ns.getD k 0=_
  rw [Ex,ς (by omega)];simp
def iw (ns:List Int):Prop:=∀ k,k<=ns.length->InLong ((ns.take k).sum)/\∀ n∈ns,InLong n
theorem mY (hc:X.calm=true):bL X (.builtin "sum") (fun xs H Q=>∃ (p:Ω) (ns:List Int),xs=[.ref p]/\(SqL X.K H p (ns.map V.int)\/SqT X.K H p (ns.map V.int))/\iw ns/\Q (.int ns.sum) H):=by
  intro pins s σ H xs us Q I r h;obtain ⟨p,ns,rfl,hp,sm,q⟩:=h;obtain ⟨u,rfl,ru⟩:=r.one
  cases (show u=E3 p from ru)
  have hh:=xm (I.ok.hd hc);have fin:∀ {its:List Δ} {h':FD} {tk:Nat} {t':Tok},Vals (ns.map V.int) its->(∀ b o,b∉[s.heap.objs.size]->s.heap.get? b=some o->h'.get? b=some o) ->
      EP X pins σ Q (.int (preSum (fun i=>ns.getD i 0) its.length) t') { s with heap:=h',toks:=tk }:=fun {its h' tk t'} rv hk=>by
    have hl:=rv.length;rw [Aj] at hl;refine ⟨.int ns.sum,H,I.kept (h':=h') (t':=tk) fun b o e=>hk b o (by simpa using EH (EC e)) e,⟨t',?_⟩,q⟩;rw [<- hl,fT _ _ (A_ _),EN (A_ _)]
  have fit:∀ {its:List Δ},Vals (ns.map V.int) its->∀ j,j<its.length->InLong (ns.getD j 0)/\InLong (preSum (fun i=>ns.getD i 0) (j+1)):=fun {its} rv j hj=>by
    have hl:=rv.length;rw [Aj] at hl;refine ⟨(sm 0 (En _)).2 _ ?_,?_⟩
    · rw [Ex,ς (by omega)]
      exact HN _
    · rw [fT _ _ (by omega)]
      exact (sm _ (by omega)).1
  rcases hp with hp | hp
  · obtain ⟨its,rv,pl,hz⟩:=I.list hp
    have hlt:p<s.heap.objs.size:=let ⟨o,ho,_⟩:=pl.isList; EC ho;refine call_sum_walk (Jh pl.isList ?_);refine ⟨s.heap.objs.size,_,_,_,_,_,fun i=>ns.getD i 0,rfl,LK hh s.heap.objs.size p (EH hlt) its.toArray,⟨⟨_,EB _ rfl,rfl,rfl⟩,pl.isList.push _⟩,fun b hb=>?_,fun i v hP=>mI rv (by simpa using hP),fun j hj=>fit rv j (by simpa using hj),fun h' tk t' hk=>fin rv fun b o hb e=>hk b o hb (χ _ e)⟩;rw [GF];rcases Bb.mp hb with e | e
    · rw [e]; exact Ia _
    · have:b=p:=by simpa using e
      rw [this]; exact F3 hlt
  · obtain ⟨its,rv,pl,hz⟩:=I.tuple hp
    have hlt:p<s.heap.objs.size:=let ⟨o,ho,_⟩:=pl; EC ho;refine call_sum_walk (JP pl ?_);refine ⟨s.heap.objs.size,_,_,_,_,_,fun i=>ns.getD i 0,rfl,Walks.tuple hh s.heap.objs.size p (EH hlt) its.toArray,⟨⟨_,EB _ rfl,rfl,rfl⟩,pl.push _⟩,fun b hb=>?_,fun i v hP=>mI rv (by simpa using hP),fun j hj=>fit rv j (by simpa using hj),fun h' tk t' hk=>fin rv fun b o hb e=>hk b o hb (χ _ e)⟩;rw [GF];rcases Bb.mp hb with e | e
    · rw [e]; exact Ia _
    · have:b=p:=by simpa using e
      rw [this]; exact F3 hlt
end
mutual
def Rep (H:Hp):GS->V->Prop
 | .none,v=>v=.non
 | .bool b,v=>v=.bl b
 | .int i,v=>v=.int i
 | .str x,v=>v=.str x
 | .list ds,v=>∃ a xs,v=.ref a/\H a=some (.lst xs)/\RepL H ds xs
 | .tuple ds,v=>∃ a xs,v=.ref a/\H a=some (.tup xs)/\RepL H ds xs
 | .dict _,_=>False
def RepL (H:Hp):List GS->List V->Prop
 | [],xs=>xs=[]
 | d::ds,xs=>∃ x r,xs=x::r/\Rep H d x/\RepL H ds r
end
mutual
theorem Rep.mono {H H':Hp} (s:ah H H'):∀ {d:GS} {v:V},Rep H d v->Rep H' d v
 | .none,_,h=>by simpa [Rep] using h
 | .bool _,_,h=>by simpa [Rep] using h
 | .int _,_,h=>by simpa [Rep] using h
 | .str _,_,h=>by simpa [Rep] using h
 | .list ds,_,h=>by
  simp only [Rep] at h ⊢;obtain ⟨a,xs,e,h1,h2⟩:=h;exact ⟨a,xs,e,s _ _ h1,RepL.mono s h2⟩
 | .tuple ds,_,h=>by
  simp only [Rep] at h ⊢;obtain ⟨a,xs,e,h1,h2⟩:=h;exact ⟨a,xs,e,s _ _ h1,RepL.mono s h2⟩
 | .dict _,_,h=>by simp only [Rep] at h
theorem RepL.mono {H H':Hp} (s:ah H H'):∀ {ds:List GS} {xs:List V},RepL H ds xs->RepL H' ds xs
 | [],_,h=>by simpa [RepL] using h
 | d::ds,_,h=>by
  simp only [RepL] at h ⊢;obtain ⟨x,r,e,h1,h2⟩:=h;exact ⟨x,r,e,Rep.mono s h1,RepL.mono s h2⟩
end
section
variable {X:Cx} {pins:List (Ω×HC)} {σ:St} {H:Hp} {s:A2}
mutual
theorem Rep.reads (I:Inv X pins σ H s):∀ {d:GS} {v:V} {u:Δ},Rep H d v->aU v u->∃ as,Reads s.heap u d as
 | .none,_,_,h,r=>by simp only [Rep] at h; subst h; cases r; exact ⟨_,.none⟩
 | .bool _,_,_,h,r=>by simp only [Rep] at h; subst h; cases r; exact ⟨_,.bool _⟩
 | .int _,_,_,h,r=>by simp only [Rep] at h; subst h; obtain ⟨t,rfl⟩:=r; exact ⟨_,.int _ _⟩
 | .str _,_,_,h,r=>by simp only [Rep] at h; subst h; obtain ⟨t,rfl⟩:=r; exact ⟨_,.str _ _⟩
 | .list ds,_,_,h,r=>by
  simp only [Rep] at h;obtain ⟨a,xs,rfl,h1,h2⟩:=h
  cases (show _=E3 a from r)
  obtain ⟨its,rv,pl,_⟩:=I.list (SqL.of h1);obtain ⟨as,ra⟩:=RepL.reads I h2 rv;obtain ⟨o,n,e,c,_,d⟩:=pl;exact ⟨_,.list e c d (by simpa using ra)⟩
 | .tuple ds,_,_,h,r=>by
  simp only [Rep] at h;obtain ⟨a,xs,rfl,h1,h2⟩:=h
  cases (show _=E3 a from r)
  obtain ⟨its,rv,pl,_⟩:=I.tuple (SqT.of h1);obtain ⟨as,ra⟩:=RepL.reads I h2 rv;obtain ⟨o,e,c,n,d⟩:=pl;exact ⟨_,.tuple e c d (by simpa using ra)⟩
 | .dict _,_,_,h,_=>by simp only [Rep] at h
theorem RepL.reads (I:Inv X pins σ H s):∀ {ds:List GS} {xs:List V} {us:List Δ},RepL H ds xs->Vals xs us->∃ as,ReadsAll s.heap us ds as
 | [],_,_,h,r=>by simp only [RepL] at h; subst h; cases r; exact ⟨_,.nil⟩
 | d::ds,_,_,h,r=>by
  simp only [RepL] at h;obtain ⟨x,t,rfl,h1,h2⟩:=h
  cases r with
  | cons r1 r2 =>
   obtain ⟨as,a1⟩:=Rep.reads I h1 r1;obtain ⟨bs,a2⟩:=RepL.reads I h2 r2;exact ⟨_,.cons a1 a2⟩
end
end
def vC (neg:Bool):R2:=fun x y H Q=>∃ d e,Rep H d x/\Rep H e y/\HR d=true/\HR e=true/\Q (.bl (if neg then !PyData.eqv d e else Fz d e)) H
section
variable {X:Cx}
theorem kc (hu:X.A.units+64<HH):OpR X (GQ .Eq) (vC false):=by
 intro pins s σ H x y v u Q I rx ry h;obtain ⟨d,e,h1,h2,s1,s2,q⟩:=h;obtain ⟨as,r1⟩:=h1.reads I rx;obtain ⟨bs,r2⟩:=h2.reads I ry;exact eq_dataH r1 r2 s1 s2 hu ⟨.bl _,H,I,rfl,q⟩
theorem kg (hu:X.A.units+64<HH):OpR X (GQ .NotEq) (vC true):=by
 intro pins s σ H x y v u Q I rx ry h;obtain ⟨d,e,h1,h2,s1,s2,q⟩:=h;obtain ⟨as,r1⟩:=h1.reads I rx;obtain ⟨bs,r2⟩:=h2.reads I ry;exact ne_dataH r1 r2 s1 s2 hu ⟨.bl _,H,I,rfl,q⟩
end
noncomputable def tyD:GS->String
 | .none=>"NoneType"
 | .bool _=>"bool"
 | .int _=>"int"
 | .str _=>"str"
 | .list _=>"list"
 | .tuple _=>"tuple"
 | .dict _=>"dict"
theorem Rep.ty {K:W.Frag} {H:Hp} {d:GS} {v:V} (h:Rep H d v):gL K H v (.type (tyD d)):=by
 cases d with
 | none=>simp only [Rep] at h; subst h; exact .non
 | bool b=>simp only [Rep] at h; subst h; exact .bl b
 | int b=>simp only [Rep] at h; subst h; exact .int b
 | str b=>simp only [Rep] at h; subst h; exact .str b
 | list ds=>simp only [Rep] at h; obtain ⟨a,xs,rfl,e,_⟩:=h; exact .lst e
 | tuple ds=>simp only [Rep] at h; obtain ⟨a,xs,rfl,e,_⟩:=h; exact .tup e
 | dict _=>simp only [Rep] at h
noncomputable def isD (T:String):GS->Bool
 | .none=>T=="NoneType"
 | .bool _=>T=="bool"||T=="int"
 | .int _=>T=="int"
 | .str _=>T=="str"
 | .list _=>T=="list"
 | .tuple _=>T=="tuple"
 | .dict _=>T=="dict"
theorem pO {K:W.Frag} (d:GS):W.kitOne K (.type (tyD d)) (.type "bool")=some (isD "bool" d):=by cases d<;>kernel_rfl
theorem tN {K:W.Frag} (d:GS):W.kitOne K (.type (tyD d)) (.type "int")=some (isD "int" d):=by cases d<;>kernel_rfl
theorem tO {K:W.Frag} (d:GS):W.kitOne K (.type (tyD d)) (.type "str")=some (isD "str" d):=by cases d<;>kernel_rfl
theorem j3 {K:W.Frag} (d:GS):W.kitOne K (.type (tyD d)) (.type "list")=some (isD "list" d):=by cases d<;>kernel_rfl
theorem gz {K:W.Frag} (d:GS):W.kitOne K (.type (tyD d)) (.type "tuple")=some (isD "tuple" d):=by cases d<;>kernel_rfl
theorem Inv.turnedL {X:Cx} {pins:List (Ω×HC)} {σ:St} {H:Hp} {s:A2} {h':FD} {t':Nat} {ch:List Ω} {T:Ω} {o:HO} (I:Inv X pins σ H s) (k:∀ b o,b∉ch->s.heap.get? b=some o->h'.get? b=some o)
  (f:∀ b∈ch,gJ X pins H b) (there:∀ b∈ch,∃ o,h'.get? b=some o) (hT:s.heap.objs.size<=T) (new:bg X.prog X.w (upd H T o) h' T o):Inv X pins σ (upd H T o) { s with heap:=h',toks:=t' }:=by
 have nit:∀ b u,H b=some u->b∉ch:=fun b u e z=>by rw [(f b z).1] at e; cases e
 have ltT:∀ b ob,s.heap.get? b=some ob->b≠T:=fun b ob e=>EH (EU (EC e) hT);have hTn:H T=none:=I.hok.fresh hT;have neT:∀ b u,H b=some u->b≠T:=fun b u e=>bo e hTn;refine I.step (g':=s.gens) (d':=s.drawn) (ch:=ch) (fun b hb=>⟨(f b hb).2.2.2.1,(f b hb).2.1,(f b hb).2.2.2.2.1,(f b hb).2.2.2.2.2⟩) (fun b o _ _ hc e _=>k b o hc e) (fun b o _ _ hc e _=>⟨o.slots,k b o hc e⟩) (fun b o _ e n=>by rw [aj (ltT b o e)]; exact n)
  (fun b o hc e=>⟨o,k b o hc e⟩) (fun b _ e=>by rw [aj (neT b _ e)]; exact e) (fun b _ _ e=>by rw [aj (neT b _ e)]; exact e) (fun b ps e=>⟨#[],by rw [aj (neT b _ e),e]; simp⟩) (fun m hm=>?_) (fun b u e=>?_) I.bare
 ·obtain ⟨ob,es,ep,ho,r⟩:=hm;exact ⟨ob,es,ep,k _ ob (fun z=>(f _ z).2.1 rfl) ho,r⟩
 ·by_cases hb:b=T
  ·subst hb;rw [af] at e
   cases e;exact new
  ·rw [aj hb] at e;refine (I.hok b u e).stay (fun c v hc q=>k c v ?_ q) (fun q e'=>?_) fun a q e'=>?_
   ·rcases hc with z | z
    ·rw [z]; exact nit b u e
    ·exact nit c _ z
   ·rw [aj (neT _ _ e')]; exact e'
   ·rw [aj (neT _ _ e')]; exact e'
noncomputable def Itz (K:W.Frag) (a b:Ω):It :=
  ⟨fun i H=>∃ xs ys x y,SqL K H a xs/\SqL K H b ys/\xs[i]?=some x/\ys[i]?=some y,
   fun i H v H'=>∃ T,v=.ref T/\H T=none/\∀ xs ys,SqL K H a xs->SqL K H b ys->∃ x y,xs[i]?=some x/\ys[i]?=some y/\H'=upd H T (.tup [x,y]),
   fun i H=>∃ xs ys,SqL K H a xs/\SqL K H b ys/\(xs.length<=i\/ys.length<=i)⟩
theorem zt {P:ER} {w:E2} {K:W.Frag} {elts:List Fo} {kt:Nat} {pt:Il} {a b n:Ω} (ha:a<n) (hb:b<n) :
    oY P w K (.Tuple elts kt pt) (Itz K a b) [n+4,n+2,n+3,n,n+1] (n+4) (fun i h=>Kd h (n+4) (n+2) (n+3) .none/\Ib h (n+2) (.ref n) (.ref (n+1))/\(∃ x y,Ib h (n+3) x y)/\h.IsListIter n a i/\h.IsListIter (n+1) b i) where
  mem:=by simp
  obj:=fun i h st c hc=>by
    obtain ⟨z1,z2,⟨x,y,z3⟩,⟨o4,e4,c4,d4⟩,⟨o5,e5,c5,d5⟩⟩:=st;simp only [Bb,Ey,or_false] at hc;rcases hc with rfl | rfl | rfl | rfl | rfl
    · exact ⟨_,z1,fun v z=>by cases z⟩
    · exact ⟨_,z2,fun v z=>by cases z⟩
    · exact ⟨_,z3,fun v z=>by cases z⟩
    · exact ⟨_,e4,fun v z=>by rw [d4] at z; cases z⟩
    · exact ⟨_,e5,fun v z=>by rw [d5] at z; cases z⟩
  keep:=fun i h h' st k=>by
    obtain ⟨z1,z2,⟨x,y,z3⟩,z4,z5⟩:=st;exact ⟨k _ (by simp) _ z1,k _ (by simp) _ z2,⟨x,y,k _ (by simp) _ z3⟩,z4.at fun o e=>k _ (by simp) o e,z5.at fun o e=>k _ (by simp) o e⟩
  item:=by
    intro X hP hw hK hc i pins s σ H E I hf st hg;subst hP hw hK;obtain ⟨xs,ys,x,y,hqa,hqb,hx,hy⟩:=hg;obtain ⟨its,rv,p,hz⟩:=I.list hqa;obtain ⟨jts,rw',p',hz'⟩:=I.list hqb;obtain ⟨u,hu,ru⟩:=rv.get hx;obtain ⟨u',hu',ru'⟩:=rw'.get hy;obtain ⟨z1,z2,⟨x0,y0,z3⟩,z4,z5⟩:=st;have D:LJ (n+4) (n+2) (n+3) n (n+1) a b:=Hj ha hb;have ltz:n+4<s.heap.objs.size:=EC z1;refine wpAny_pyNext_zip_item D z1 z2 z3 z4 z5 p.isList p'.isList (x:=u) (y:=u') (by simpa using hu) (by simpa using hu') fun h' a1 a2 a3 a4 a5 a6 hk=>?_;refine ⟨_,rfl,MP (s:={ s with heap:=h' }) a1 fun h2 b1 hs=>?_⟩;have neT:∀ {c:Ω},c<=n+4->c≠s.heap.objs.size:=fun h=>EH (E_ h ltz);have kk:∀ c o,c∉[n+4,n+3,n,n+1]->s.heap.get? c=some o->h2.get? c=some o:=fun c o hc e=>by
      simp only [Bb,Ey,or_false,not_or] at hc;exact (hs.2 c hc.1).trans (hk c o hc.1 hc.2.1 hc.2.2.1 hc.2.2.2 e)
    have q2:h2.get? (n+2)=_:=kk _ _ (by simp only [Bb,Ey,or_false,not_or]; exact ⟨D.TIz,D.TITO,D.TIi1,D.TIi2⟩) z2;have q3:h2.get? (n+3)=_:=(hs.2 _ D.TOz).trans a2;obtain ⟨o4,e4,c4⟩:=a3;obtain ⟨o5,e5,c5⟩:=a4;have q4:h2.get? n=_:=(hs.2 _ D.i1z).trans e4;have q5:h2.get? (n+1)=_:=(hs.2 _ D.i2z).trans e5;have qT:h2.get? s.heap.objs.size=_:=(hs.2 _ (GH (neT (A_ _)))).trans a5;have sub:∀ c∈[n+4,n+3,n,n+1],c∈[n+4,n+2,n+3,n,n+1]:=fun c hc=>by
      simp only [Bb,Ey,or_false] at hc ⊢;rcases hc with e | e | e | e
      · exact .inl e
      · exact .inr (.inr (.inl e))
      · exact .inr (.inr (.inr (.inl e)))
      · exact .inr (.inr (.inr (.inr e)))
    have I1:Inv X pins σ (upd H s.heap.objs.size (.tup [x,y])) { s with heap:=h2,toks:=s.toks }:=I.turnedL (ch:=[n+4,n+3,n,n+1]) kk (fun c hc=>hf c (sub c hc)) (fun c hc=>by
        simp only [Bb,Ey,or_false] at hc;rcases hc with rfl | rfl | rfl | rfl
        · exact ⟨_,b1⟩
        · exact ⟨_,q3⟩
        · exact ⟨_,q4⟩
        · exact ⟨_,q5⟩) (A_ _) ⟨by show 2<=EF; decide,[u,u'],.cons ru (.cons ru' .nil),_,qT,rfl,_,rfl⟩
    refine ⟨.ref s.heap.objs.size,_,I1,rfl,⟨_,rfl,I.hok.fresh (A_ _),fun vs ws hv hw=>?_⟩,⟨b1,q2,⟨_,_,q3⟩,⟨_,q4,c4⟩,⟨_,q5,c5⟩⟩,fun c hc=>?_⟩
    · rw [I.list_inj hv hqa,I.list_inj hw hqb]
      exact ⟨x,y,hx,hy,rfl⟩
    · have hle:c<=n+4:=by
        simp only [Bb,Ey,or_false] at hc;rcases hc with rfl | rfl | rfl | rfl | rfl
        · exact A_ _
        · exact Fd (n+2) 2
        · exact Fd (n+3) 1
        · exact Fd _ 4
        · exact Fd (n+1) 3
      rw [aj (neT hle)];exact (hf c hc).1
  done:=by
    intro X hP hw hK hc i pins s σ H E I hf st hg;subst hP hw hK;obtain ⟨xs,ys,hqa,hqb,hl⟩:=hg;obtain ⟨its,rv,p,hz⟩:=I.list hqa;obtain ⟨jts,rw',p',hz'⟩:=I.list hqb;obtain ⟨z1,z2,⟨x0,y0,z3⟩,z4,z5⟩:=st;have D:LJ (n+4) (n+2) (n+3) n (n+1) a b:=Hj ha hb;have l1:=rv.length;have l2:=rw'.length;refine wpAny_pyNext_zip_end (I.ok.hd hc) D z1 z2 z3 z4 z5 p.isList p'.isList ?_ fun h' hk=>⟨rfl,?_⟩
    · rcases hl with h | h
      · exact .inl (by simp; omega)
      · exact .inr (by simp; omega)
    · have fp:∀ c∈[n+4,n+3,n,n+1],gJ X pins H c:=fun c hc=>hf c (by
        simp only [Bb,Ey,or_false] at hc ⊢;rcases hc with e | e | e | e
        · exact .inl e
        · exact .inr (.inr (.inl e))
        · exact .inr (.inr (.inr (.inl e)))
        · exact .inr (.inr (.inr (.inr e))))
      have kk:∀ c o,c∉[n+4,n+3,n,n+1]->s.heap.get? c=some o->h'.get? c=some o:=fun c o hc e=>by
        simp only [Bb,Ey,or_false,not_or] at hc;exact hk c o hc.1 hc.2.1 hc.2.2.1 hc.2.2.2 e
      have nit:∀ c u,H c=some u->c∉[n+4,n+3,n,n+1]:=fun c u e z=>by rw [(fp c z).1] at e; cases e
      refine I.step (g':=s.gens) (d':=s.drawn) (t':=s.toks) (ch:=[n+4,n+3,n,n+1]) (fun c hc=>⟨(fp c hc).2.2.2.1,(fp c hc).2.1,(fp c hc).2.2.2.2.1,(fp c hc).2.2.2.2.2⟩) (fun c o _ _ hc e _=>kk c o hc e) (fun c o _ _ hc e _=>⟨o.slots,kk c o hc e⟩) (fun _ _ _ _ n=>n)
        (fun c o hc e=>⟨o,kk c o hc e⟩) (fun _ _ e=>e) (fun _ _ _ e=>e) (fun _ ps e=>⟨#[],by rw [e]; simp⟩) (fun m hm=>?_) (fun c u e=>?_) I.bare
      · obtain ⟨ob,es,ep,ho,r⟩:=hm
        exact ⟨ob,es,ep,kk _ ob (fun z=>(fp _ z).2.1 rfl) ho,r⟩
      · refine (I.hok c u e).stay (fun d v hd q=>kk d v ?_ q) (fun _ e'=>e') fun _ _ e'=>e'
        rcases hd with z | z
        · rw [z]; exact nit c u e
        · exact nit d _ z
  self:=fun _ _ _ _ _ st h=>J2 st.1 h
section
variable {σ:St} {H:Hp} {Q:VK} {D:dn} {QB:Bool->Hp->Prop} {QA:List V->Hp->Prop}
theorem AO (h:D.nx σ H):BN D σ H:=h
theorem CL {te:TE} {g:TG} (h:te σ H fun x H1=>g x σ H1 D.nx):Bf te g D σ H:=h
theorem b9 {i:Nat} {v:V} {Q:St->Hp->Prop} (h:Q (σ.set i (some v)) H):cT i v σ H Q:=h
theorem C2 {te:TE} (h:te σ H D.rt):DY te D σ H:=h
theorem AE {te:TE} (h:te σ H fun _ H1=>D.nx σ H1):BK te D σ H:=h
theorem CY {c:TT} {t u:TS} (h:c σ H fun b H1=>if b=true then t D σ H1 else u D σ H1):DV c t u D σ H:=h
theorem DM {t:TE} (h:t σ H fun x H1=>∃ c,x=.bl c/\QB c H1):tB t σ H QB:=h
theorem yD {t:TE} (h:t σ H fun x H1=>∃ c,x=.bl c/\QB c H1):uw t σ H QB:=h
theorem AF {b:Bool} {P:Bool->Prop} (h:P b):∃ c,V.bl b=V.bl c/\P c:=⟨b,rfl,h⟩
theorem yq {a:Ω} {P:Ω->Prop} (h:P a):∃ c,V.ref a=V.ref c/\P c:=⟨a,rfl,h⟩
theorem yp {i:Int} {P:Int->Prop} (h:P i):∃ c,V.int i=V.int c/\P c:=⟨i,rfl,h⟩
theorem C3 {i:Nat} {v:V} (e:σ[i]?=some (some v)) (h:Q v H):Df i σ H Q:=⟨v,e,h⟩
theorem Ek {v:V} (h:Q v H):tC v σ H Q:=h
theorem DJ {r:R2} {ta tb:TE} (h:ta σ H fun x H1=>tb σ H1 fun y H2=>r x y H2 Q):tOp r ta tb σ H Q:=h
theorem DN {r:V->Hp->VK->Prop} {ta:TE} (h:ta σ H fun x H1=>r x H1 Q):tUn r ta σ H Q:=h
theorem Ay {ta tb:TE} (h:ta σ H fun x H1=>∃ c,x=.bl c/\if c=true then tb σ H1 Q else Q (.bl false) H1):BI ta tb σ H Q:=h
theorem AQ {ta:TE} (h:ta σ H fun x H1=>∃ c,x=.bl c/\Q (.bl (!c)) H1):BO ta σ H Q:=h
theorem CK {t u:TT} (h:t σ H fun c H1=>if c=true then u σ H1 QB else QB false H1):DQ t u σ H QB:=h
theorem DK {t u:TT} (h:t σ H fun c H1=>if c=true then QB true H1 else u σ H1 QB):tOr t u σ H QB:=h
theorem C1 {t:TT} (h:t σ H fun c H1=>QB (!c) H1):DX t σ H QB:=h
theorem DI {t:TT} {ta tb:TE} (h:t σ H fun c H1=>if c=true then ta σ H1 Q else tb σ H1 Q):tIf t ta tb σ H Q:=h
theorem dA (h:QB true H):gU σ H QB:=h
theorem DG {g:Int->Int->V} {i j:Int} (h:Q (g i j) H):rI0 g (.int i) (.int j) H Q:=⟨i,j,rfl,rfl,h⟩
theorem bZ {C:Int->Int->Prop} {g:Int->Int->V} {i j:Int} (c:C i j) (h:Q (g i j) H):rI C g (.int i) (.int j) H Q:=⟨i,j,rfl,rfl,c,h⟩
theorem Ej {g:Int->V} {i:Int} (h:Q (g i) H):rU g (.int i) H Q:=⟨i,rfl,h⟩
theorem CS {i j:Int} (h:Q (.bl (decide (i=j))) H):rEq (.int i) (.int j) H Q:=⟨rfl,by
 rw [jA,Int.instDecidableEq.eq_def]<;>first | exact h | (simpa [jA] using h)⟩
theorem CU {i j:Str} (h:Q (.bl (decide (i=j))) H):rEq (.str i) (.str j) H Q:=⟨rfl,by
 have e:decide (V.str i=V.str j)=decide (i=j):=by by_cases z:i=j<;>simp [z]
 rw [e]; exact h⟩
theorem CQ {i j:Bool} (h:Q (.bl (decide (i=j))) H):rEq (.bl i) (.bl j) H Q:=⟨rfl,by
 have e:decide (V.bl i=V.bl j)=decide (i=j):=by by_cases z:i=j<;>simp [z]
 rw [e]; exact h⟩
theorem CZ {i j:Bool} (h:Q (.bl (!decide (i=j))) H):rNe (.bl i) (.bl j) H Q:=⟨rfl,by
 have e:decide (V.bl i=V.bl j)=decide (i=j):=by by_cases z:i=j<;>simp [z]
 rw [e]; exact h⟩
theorem aE {K:W.Frag} {p:Ω} {xs:List V} {i:Int} {v:V} (h:SqL K H p xs) (e:atI xs i=some v) (q:Q v H):Av K (.ref p) (.int i) H Q:=⟨p,xs,i,v,rfl,rfl,h,e,q⟩
theorem aR {K:W.Frag} {p:Ω} {xs:List V} {i:Int} {v:V} (h:SqT K H p xs) (e:atI xs i=some v) (q:Q v H):Aw K (.ref p) (.int i) H Q:=⟨p,xs,i,v,rfl,rfl,h,e,q⟩
theorem AI {K:W.Frag} {p:Ω} {xs:List V} {i:Int} {v:V} (h:SqL K H p xs) (e:atI xs i=some v) (q:Q v H):rIx K (.ref p) (.int i) H Q:=.inl (aE h e q)
theorem AJ {K:W.Frag} {p:Ω} {xs:List V} {i:Int} {v:V} (h:SqT K H p xs) (e:atI xs i=some v) (q:Q v H):rIx K (.ref p) (.int i) H Q:=.inr (.inl (aR h e q))
theorem yl {r r':R2} {ta tb tc:TE} (h:ta σ H fun x H1=>tb σ H1 fun y H2=>r x y H2 fun z H3=>∃ k,z=.bl k/\if k=true then tc σ H3 fun y' H4=>r' y y' H4 Q else Q (.bl false) H3):sJ r r' ta tb tc σ H Q:=h
theorem Az {sp:Sp} {dvs:List V} {E:XK} {t:TA} (h:t σ H fun vs H1=>sp (vs++dvs) H1 Q E):zg sp dvs E t σ H Q:=h
theorem C0 (h:QA [] H):Dd σ H QA:=h
theorem AB {ta:TE} {tr:TA} (h:ta σ H fun x H1=>tr σ H1 fun xs H2=>QA (x::xs) H2):BJ ta tr σ H QA:=h
theorem DF {r:List V->Hp->VK->Prop} {t:TA} (h:t σ H fun vs H1=>r vs H1 Q):tCB r t σ H Q:=h
end
theorem Ci {K:W.Frag}:W.kitOne K (.type "int") (.type "int")=some true:=by kernel_rfl
theorem Cg {K:W.Frag}:W.kitOne K (.type "int") (.type "bool")=some false:=by kernel_rfl
section
variable {X:Cx} {K:W.Frag} {H:Hp} {Q:VK} {σ:St}
def CF (K:W.Frag):List V->Hp->VK->Prop:=fun xs H Q=>∃ x n t b,xs=[x,.ty n]/\gL K H x t/\W.kitOne K t (.type n)=some b/\Q (.bl b) H
theorem uG:bL X (.builtin "isinstance") (CF X.K):=pj
theorem cG {x:V} {n:String} {t:Δ} {b:Bool} (ty:gL K H x t) (e:W.kitOne K t (.type n)=some b) (h:Q (.bl b) H):CF K [x,.ty n] H Q:=⟨x,n,t,b,rfl,ty,e,h⟩
def Ax (K:W.Frag):List V->Hp->VK->Prop:=fun xs H Q=>∃ p ys,xs=[.ref p]/\(SqL K H p ys\/SqT K H p ys)/\Q (.int ys.length) H
theorem B3:bL X (.builtin "len") (Ax X.K):=mV
theorem bq {p:Ω} {ys:List V} (h:H p=some (.lst ys)) (q:Q (.int ys.length) H):Ax K [.ref p] H Q:=⟨p,ys,rfl,.inl (SqL.of h),q⟩
theorem jI {p:Ω} {ys:List V} (h:H p=some (.tup ys)) (q:Q (.int ys.length) H):Ax K [.ref p] H Q:=⟨p,ys,rfl,.inr (SqT.of h),q⟩
def CD (K:W.Frag):List V->Hp->VK->Prop:=fun xs H Q=>∃ (p:Ω) (bs:List Bool),xs=[.ref p]/\SqL K H p (bs.map V.bl)/\Q (.bl (bs.all id)) H
theorem B2 (hc:X.calm=true):bL X (.builtin "all") (CD X.K):=pf hc
theorem rP {p:Ω} {bs:List Bool} (h:H p=some (.lst (bs.map V.bl))) (q:Q (.bl (bs.all id)) H):CD K [.ref p] H Q:=⟨p,bs,rfl,SqL.of h,q⟩
def CI (K:W.Frag):List V->Hp->VK->Prop:=fun xs H Q=>∃ (p:Ω) (ns:List Int),xs=[.ref p]/\(SqL K H p (ns.map V.int)\/SqT K H p (ns.map V.int))/\iw ns/\Q (.int ns.sum) H
theorem B4 (hc:X.calm=true):bL X (.builtin "sum") (CI X.K):=mY hc
theorem ui {p:Ω} {ns:List Int} (h:H p=some (.tup (ns.map V.int))) (s:iw ns) (q:Q (.int ns.sum) H):CI K [.ref p] H Q:=⟨p,ns,rfl,.inr (SqT.of h),s,q⟩
def Dz:List V->Hp->VK->Prop:=fun xs H Q=>∃ i,xs=[.int i]/\Q (.int (if i<0 then -i else i)) H
theorem B1:bL X (.builtin "abs") Dz:=wK
theorem CJ {i:Int} (q:Q (.int (if i<0 then -i else i)) H):Dz [.int i] H Q:=⟨i,rfl,q⟩
def BC:List V->Hp->VK->Prop:=fun xs H Q=>∃ i j,xs=[.int i,.int j]/\Q (.int (if j<i then j else i)) H
theorem zG (hc:X.calm=true):bL X (.builtin "min") BC:=uJ hc
theorem AN {i j:Int} (q:Q (.int (if j<i then j else i)) H):BC [.int i,.int j] H Q:=⟨i,j,rfl,q⟩
def ud (K:W.Frag):List V->Hp->VK->Prop:=fun xs H Q=>∃ p ys,xs=[.ref p]/\(SqL K H p ys\/SqT K H p ys)/\∀ l,H l=none->Q (.ref l) (upd H l (.lst ys))
theorem zF:bL X (.type "list") (ud X.K):=mW
theorem qw {p:Ω} {ys:List V} (h:H p=some (.lst ys)) (q:∀ l,H l=none->Q (.ref l) (upd H l (.lst ys))):ud K [.ref p] H Q:=⟨p,ys,rfl,.inl (SqL.of h),q⟩
theorem qz {p:Ω} {ys:List V} (h:H p=some (.tup ys)) (q:∀ l,H l=none->Q (.ref l) (upd H l (.lst ys))):ud K [.ref p] H Q:=⟨p,ys,rfl,.inr (SqT.of h),q⟩
def rO (K:W.Frag):List V->Hp->VK->Prop:=fun xs H Q=>∃ p ys,xs=[.ref p]/\((SqL K H p ys/\∀ l,H l=none->Q (.ref l) (upd H l (.tup ys)))\/(SqT K H p ys/\Q (.ref p) H))
theorem wJ:bL X (.type "tuple") (rO X.K):=lE
theorem mE {p:Ω} {ys:List V} (h:H p=some (.lst ys)) (q:∀ l,H l=none->Q (.ref l) (upd H l (.tup ys))):rO K [.ref p] H Q:=⟨p,ys,rfl,.inl ⟨SqL.of h,q⟩⟩
def DB (K:W.Frag) (f:Str):V->Hp->VK->Prop:=fun x H1 Q=>∃ a C dx fs v,x=.ref a/\H1 a=some (.ins C dx fs)/\Cls K C/\cF K C f/\fs.lookup f=some v/\Q v H1
theorem CV {ta:TE} {f:Str} (h:ta σ H fun x H1=>DB K f x H1 Q):Dc K ta f σ H Q:=h
theorem de {f:Str} {a C dx:Ω} {fs:List (Str×V)} {v:V} (h:H a=some (.ins C dx fs)) (c:Cls K C) (n:cF K C f) (l:fs.lookup f=some v) (q:Q v H):DB K f (.ref a) H Q:=⟨a,C,dx,fs,v,rfl,h,c,n,l,q⟩
def BA (C:Ω) (m:Str):V->Hp->Prop->Prop:=fun x H1 q=>∃ a dx fs,x=.ref a/\H1 a=some (.ins C dx fs)/\fs.lookup m=none/\q
theorem AM {C:Ω} {m:Str} {sp:Sp} {dvs:List V} {E:XK} {ta:TE} {t:TA} (h:ta σ H fun x H1=>BA C m x H1 (t σ H1 fun vs H2=>sp (x::(vs++dvs)) H2 Q E)):zj C m sp dvs E ta t σ H Q:=h
theorem aJ {C a dx:Ω} {m:Str} {fs:List (Str×V)} {q:Prop} (h:H a=some (.ins C dx fs)) (l:fs.lookup m=none) (hq:q):BA C m (.ref a) H q:=⟨a,dx,fs,rfl,h,l,hq⟩
theorem AL {C:Ω} {sp:Sp} {dvs:List V} {E:XK} {t:TA} (h:t σ H fun vs H1=>∀ x dx,H1 x=none->H1 dx=none->dx≠x ->
 sp (.ref x::(vs++dvs)) (upd (upd H1 dx (.own x)) x (.ins C dx [])) (fun v H2=>v=.non/\Q (.ref x) H2) E):BM C sp dvs E t σ H Q:=h
def rBM (K:W.Frag) (T:String):V->Hp->Prop->Prop:=fun x H1 q=>tyV K T x H1/\q
theorem DH {T:String} {r:V->List V->Hp->VK->Prop} {to:TE} {t:TA} (h:to σ H fun x H1=>rBM K T x H1 (t σ H1 fun xs H2=>r x xs H2 Q)):tBM K T r to t σ H Q:=h
theorem CM {T:String} {r:V->List V->Hp->VK->Prop} {to:TE} (h:to σ H fun x H1=>rBM K T x H1 (r x [] H1 Q)):DR K T r to σ H Q:=h
theorem bS {l:Ω} {xs:List V} {q:Prop} (h:H l=some (.lst xs)) (hq:q):rBM K "list" (.ref l) H q:=⟨.inl ⟨rfl,_,SqL.of h⟩,hq⟩
theorem aW {l:Ω} {xs:List V} {y:V} (h:H l=some (.lst xs)) (z:xs.length<EF) (q:Q .non (upd H l (.lst (xs++[y])))):uc (.ref l) [y] H Q:=⟨l,xs,y,rfl,rfl,h,z,q⟩
theorem DL {r:V->Option Int->Option Int->Hp->VK->Prop} {te:TE} {tl th:TO} (h:te σ H fun x H1=>tl σ H1 fun l H2=>th σ H2 fun u H3=>r x l u H3 Q):tSl r te tl th σ H Q:=h
theorem vI {Q:Option Int->Hp->Prop} (h:Q none H):uv σ H Q:=h
theorem AR {t:TE} {Q:Option Int->Hp->Prop} (h:t σ H fun x H1=>∃ i,x=.int i/\Q (some i) H1):BP t σ H Q:=h
theorem kG {a:Ω} {xs:List V} {lo hi:Option Int} (h:H a=some (.lst xs)) (q:∀ p,H p=none->Q (.ref p) (upd H p (.lst (dY xs lo hi)))):CH K (.ref a) lo hi H Q:=⟨a,xs,rfl,SqL.of h,q⟩
def uB (J:It) (g:TG) (tb:TS) (D:dn) (σ:St) (H1:Hp):Prop:=∃ W:Nat->Nat->St->Hp->Prop,(∃ m,W 0 m σ H1)/\∀ i m σ H,W i m σ H ->
 (J.stop i H/\D.nx σ H)\/(J.go i H/\∃ N:St->Hp->Prop,(∀ σ' H',N σ' H'->∃ m',m'<m/\W (i+1) m' σ' H')/\∀ x H',J.yld i H x H'->g x σ H' fun σ2 H2=>tb { D with nx:=N,ct:=N,bk:=D.nx } σ2 H2)
theorem CW {wi:TI} {g:TG} {tb:TS} {D:dn} (h:wi σ H fun J H1=>uB J g tb D σ H1):DU wi g tb D σ H:=h
theorem i4 {a:Ω} {xs:List V} {g:TG} {tb:TS} {D:dn} (Pv:Nat->St->Hp->Prop) (h0:Pv 0 σ H) (hl:∀ i σ H,i<=xs.length->Pv i σ H->SqL K H a xs)
  (hs:∀ i x σ H,xs[i]?=some x->Pv i σ H->g x σ H fun σ2 H2=>tb { D with nx:=Pv (i+1),ct:=Pv (i+1),bk:=D.nx } σ2 H2) (hd:∀ σ H,Pv xs.length σ H->D.nx σ H):uB (Itl K a) g tb D σ H:=xc Pv h0 hl hs hd
theorem pK {a:Ω} {xs:List V} {g:TG} {tb:TS} {D:dn} (Pv:Nat->St->Hp->Prop) (h0:Pv 0 σ H) (hl:∀ i σ H,i<=xs.length->Pv i σ H->SqT K H a xs)
  (hs:∀ i x σ H,xs[i]?=some x->Pv i σ H->g x σ H fun σ2 H2=>tb { D with nx:=Pv (i+1),ct:=Pv (i+1),bk:=D.nx } σ2 H2) (hd:∀ σ H,Pv xs.length σ H->D.nx σ H):uB (Itt K a) g tb D σ H:=zM Pv h0 hl hs hd
theorem cX {lo:Int} {n:Nat} {g:TG} {tb:TS} {D:dn} (Pv:Nat->St->Hp->Prop) (h0:Pv 0 σ H)
  (hs:∀ i σ H,i<n->Pv i σ H->g (.int (lo+i)) σ H fun σ2 H2=>tb { D with nx:=Pv (i+1),ct:=Pv (i+1),bk:=D.nx } σ2 H2) (hd:∀ σ H,Pv n σ H->D.nx σ H):uB (Itr lo n) g tb D σ H:=uO Pv h0 hs hd
theorem AS {ta:TA} {R:It->Hp->Prop} (h:ta σ H fun vs H1=>∃ j:Int,vs=[.int j]/\-(2 ^ 62)<=j/\j<2 ^ 62/\R (Itr 0 j.toNat) H1):Br ta σ H R:=h
theorem yr {tl:TE} {R:It->Hp->Prop} (h:tl σ H fun x H1=>∃ a,x=.ref a/\(∃ xs,SqL K H1 a xs)/\R (Itl K a) H1):xl K tl σ H R:=h
theorem AH {tl:TE} {R:It->Hp->Prop} (h:tl σ H fun x H1=>∃ a,x=.ref a/\(∃ xs,SqT K H1 a xs)/\R (Itt K a) H1):Ds K tl σ H R:=h
end
theorem bE {zs:List Int} {i:Int} (h0:0<=i) (h1:i<zs.length):atI (zs.map V.int) i=some (.int (zs.getD i.toNat 0)):=by
 obtain ⟨k,rfl⟩:∃ k:Nat,i=(k:Int):=⟨i.toNat,by omega⟩
 refine bH ?_;have hk:k<zs.length:=by omega
 simp [hk]
theorem ah.new {H:Hp} {p:Ω} {o:HO} (h:H p=none):ah H (upd H p o):=fun b u e=>by rw [aj (bo e h)]; exact e
theorem ah.later {H0 H:Hp} {p:Ω} {o:HO} (s:ah H0 H) (h:H0 p=none):ah H0 (upd H p o):=fun b u e=>by rw [aj (bo e h)]; exact s b u e
theorem Du {b:Bool} {A B:Prop} (h:if b=true then A else B):if (true&&b)=true then A else B:=by rw [Bool.true_and]; exact h
theorem Dt {b:Bool} {A B:Prop} (h:if b=true then B else A):if (!b)=true then A else B:=by cases b<;>exact h
section
variable {prog:ER} {w:E2} {A:E5} {E:Δ->A2->Prop} {s:A2}
theorem gM {t sl:Ω} {items:Array Δ} {vl vu:Δ} {lo hi:Option Int} {Q:Δ->A2->Prop} (ht:IsTup s.heap t items) (hs:s.heap.IsSliceOf sl vl vu .none) (pl:Ke vl lo) (pu:Ke vu hi)
  (hw:HT.sIx items.size 0 lo=0/\HT.sIx items.size items.size hi=items.size) (h:Q (.ref t) s):EM (EZ prog w) A (LG (.ref t) (.ref sl)) Q E s:=by
 obtain ⟨os,hos,hcs,hds⟩:=id hs;have hTs:s.TypeIs (.ref sl) "slice":=⟨os,hos,hcs⟩
 unfold LG
 try with_reducible refine Gd ?_
 first | refine ξ (B_ ?_) | skip
 refine ξ (wpAny_sequenceKey ht.typeIs (by decide) ?_);refine ξ (Gx (name:=HE "__getitem__") ht.typeIs F8
  (Gk F8 ht.typeIs entry_tuple_getitem ?_ (args_tuple_getitem _ _)))
 show EM _ _ (KJ (.ref t) >>= _) _ _ s
 refine ξ (tupleItemsOf_ ht ?_);refine ξ (LC hTs ?_);rw [if_pos (by decide)];refine ξ (HT.fj hs pl pu ?_)
 have hyes:(((HT.sIx items.size 0 lo:Nat):Int)==0&&(1:Int)==1&&(HT.sIx items.size items.size hi - HT.sIx items.size 0 lo)==items.size)=true:=by
  rw [hw.1,hw.2]; simp
 show EM _ _ (if (((HT.sIx items.size 0 lo:Nat):Int)==0&&(1:Int)==1&&(HT.sIx items.size items.size hi - HT.sIx items.size 0 lo)==items.size)=true then _ else _) _ _ s
 rw [if_pos hyes];unfold Builtin.Tuple.tupleIsExact;refine ξ (ξ (LC ht.typeIs (B_ ?_)));rw [if_pos (by decide)]
 first
  | exact ξ (GX (B_ ⟨_, rfl, B_ h⟩))
  | exact ξ (GX (ξ (B_ (B_ ⟨_, rfl, B_ h⟩))))
  | exact ξ (ξ (GX (B_ ⟨_, rfl, B_ h⟩)))
end
def yj (K:W.Frag):V->Option Int->Option Int->Hp->VK->Prop:=fun x lo hi H Q=>∃ a xs,x=.ref a/\H a=some (.tup xs)/\∀ H1 p,ah H H1->H1 p=some (.tup (dY xs lo hi))->Q (.ref p) H1
theorem A9 {X:Cx}:SlR X (yj X.K):=by
 intro pins s σ H x v vl vu lo hi sl Q I rx hs pl pu h;obtain ⟨a,xs,rfl,hx,q⟩:=h;by_cases hw:HT.sIx xs.length 0 lo=0/\HT.sIx xs.length xs.length hi=xs.length
 ·cases rx;obtain ⟨its,r,ht,hz⟩:=I.tuple (SqT.of hx);have hlen:its.toArray.size=xs.length:=by rw [EK]; exact r.length.symm
  refine ⟨"tuple",_,F8.lookup,ht.typeIs,gM ht hs pl pu (by rw [hlen]; exact hw) ⟨.ref a,H,I,rfl,q H a (ah.refl _) ?_⟩⟩;rw [hx];unfold dY;rw [hw.1,hw.2,HP,MI,EN (A_ _)]
 ·exact C8 pins s σ H _ v vl vu lo hi sl Q I rx hs pl pu ⟨a,xs,rfl,SqT.of hx,hw,fun p hp=>q _ p (ah.new hp) af⟩
theorem yB {K:W.Frag} {H:Hp} {Q:VK} {a:Ω} {xs:List V} {lo hi:Option Int} (h:H a=some (.tup xs)) (q:∀ H1 p,ah H H1->H1 p=some (.tup (dY xs lo hi))->Q (.ref p) H1):yj K (.ref a) lo hi H Q:=⟨a,xs,rfl,h,q⟩
def gO (J:It) (g:TG) (tt:TT) (te:TE) (cap:List (Option Nat)) (l:Ω) (σ:St) (H1:Hp) (Q:VK):Prop :=
 ∃ (n:Nat) (Pv:Nat->List V->St->Hp->Prop),Pv 0 [] (eQ cap σ) (upd H1 l (.lst [])) /\
  (∀ i ys σ' H',i<n->Pv i ys σ' H'->J.go i H'/\∀ x H2,J.yld i H' x H2->g x σ' H2 fun σ3 H3=>tt σ3 H3 fun b H4 =>
   if b=true then te σ3 H4 fun y H5=>H5 l=some (.lst ys)/\ys.length<EF/\Pv (i+1) (ys++[y]) σ3 (upd H5 l (.lst (ys++[y]))) else Pv (i+1) ys σ3 H4) /\
  ∀ ys σ' H',Pv n ys σ' H'->J.stop n H'/\Q (.ref l) H'
section
variable {K:W.Frag} {σ:St} {H:Hp} {Q:VK} {te:TE} {cap:List (Option Nat)} {l:Ω}
theorem AA {wi:TI} {g:TG} {tt:TT} (h:wi σ H fun J H1=>∀ l,H1 l=none->gO J g tt te cap l σ H1 Q):uo wi g tt te cap σ H Q:=h
theorem lU {α β:Type} (F:α->β) (xs:List α) (i:Nat) {x:α} (h:xs[i]?=some x):(xs.take (i+1)).map F=(xs.take i).map F++[F x]:=by
 rw [Gn,h,FO];rfl
theorem fx {a:Ω} {xs:List V} (F:V->V) (hs:SqL K H a xs) (hz:xs.length<=1000) (hl:H l=none)
  (step:∀ x o H' (Q':VK),x∈xs->ah H H'->(∀ H5,ah H' H5->Q' (F x) H5)->te (((eQ (none::cap) σ).set 0 o).set 0 (some x)) H' Q')
  (fin:∀ H',ah H H'->H' l=some (.lst (xs.map F))->Q (.ref l) H'):gO (Itl K a) (cT 0) gU te (none::cap) l σ H Q:=by
 refine ⟨xs.length,fun i ys σ' H'=>ys=(xs.take i).map F/\(∃ o,σ'=(eQ (none::cap) σ).set 0 o)/\ah H H'/\H' l=some (.lst ys),⟨rfl,⟨none,rfl⟩,ah.new hl,af⟩,?_,?_⟩
 ·rintro i ys σ' H' hi ⟨rfl,⟨o,rfl⟩,s,e⟩;refine ⟨⟨xs,xs[i],s.seq hs,by simp [hi]⟩,fun x H2 y=>?_⟩;obtain ⟨e2,y⟩:=y;subst e2;have hx:=y xs (s.seq hs);refine b9 (dA (lF ?_));refine step x o H2 _ (ES hx) s fun H5 s5=>⟨s5 _ _ e,?_,?_⟩
  ·rw [Aj,E7];exact fm (by omega)
  ·exact ⟨(lU F xs i hx).symm,⟨_,Iz ..⟩,(s.trans s5).later hl,af⟩
 ·rintro ys σ' H' ⟨rfl,_,s,e⟩;rw [EN (A_ _)] at e;exact ⟨⟨xs,s.seq hs,A_ _⟩,fin H' s e⟩
theorem jh {n:Nat} (F:Nat->V) (hz:n<=1000) (hl:H l=none)
  (step:∀ i o H' (Q':VK),i<n->ah H H'->(∀ H5,ah H' H5->Q' (F i) H5)->te (((eQ (none::cap) σ).set 0 o).set 0 (some (.int ((0:Int)+(i:Nat))))) H' Q')
  (fin:∀ H',ah H H'->H' l=some (.lst ((FG n).map F))->Q (.ref l) H'):gO (Itr 0 n) (cT 0) gU te (none::cap) l σ H Q:=by
 refine ⟨n,fun i ys σ' H'=>ys=(FG i).map F/\(∃ o,σ'=(eQ (none::cap) σ).set 0 o)/\ah H H'/\H' l=some (.lst ys),⟨rfl,⟨none,rfl⟩,ah.new hl,af⟩,?_,?_⟩
 ·rintro i ys σ' H' hi ⟨rfl,⟨o,rfl⟩,s,e⟩;refine ⟨hi,fun x H2 y=>?_⟩;obtain ⟨e2,rfl⟩:=y;subst e2;refine b9 (dA (lF ?_));refine step i o H2 _ hi s fun H5 s5=>⟨s5 _ _ e,?_,?_⟩
  ·rw [Aj,GL];exact fm (by omega)
  ·refine ⟨?_,⟨_,Iz ..⟩,(s.trans s5).later hl,af⟩;rw [HZ,FO];rfl
 ·rintro ys σ' H' ⟨rfl,_,s,e⟩;exact ⟨A_ _,fin H' s e⟩
def BE (K:W.Frag) (f:Str) (y x:V) (H2:Hp) (k:Hp->Prop):Prop:=∃ a C dx fs,x=.ref a/\H2 a=some (.ins C dx fs)/\Cls K C/\cF K C f/\fs.length<1000/\k (upd H2 a (.ins C dx (dN f y fs)))
theorem AX {D:dn} {ta tv:TE} {f:Str} (h:tv σ H fun y H1=>ta σ H1 fun x H2=>BE K f y x H2 fun H3=>D.nx σ H3):DO K ta tv f D σ H:=h
theorem fW {f:Str} {y:V} {k:Hp->Prop} {a C dx:Ω} {fs:List (Str×V)} (h:H a=some (.ins C dx fs)) (c:Cls K C) (n:cF K C f) (z:fs.length<1000) (q:k (upd H a (.ins C dx (dN f y fs)))):BE K f y (.ref a) H k:=⟨a,C,dx,fs,rfl,h,c,n,z,q⟩
def BW (c:TT) (tb:TS) (D:dn) (σ:St) (H:Hp):Prop:=∃ W:Nat->St->Hp->Prop,(∃ m,W m σ H)/\∀ m σ H,W m σ H ->
 c σ H fun b H1=>if b=true then ∃ N:St->Hp->Prop,(∀ σ' H',N σ' H'->∃ m',m'<m/\W m' σ' H')/\tb { D with nx:=N,ct:=N,bk:=D.nx } σ H1 else D.nx σ H1
theorem yG {D:dn} {c:TT} {tb:TS} (h:BW c tb D σ H):zp c tb D σ H:=h
theorem iR {n:Nat} {tt:TGs} {a:Ω} {xs:List V} {QS:St->Hp->Prop} (h:H a=some (.tup xs)) (hl:xs.length=n) (q:tt xs σ H QS):rA K n tt (.ref a) σ H QS:=⟨a,xs,rfl,SqT.of h,hl,q⟩
theorem cP {tg:TG} {u:TGs} {v:V} {r:List V} {QS:St->Hp->Prop} (h:tg v σ H fun σ' H'=>u r σ' H' QS):gR tg u (v::r) σ H QS:=⟨v,r,rfl,h⟩
theorem iQ {QS:St->Hp->Prop} (h:QS σ H):uP [] σ H QS:=⟨rfl,h⟩
end
section
variable {X:Cx} (K:W.Frag) (h:X.K=K)
include h
theorem ar:IxR X (Av K):=h ▸ tL
theorem aN:IxR X (Aw K):=h ▸ xr
theorem nB:IxR X (rIx K):=h ▸ Ca
theorem a9:bL X (.builtin "isinstance") (CF K):=h ▸ uG
theorem bp:bL X (.builtin "len") (Ax K):=h ▸ B3
theorem sY (hc:X.calm=true):bL X (.builtin "all") (CD K):=h ▸ B2 hc
theorem sZ (hc:X.calm=true):bL X (.builtin "sum") (CI K):=h ▸ B4 hc
theorem iz:bL X (.type "list") (ud K):=h ▸ zF
theorem mh:bL X (.type "tuple") (rO K):=h ▸ wJ
theorem gu:SlR X (CH K):=h ▸ A8
theorem uk:SlR X (yj K):=h ▸ A9
theorem da {e:Fo} {ta:TE} {f:Str} {pos:Il} (he:PE X e ta) (hb:II e f X.env (Gf e X.env)=Gf e X.env):PE X (.Attribute e f pos) (Dc K ta f):=h ▸ Cv he hb
end
theorem mi {zs:List Int} {k:Nat}:dY (zs.map V.int) (some (k:Int)) none=(zs.drop k).map V.int:=by
 unfold dY;rw [HT.fZ,HT.jJ,Aj];rcases Ku k zs.length with h | h
 ·rw [Hl h,<- List.map_drop,EN (by rw [Aj,Fb]; omega)]
 ·rw [Jf h,L6 h,Jv,G4]; rfl
theorem getD_mem {α:Type} {zs:List α} {k:Nat} {d:α} (h:k<zs.length):zs.getD k d∈zs:=by
 rw [Ex,ς h];exact HN h
theorem et {X:Cx} (K:W.Frag) (hK:X.K=K) {es:List Fo} {k:Nat} {t:TGs} {n:Nat} {pos:Il} (hc:X.calm=true) (h:PGs X es t)
  (hn:(JQ es X.env).length=n:=by rfl) (hst:(JQ es X.env).findIdx? (·.1)=none:=by rfl):PG X (.Tuple es k pos) (rA K n t):=hK ▸ Cz hc h hn hst
theorem mF {H:Hp}:∀ (ns:List Int),RepL H (ns.map JU) (ns.map V.int)
 | []=>by simp only [HW,RepL]
 | n::r=>by
  simp only [EW,RepL,Rep];exact ⟨_,_,rfl,rfl,mF r⟩
theorem qC {H:Hp} {a:Ω} {ns:List Int} (h:H a=some (.lst (ns.map V.int))):Rep H (.list (ns.map JU)) (.ref a):=by
 simp only [Rep];exact ⟨a,_,rfl,h,mF ns⟩
theorem pH:∀ ns ms:List Int,GN (ns.map JU) (ms.map JU)=decide (ns=ms)
 | [],[]=>by simp [GN]
 | [],_::_=>by simp [GN]
 | _::_,[]=>by simp [GN]
 | a::r,b::u=>by
  simp only [EW,GN,Fz,pH r u];by_cases h:a=b<;>by_cases h':r=u<;>simp [h,h']
theorem vG {H:Hp} {Q:VK} {a b:Ω} {ns ms:List Int} (ha:H a=some (.lst (ns.map V.int))) (hb:H b=some (.lst (ms.map V.int))) (q:Q (.bl (decide (ns=ms))) H):vC false (.ref a) (.ref b) H Q :=
 ⟨_,_,qC ha,qC hb,W.ke_shaped_ints _,W.ke_shaped_ints _,by
  have e:Fz (.list (ns.map JU)) (.list (ms.map JU))=decide (ns=ms):=by simp only [Fz]; exact pH ns ms
  rw [e]; exact q⟩
theorem fX {H:Hp}:∀ {ds:List GS} {xs:List V},RepL H ds xs->ds.length=xs.length/\∀ (i:Nat) x,xs[i]?=some x->∃ d,ds[i]?=some d/\Rep H d x
 | [],xs,h=>by simp only [RepL] at h; subst h; exact ⟨rfl,fun i x e=>by simp at e⟩
 | d::ds,xs,h=>by
  simp only [RepL] at h;obtain ⟨x,r,rfl,h1,h2⟩:=h;obtain ⟨l,g⟩:=fX h2;refine ⟨by simp [l],fun i y e=>?_⟩
  cases i with
  | zero => simp at e; subst e; exact ⟨d, rfl, h1⟩
  | succ i => exact g i y (by simpa using e)
end L2
set_option maxHeartbeats 4000000
namespace L2
open PySem
inductive DS {α:Type}:KZ α->Prop
 | pure (a:α):DS (.pure a)
 | raise (e:Δ):DS (.raise e)
 | unsup (w:String):DS (.unsupported w)
 | fin (e:Ending):DS (.finish e)
 | rule {t:String} {k:Unit->KZ α}:DS (k ())->DS (.rule t k)
 | here {p:Il} {k:Unit->KZ α}:DS (k ())->DS (.at p k)
 | load {a:Ω} {p:Option Δ} {k:HC->KZ α}:(∀ o,DS (k o))->DS (.load a p k)
 | upd {a:Ω} {p:Option Δ} {f:HC->HC} {k:Unit->KZ α}:(∀ o,(f o).dict=o.dict/\(f o).isFreed=o.isFreed)->DS (k ())->DS (.update a p f k)
 | alloc {o:HC} {k:Ω->KZ α}:(∀ n,DS (k n))->DS (.alloc o k)
 | point {l:List Δ} {k:Unit->KZ α}:DS (k ())->DS (.point l k)
 | fresh {k:Tok->KZ α}:(∀ n,DS (k n))->DS (.fresh k)
 | ask {k:Setting->KZ α}:(∀ n,DS (k n))->DS (.ask k)
 | stack {k:List (Code×Il)->KZ α}:(∀ n,DS (k n))->DS (.stack k)
theorem DS.andThen {α β:Type} {m:KZ α} {f:α->KZ β} (h:DS m) (g:∀ a,DS (f a)):DS (m >>= f):=by
 show DS (Hi m f)
 induction h with
 | pure a=>rw [Hi]; exact g a
 | raise e=>rw [Hi]; exact .raise e
 | unsup w=>rw [Hi]; exact .unsup w
 | fin e=>rw [Hi]; exact .fin e
 | rule _ ih=>rw [Hi]; exact .rule ih
 | here _ ih=>rw [Hi]; exact .here ih
 | load _ ih=>rw [Hi]; exact .load ih
 | upd z _ ih=>rw [Hi]; exact .upd z ih
 | alloc _ ih=>rw [Hi]; exact .alloc ih
 | point _ ih=>rw [Hi]; exact .point ih
 | fresh _ ih=>rw [Hi]; exact .fresh ih
 | ask _ ih=>rw [Hi]; exact .ask ih
 | stack _ ih=>rw [Hi]; exact .stack ih
def mM (e:Ω) (dx:Option Ω) (h:FD):Prop:=∃ o,h.get? e=some o/\o.dict=dx
theorem mM.upd {e a:Ω} {dx:Option Ω} {h:FD} {f:HC->HC} (x:mM e dx h) (z:∀ o,(f o).dict=o.dict/\(f o).isFreed=o.isFreed):mM e dx (h.update a f):=by
 obtain ⟨o,h1,h2⟩:=x;by_cases q:a=e
 ·subst q;have fr:o.isFreed=false:=(Heap.get?_some_iff.mp h1).2;exact ⟨_,G6 f h1 (by rw [(z o).2]; exact fr),by rw [(z o).1]; exact h2⟩
 ·exact ⟨o,by rw [E9 h f q]; exact h1,h2⟩
theorem DS.run {α:Type} {M:JS} {Γ:Ctx} {m:KZ α} {Q:α->Il->A2->Prop} {E:Δ->Il->A2->Prop} {p:Il} {s:A2} {e:Ω} {dx:Option Ω} (h:DS m) (w:IZ M Γ m Q E p s) (x:mM e dx s.heap) :
  IZ M Γ m (fun a p s'=>Q a p s'/\mM e dx s'.heap) (fun v p s'=>E v p s'/\mM e dx s'.heap) p s:=by
 induction h generalizing p s with
 | pure a=>rw [IZ] at w ⊢; exact ⟨w,x⟩
 | raise v=>rw [IZ] at w ⊢; exact ⟨w,x⟩
 | unsup q=>rw [IZ] at w; exact w.elim
 | fin q=>rw [IZ] at w; exact w.elim
 | rule _ ih=>rw [IZ] at w ⊢; exact ih w x
 | here _ ih=>rw [IZ] at w ⊢; exact ih w x
 | load _ ih=>rw [IZ] at w ⊢; obtain ⟨o,h1,h2⟩:=w; exact ⟨o,h1,ih o h2 x⟩
 | upd z _ ih=>rw [IZ] at w ⊢; exact ⟨w.1,ih w.2 (x.upd z)⟩
 | alloc _ ih=>rw [IZ] at w ⊢; exact ih _ w (let ⟨o,h1,h2⟩:=x; ⟨o,χ _ h1,h2⟩)
 | point _ ih=>rw [IZ] at w ⊢; exact ih w x
 | fresh _ ih=>rw [IZ] at w ⊢; exact ih _ w x
 | ask _ ih=>rw [IZ] at w ⊢; exact ih _ w x
 | stack _ ih=>rw [IZ] at w ⊢; exact ih _ w x
theorem DS.any {α:Type} {M:JS} {A:E5} {m:KZ α} {Q:α->A2->Prop} {E:Δ->A2->Prop} {s:A2} {e:Ω} {dx:Option Ω} (h:DS m) (w:EM M A m Q E s) (x:mM e dx s.heap) :
  EM M A m (fun a s'=>Q a s'/\mM e dx s'.heap) E s:=fun Γ p hΓ =>
 Sem.wp_mono M Γ m (fun _ _ _ z=>z) (fun _ _ _ z=>z.1) p s (h.run (w Γ p hΓ) x)
theorem fP {α:Type} {c:Prop} [Decidable c] {a b:KZ α} (h1:DS a) (h2:DS b):DS (if c then a else b):=by split<;>assumption
theorem iA (v:Δ) (i:Nat):DS (Lk v i):=by
 unfold Lk fieldsOf;refine DS.andThen ?_ fun vs=>?_
 ·cases v with
  | ref a =>
   refine DS.andThen (.load fun o=>.pure o) fun o=>?_
   cases o.data<;>first | exact .pure _ | exact .unsup _
  | _ => exact .unsup _
 ·cases vs[i]?<;>first | exact .pure _ | exact .unsup _
theorem m9 (f:Array Δ->Array Δ) (o:HC):(Obj.mapFields f o).dict=o.dict/\(Obj.mapFields f o).isFreed=o.isFreed:=by
 obtain ⟨c,d,dt,sl⟩:=o
 cases dt<;>exact ⟨rfl,rfl⟩
theorem fQ (v:Δ) (i:Nat) (x:Δ):DS (setField v i x):=by
 unfold setField
 cases v with
 | ref a =>
  unfold updateField;refine DS.andThen (.load fun o=>.pure o) fun o=>?_
  cases o.data with
  | fields vs => exact fP (.upd (m9 _) (.pure ())) (.unsup _)
  | _ => exact .unsup _
 | _=>exact .unsup _
theorem nr (e:Δ) (f:Option Ω):DS (setFlight e f):=by
 unfold setFlight;exact DS.andThen (iA _ _) fun tb=>fP (fQ _ _ _) (.pure _)
theorem zK (env:K8) (b:Bool) (l:List K8):DS (keptBack env b l):=by
 cases l with
 | nil =>
  unfold keptBack underTheClaimsCaller;refine fP (.pure _) (DS.andThen (DS.andThen (.stack fun n=>.pure n) fun _=>.pure _) fun q=>.pure _)
 | cons c r=>unfold keptBack; exact .pure _
theorem uN (env:K8) (l:List K8):DS (behindIsImport env l):=by
 unfold behindIsImport;exact fP (.pure _) (fP (.pure _) (DS.andThen (iA _ _) fun _=>.pure _))
theorem pG:∀ l:List K8,DS (readyFrames l)
 | []=>by unfold readyFrames; exact .pure _
 | env::r=>by
  unfold readyFrames
  cases env.frame with
  | none => exact .unsup _
  | some f =>
   refine DS.andThen (.load fun o=>.pure o) fun o=>fP (.pure _) ?_;refine DS.andThen (uN _ _) fun b=>DS.andThen (zK _ _ _) fun v=>DS.andThen (.upd (fun o=>⟨rfl,by obtain ⟨c,d,dt,sl⟩:=o; cases dt<;>rfl⟩) (.pure ())) fun _=>pG r
theorem rp (env:K8):DS (frameOf env):=by
 unfold frameOf frameEnvs;refine DS.andThen (DS.andThen (.stack fun n=>.pure n) fun _=>.pure _) fun l=>DS.andThen ?_ fun o=>?_
 ·generalize l.dropWhile _=l'
  cases l' with
  | nil => unfold frameObject; exact .pure _
  | cons c r => unfold frameObject; exact DS.andThen (pG _) fun _ => .pure _
 ·cases o with
  | none => exact .unsup _
  | some f => exact .pure _
theorem wV (f:Ω) (b:Bool):DS (entryPlaceOf f b):=by
 unfold entryPlaceOf;refine DS.andThen (.stack fun n=>.pure n) fun l=>?_
 cases l.find? _ with
 | none=>exact .pure _
 | some q=>exact .pure _
theorem pF (a b c d e:Δ) (l:List Δ):DS (Jr a b c d e l):=by
 unfold Jr newFields newObj newObjAsIs;generalize ([a,b,c,d,e]++if l.isEmpty then List.replicate 6 Hw else l)=vs;dsimp only
 split
 ·exact DS.andThen (.unsup _) fun _=>DS.andThen (.alloc fun n=>.pure n) fun _=>.pure _
 ·exact DS.andThen (.alloc fun n=>.pure n) fun _=>.pure _
theorem nh (e:Δ) (env:K8):DS (noteFrame e env):=by
  unfold noteFrame
  cases env.frame with
  | none => exact .unsup _
  | some f =>
    refine DS.andThen (iA _ _) fun hd=>?_;have tail:DS (do
        let a <- frameOf env
        let pl <- entryPlaceOf f (hd != .none)
        let b <- Jr hd a .none (Lc f) .none pl
        setField e 1 b):=DS.andThen (rp _) fun _=>DS.andThen (wV _ _) fun _=>DS.andThen (pF _ _ _ _ _ _) fun _=>fQ _ _ _
    refine fP ?_ tail;refine DS.andThen (iA _ _) fun x=>fP (.pure _) (DS.andThen (fQ _ _ _) fun _=>tail)
theorem jU (env:K8) (e:Δ):DS (leaving env e):=by
 unfold leaving;exact DS.andThen (nh _ _) fun _=>nr _ _
end L2
namespace L2
open PySem PySem.Spec PyProof.Rows
structure Exc (g h:FD) (H:Hp) (e C:Ω) (xo:Option Ω):Prop where
 tr:h.Traced g e (.ref C)
 ne:g.get? e=none
 he:H e=none
 hT:∀ oe vs T,h.get? e=some oe->oe.data=.fields vs->vs[1]?=some (.ref T)->H T=none
 dc:∀ dx,xo=some dx->mM e (some dx) h
noncomputable def CX1 (P:ER) (w:E2):CXT:=fun outer H s E x s'=>∃ (e C:Ω) (xo:Option Ω) (H':Hp),x=.ref e/\s'.os=s.os/\JK s'.gens/\Un (frs outer) [] H H' s.heap s'.heap/\HOk P w H' s'.heap/\Exc s.heap s'.heap H' e C xo/\E (.ref C) xo H'
section
variable {X:Cx} {pins:List (Ω×HC)} {σ:St} {H:Hp} {s:A2}
theorem Inv.left {h':FD} {es:List Ω} (I:Inv X pins σ H s) (hs:X.stack=X.env::X.outer) (he:∀ b∈es,H b=none/\X.s₀.heap.get? b=none)
  (keep:∀ b o,s.heap.get? b=some o->b∉frs X.stack->b∉es->h'.get? b=some o) (slot:∀ b o,s.heap.get? b=some o->b∈frs X.stack->∃ sl,h'.get? b=some { o with slots:=sl }):Un X.fs X.ex X.H₀ H X.s₀.heap h'/\HOk X.prog X.w H h':=by
 have sub:∀ b∈X.fs,b∈frs X.stack:=fun b hb=>by
  rw [hs]; unfold frs; rw [HJ]
  cases X.env.frame with
  | none => exact hb
  | some f => exact Θ _ hb
 have nfr:∀ b u,H b=some u->b∉frs X.stack:=fun b u e z=>by rw [I.stkFree b z] at e; cases e
 have nes:∀ b u,H b=some u->b∉es:=fun b u e z=>by rw [(he b z).1] at e; cases e
 have neL:∀ b o,X.s₀.heap.get? b=some o->b∉X.fs->b∉frs X.stack:=fun b o e hb z=>by
  rcases Bb.mp (I.stkSub b z) with q | q
  ·exact absurd (EU (EC e) (q ▸ I.ok.above)) (Gj _)
  ·exact hb q
 have ne0:∀ b o,X.s₀.heap.get? b=some o->b∉es:=fun b o e z=>by rw [(he b z).2] at e; cases e
 refine ⟨⟨fun b o e n hb hx=>keep b o (I.base.keep b o e n hb hx) (neL b o e hb) (ne0 b o e),fun b o e n hb hx=>?_,I.base.free,fun b o e hx=>?_,I.base.tups,I.base.frzs,I.base.tbls⟩,fun b u e=>?_⟩
 ·obtain ⟨sl,e1⟩:=I.base.slot b o e n hb hx;obtain ⟨sl',e2⟩:=slot b _ e1 (sub b hb);exact ⟨sl',e2⟩
 ·obtain ⟨o',e1⟩:=I.base.there b o e hx;by_cases hf:b∈frs X.stack
  ·obtain ⟨sl,e2⟩:=slot b o' e1 hf;exact ⟨_,e2⟩
  ·exact ⟨o',keep b o' e1 hf (ne0 b o e)⟩
 ·refine (I.hok b u e).stay (fun c v hc q=>?_) (fun _ q=>q) fun _ _ q=>q;rcases hc with z | z
  ·rw [z] at q ⊢; exact keep b v q (nfr b u e) (nes b u e)
  ·exact keep c v q (nfr c _ z) (nes c _ z)
end
theorem bg.get {P:ER} {w:E2} {H:Hp} {h:FD} {a:Ω} {o:HO} (x:bg P w H h a o):∃ ob,h.get? a=some ob:=by
 cases o with
 | lst xs=>obtain ⟨_,_,_,_,e⟩:=x; exact ⟨_,e⟩
 | tup xs=>obtain ⟨_,_,_,p⟩:=x; obtain ⟨o,e,_⟩:=p; exact ⟨_,e⟩
 | dK kvs=>obtain ⟨_,_,_,_,o,_,_,e,_⟩:=x; exact ⟨_,e⟩
 | dT kvs=>obtain ⟨_,_,_,_,o,_,_,e,_⟩:=x; exact ⟨_,e⟩
 | set S n=>obtain ⟨o,_,_,_,e,_⟩:=x; exact ⟨_,e⟩
 | ins C dx fs=>obtain ⟨_,_,_,e,_⟩:=x; exact ⟨_,e⟩
 | own y=>obtain ⟨_,e⟩:=x; exact ⟨_,e⟩
 | xd fs=>obtain ⟨_,⟨_,_,_,e,_⟩,_⟩:=x; exact ⟨_,e⟩
 | rng lo hi=>obtain ⟨_,_,_,e⟩:=x; exact ⟨_,e⟩
 | frz ob u=>obtain ⟨e,_⟩:=x; exact ⟨_,e⟩
 | tbl ps=>exact ⟨_,(show h.get? a=some _ from x)⟩
 | met f y=>exact ⟨_,(show h.get? a=some _ from x)⟩
 | ext φ=>obtain ⟨_,⟨_,e⟩,_⟩:=x; exact ⟨_,e⟩
theorem HOk.none_of {P:ER} {w:E2} {H:Hp} {h:FD} {a:Ω} (k:HOk P w H h) (e:h.get? a=none):H a=none:=by
 cases q:H a with
 | none=>rfl
 | some o=>obtain ⟨_,z⟩:=(k a o q).get; rw [e] at z; cases z
section
variable {P:ER} {w:E2} {K:W.Frag} {mg:Str->Option Δ} {base:FD} {N:List Str} {qual:Str} {scope:Jl} {f:Ω} {cd:Δ} {A:E5} {outer:List K8} {s₀:A2} {H₀:Hp} {E:XK} {pins:List (Ω×HC)} {σ:St} {H:Hp} {s:A2}
theorem qP {l:List K8} {as:List Ω} (h:∀ b∈frs l,b∈as):∀ env∈l,∀ a,env.frame=some a->a∈as:=fun env he a ha=>h a (IE.mpr ⟨env,he,ha⟩)
theorem Bm {e C:Ω} {xo:Option Ω} {oe:HC} {vs:Array Δ} (I1:Inv (eW (CX1 P w) P w K mg base N qual scope f cd A outer s₀ H₀ E) pins σ H s) (he:s.heap.get? e=some oe) (hcl:oe.cls=.ref C) (hda:oe.data=.fields vs) (h1:vs[1]?=some .none)
  (hs0:s₀.heap.get? e=none) (hHe:H e=none) (dc:∀ dx,xo=some dx->oe.dict=some dx) (q:E (.ref C) xo H):(eW (CX1 P w) P w K mg base N qual scope f cd A outer s₀ H₀ E).xe (.ref e) s:=by
 have ff:=I1.stack;have hl:=W.funFrames_hide (as:=e::frs (eW (CX1 P w) P w K mg base N qual scope f cd A outer s₀ H₀ E).stack) ff (qP fun b hb=>Θ _ hb);have fin:=wpAny_leaving_first (M:=EZ P w) (E:=fun v s'=>CX1 P w outer H₀ s₀ E v s') (base:=W.hideAll s.heap (e::frs (eW (CX1 P w) P w K mg base N qual scope f cd A outer s₀ H₀ E).stack)) (L:=s₀.heap.objs.size) (e:=e) (s:=s) (Q:=fun _ s'=>∃ h2,s'={ s with heap:=h2 }/\Heap.Left (W.hideAll s.heap (e::frs (eW (CX1 P w) P w K mg base N qual scope f cd A outer s₀ H₀ E).stack)) (Ju qual scope s₀.heap.objs.size f cd::outer) e oe.cls s.heap h2) I1.ok.frames hl rfl he (fun b o z=>W.of_hideAll _ z) (W.hideAll_none _ θ) hda h1 fun h2 lf=>⟨h2,rfl,lf⟩
 refine GO (DS.any (jU _ _) fin ⟨oe,he,rfl⟩) (fun _ s' ⟨⟨h2,e2,lf⟩,hd2⟩=>?_) fun _ _ z=>z;subst e2;obtain ⟨st,ff2,tr,up⟩:=lf;have lf:=I1.left (h':=h2) (es:=[e]) rfl (fun b hb=>by rw [Ξ.mp hb]; exact ⟨hHe,hs0⟩) (fun b o z nf ne=>st b o (W.hideAll_get _ z (by intro m; rcases Bb.mp m with r | r; exact ne (by simp [r]); exact nf r)))
  (fun b o z hb=>by
   obtain ⟨_,o',z',hd⟩:=ff.mem hb;rw [z] at z'; cases z';exact up b o z hd)
 obtain ⟨oe',ws,T,oT,ts,g1,g2,g3,g4,g5,g6,g7,g8,g9⟩:=tr;have nT:T∉frs (eW (CX1 P w) P w K mg base N qual scope f cd A outer s₀ H₀ E).stack:=fun z=>by
  obtain ⟨_,o,zo,hd⟩:=ff2.mem z;rw [g7] at zo; cases zo;exact hd ts g8
 have key:∀ o,s.heap.get? T=some o->False:=fun o z=>by
  rw [W.hideAll_get _ z (by intro m; rcases Bb.mp m with r | r; exact g6 r; exact nT r)] at g5
  cases g5
 have hT0:s₀.heap.get? T=none:=by
  cases z:s₀.heap.get? T with
  | none => rfl
  | some o => obtain ⟨o', z'⟩ := I1.base.there T o z (by intro q; cases q); exact (key o' z').elim
 have hHT:H T=none:=by
  cases z:H T with
  | none => rfl
  | some o => obtain ⟨o', z'⟩ := (I1.hok T o z).get; exact (key o' z').elim
 refine ⟨e,C,xo,H,rfl,I1.os,I1.bare,lf.1,lf.2,⟨⟨oe',ws,T,oT,ts,g1,g2.trans hcl,g3,g4,hT0,g6,g7,g8,g9⟩,hs0,hHe,fun oe2 vs' T' z1 z2 z3=>?_,fun dx z=>by rw [dc dx z] at hd2; exact hd2⟩,q⟩;rw [g1] at z1; cases z1;rw [g3] at z2; cases z2;rw [g4] at z3; cases z3;exact hHT
theorem gv {h':FD} {t':Nat} {e C:Ω} {vs:List Δ} (I:Inv (eW (CX1 P w) P w K mg base N qual scope f cd A outer s₀ H₀ E) pins σ H s) (hx:LV s.heap h' e (.ref C) vs) (q:E (.ref C) none H) :
  (eW (CX1 P w) P w K mg base N qual scope f cd A outer s₀ H₀ E).xe (.ref e) { s with heap:=h',toks:=t' }:=by
 have I1:=I.kept (t':=t') hx.keeps;obtain ⟨t,he,ht,_⟩:=hx.there
 have hs0:s₀.heap.get? e=none:=by
  cases z:s₀.heap.get? e with
  | none => rfl
  | some o => obtain ⟨o', z'⟩ := I.base.there e o z (by intro q; cases q); rw [hx.new] at z'; cases z'
 exact Bm I1 he rfl rfl rfl hs0 (I.hok.none_of hx.new) (fun _ z=>by cases z) q
theorem bY:ft (CX1 P w) (eW (CX1 P w) P w K mg base N qual scope f cd A outer s₀ H₀ E) E:=by
  intro pins σ H s x s' I h;obtain ⟨e,C,xo,H',rfl,os,bare,un,hok,ex,q⟩:=h;have J:=I.call' (s':=s') (ch:=[]) os un hok bare (fun b hb=>by cases hb);obtain ⟨⟨oe,ws,T,oT,ts,g1,g2,g3,g4,g5,g6,g7,g8,g9⟩,ne,hHe,hHT,dc⟩:=ex;have hHT:=hHT oe ws T g1 g3 g4;have s0:∀ {b:Ω},s.heap.get? b=none->s₀.heap.get? b=none:=fun {b} hb=>by
    cases z:s₀.heap.get? b with
    | none=>rfl
    | some o=>obtain ⟨o',z'⟩:=I.base.there b o z (by intro q; cases q); rw [hb] at z'; cases z'
  have ff:=J.stack;have hl:=W.funFrames_hide (as:=e::T::frs (eW (CX1 P w) P w K mg base N qual scope f cd A outer s₀ H₀ E).stack) ff (qP fun b hb=>Θ _ (Θ _ hb));have fin:=wpAny_leaving_next (M:=EZ P w) (E:=fun v s'=>CX1 P w outer H₀ s₀ E v s') (base:=W.hideAll s'.heap (e::T::frs (eW (CX1 P w) P w K mg base N qual scope f cd A outer s₀ H₀ E).stack)) (L:=s₀.heap.objs.size) (e:=e) (s:=s') (Q:=fun _ s2=>∃ h2,s2={ s' with heap:=h2 }/\Heap.Left (W.hideAll s'.heap (e::T::frs (eW (CX1 P w) P w K mg base N qual scope f cd A outer s₀ H₀ E).stack)) (Ju qual scope s₀.heap.objs.size f cd::outer) e (.ref C) s'.heap h2) J.ok.frames hl rfl
    ⟨oe,ws,T,oT,ts,g1,g2,g3,g4,W.hideAll_none _ (Θ _ θ),g6,g7,g8,g9⟩ (fun b o z=>W.of_hideAll _ z) (W.hideAll_none _ θ) fun h2 lf=>⟨h2,rfl,lf⟩
  refine GO (DS.any (jU _ _) fin ⟨oe,g1,rfl⟩) (fun _ s2 ⟨⟨h2,e2,lf⟩,hd2⟩=>?_) fun _ _ z=>z;subst e2;obtain ⟨st,ff2,tr,up⟩:=lf;have lf:=J.left (h':=h2) (es:=[e,T]) rfl (fun b hb=>by
      simp only [Bb,Ey,or_false] at hb;rcases hb with rfl | rfl
      · exact ⟨hHe,s0 ne⟩
      · exact ⟨hHT,s0 g5⟩) (fun b o z nf ne=>st b o (W.hideAll_get _ z (by
        intro m;rcases Bb.mp m with r | m
        · exact ne (by simp [r])
        · rcases Bb.mp m with r | r
          · exact ne (by simp [r])
          · exact nf r)))
      (fun b o z hb=>by
        obtain ⟨_,o',z',hd⟩:=ff.mem hb;rw [z] at z'; cases z';exact up b o z hd)
  obtain ⟨oe2,ws2,T2,oT2,ts2,k1,k2,k3,k4,k5,k6,k7,k8,k9⟩:=tr;have nT:T2∉frs (eW (CX1 P w) P w K mg base N qual scope f cd A outer s₀ H₀ E).stack:=fun z=>by
    obtain ⟨_,o,zo,hd⟩:=ff2.mem z;rw [k7] at zo; cases zo;exact hd ts2 k8
  have hT0:s₀.heap.get? T2=none/\H' T2=none:=by
    by_cases r:T2=T
    · subst r; exact ⟨s0 g5,hHT⟩
    · have key:∀ o,s'.heap.get? T2=some o->False:=fun o z=>by
        rw [W.hideAll_get _ z (by
          intro m;rcases Bb.mp m with q | m
          · exact k6 q
          · rcases Bb.mp m with q | q
            · exact r q
            · exact nT q)] at k5
        cases k5
      constructor
      · cases z:s₀.heap.get? T2 with
        | none=>rfl
        | some o=>obtain ⟨o',z'⟩:=J.base.there T2 o z (by intro q; cases q); exact (key o' z').elim
      · cases z:H' T2 with
        | none=>rfl
        | some o=>obtain ⟨o',z'⟩:=(J.hok T2 o z).get; exact (key o' z').elim
  refine ⟨e,C,xo,H',rfl,J.os,J.bare,lf.1,lf.2,⟨⟨oe2,ws2,T2,oT2,ts2,k1,k2,k3,k4,hT0.1,k6,k7,k8,k9⟩,s0 ne,hHe,fun oe' vs' T' z1 z2 z3=>?_,fun dx z=>by
      obtain ⟨o,y1,y2⟩:=dc dx z;rw [g1] at y1; cases y1;rw [y2] at hd2; exact hd2⟩,q⟩
  rw [k1] at z1; cases z1;rw [k3] at z2; cases z2;rw [k4] at z3; cases z3;exact hT0.2
end
def sL (C:Ω) (E:XK) (t:TA):TS:=fun _ σ H=>t σ H fun vs H1=>vs.length<=EF/\E (.ref C) none H1
theorem ya {X:Cx} {E:XK} {x:Str} {C:Ω} {B newId initId:String} {bm:List Δ} {np cpos pos:Il} {e:Fo} {es:List Fo} {t:TA} (O:OwnCls x C bm newId X.mg X.base) (FB:ExcBaseFacts B newId initId bm) (hc:X.calm=true) (hg:Gl X x)
  (hx:∀ (pins:List (Ω×HC)) (σ:St) (H:Hp) (s:A2) (h':FD) (t':Nat) (e:Ω) (vs:List Δ),Inv X pins σ H s->LV s.heap h' e (.ref C) vs->E (.ref C) none H->X.xe (.ref e) { s with heap:=h',toks:=t' })
  (ha:PA X (e::es) t) (hd:(x==("__debug__":Str))=false:=by decide) (he:Ew (e::es) X.env=(false,Gf e X.env)::Ew es X.env:=by rfl) (hpl:(HB cpos (Ew es X.env)).any (·.1)=false:=by rfl) :
  PS X (.Raise (some (.Call (.Name x np) (e::es) [] cpos)) none pos) (sL C E t):=by
 intro pins s σ H D I h;obtain ⟨tl,N,nm,q,bs,hdct,sn,sub,ab,col,dd,k0,k1,k2,k3,k5,mN,hC,hN,hni,T⟩:=O.obj;refine wpAny_Raise_call_subT (C:=C) (nm:=nm) (q:=q) (N:=N) (bs:=bs) (bm:=tl) (hdct:=hdct) (sn:=sn) (sub:=sub) (ab:=ab) (col:=col) (dd:=dd) (k0:=k0) (k1:=k1) (k2:=k2) (k3:=k3) (k5:=k5)
  FB (mN:=mN) (T.hasType FB.hasBase) (I.ok.hd hc) (by rw [he]; show (false||(HB cpos (Ew es X.env)).any (·.1))=false; rw [hpl]; rfl) hni (iG I hg O.bound ⟨rfl,?_⟩ hd)
 have h1:=ha cpos pins s σ H _ I h;rw [he] at h1 ⊢;refine J7 (GO h1 (fun us s2 ⟨vs,H2,I2,r2,hl,hE⟩=>⟨rfl,by show us.length<=EF; rw [<- r2.length]; exact hl,I2.bk _ _ hC,hN.keeps I2.bk,T.keeps I2.bk,fun h' a mk=>?_⟩) fun _ _ y=>y);exact hx pins σ H2 s2 h' s2.toks a us I2 mk hE
section
variable {P:ER} {w:E2} {K:W.Frag} {mg:Str->Option Δ} {base:FD}
theorem Fun.ok1 {x qual:Str} {st:Jd} {f:Ω} {fd:GB} {N ps:List Str} {k:Nat} {sp:Sp} (F:Fun K x qual st f fd) (S:aw N ps (ak st)) (len:∀ vs H Q E,sp vs H Q E->vs.length=ps.length)
  (hbody:∀ (cdv:Δ) (A:E5) (outer:List K8) (s:A2) (H:Hp) (vs:List V) (Q:VK) (E:XK),bT k (A.deeper (Ju qual (ak st) s.heap.objs.size f cdv))->sp vs H Q E ->
   ∃ t,PSs (eW (CX1 P w) P w K mg base N qual (ak st) f cdv A outer s H E) (cC st) t/\t { nx:=fun _ H'=>Q .non H',rt:=Q } (start N vs) H):aP P w K mg base (CX1 P w) (k+1) f fd ps sp:=by
 obtain ⟨oc,od,kV,doc,pm,an,cdv,ct,osl,rfl,lk,hcd⟩:=F.ex;exact Bq lk hcd S len fun A outer s H vs Q E hr hsp=>hbody cdv A outer s H vs Q E hr hsp
theorem aP.up {k:Nat} {f:Ω} {fd:GB} {ps:List Str} {sp:Sp} (F:aP P w K mg base CX0 k f fd ps sp):aP P w K mg base (CX1 P w) k f fd ps sp :=
 ⟨F.len,fun A outer s H args us vs Q E hr e0 hb hv hs=>IX (F.run A outer s H args us vs Q E hr e0 hb hv hs) fun r s' h=>by
  cases r with
  | error e => exact GJ h
  | ok fl => cases fl <;> exact h⟩
end
end L2
namespace L2
open PySem PySem.Spec PyProof.Rows PySem.W Builtin Builtin.ObjectAttr Builtin.Getset_descriptor
end L2
namespace L2
open PySem PySem.Spec PyProof.Rows
structure lW (K:W.Frag) (C:Ω):Prop where
 ga:W.findIn K (.ref C) "__getattribute__"=some (some (.builtin "BaseException.__getattribute__"))
 gt:W.findIn K (.ref C) "__getattr__"=some none
 cl:W.findIn K (.ref C) "__class__"=some (some (.builtin "object.__class__"))
 gs:W.specialIn K (.builtin "object.__class__") "__get__"=some (some (.builtin "getset_descriptor.__get__"))
 tk:W.takesIn K (.builtin "object.__class__")=some true
 mo:W.mroIn K C (.type "object")=some true
 mb:W.mroIn K C (.type "BaseException")=some true
noncomputable abbrev Cx.suite (X:Cx) (e:Ω):Cx:={ X with A:=X.A.mark (some (.ref e)),calm:=false,xe:=fun _ _=>False }
noncomputable abbrev Cx.quiet (X:Cx):Cx:={ X with calm:=false }
theorem i0 {K:W.Frag} {A S:Ω} (bs:W.subIn K (.ref S) (.type "BaseException")=some true) (mo:W.mroIn K S (.type "object")=some true) (ty:W.typeIn K (.ref S)=some (.type "type"))
  (sb:W.subIn K (.ref A) (.ref S)=some true):W.exmOne K (.ref A) (.ref S)=some true:=by
 obtain ⟨cd,hc,_⟩:=Option.bind_eq_some_iff.mp mo;simp only [W.exmOne,W.kitCls];simp [bs,hc,ty,sb]
theorem Cs {K:W.Frag} {h:FD} {mg:Str->Option Δ} {x:Str} {C:Ω} {bmB:List Δ} {newId:String} (X:K.In h) (hm:mg x=some (.ref C)) (q:W.excIn K C bmB newId=true):OwnCls x C bmB newId mg h:=by
 refine ⟨hm,?_⟩;simp only [W.excIn] at q
 split at q
 case h_2=>cases q
 case h_1 dd cd sl ho =>
  split at q
  case h_2=>cases q
  case h_1 C' bm k0 k1 k2 k3 n k5 hmr hsl =>
   simp only [FL,beq_iff_eq,Bool.not_eq_true'] at q;obtain ⟨⟨⟨⟨⟨e1,e2⟩,hdel⟩,ht⟩,hok⟩,hni⟩:=q;subst e1 e2;have hh:=X _ _ ho;obtain ⟨nm,bs,mro,ns,qn,hd,sn,sub,ab,col,del⟩:=cd;simp only at hmr hdel hok hni
   subst hmr hdel;obtain ⟨l⟩:=sl;simp only at hsl
   subst hsl;exact ⟨bm,ns,nm,qn,bs,hd,sn,sub,ab,col,dd,k0,k1,k2,k3,k5,_,hh,.of_isNs (W.isNs_of_in X hok),W.nsMap_none_of_in X hok hni,W.tail_of_in X ht⟩
theorem cH {X:Cx} {E:XK} {x:Str} {C:Ω} {B newId initId:String} {bm:List Δ} {np cpos pos:Il} {e:Fo} {es:List Fo} {t:TA} (hm:X.mg x=some (.ref C)) (q:W.excIn X.K C bm newId=true) (FB:ExcBaseFacts B newId initId bm) (hc:X.calm=true) (hg:Gl X x)
  (hx:∀ (pins:List (Ω×HC)) (σ:St) (H:Hp) (s:A2) (h':FD) (t':Nat) (e:Ω) (vs:List Δ),Inv X pins σ H s->LV s.heap h' e (.ref C) vs->E (.ref C) none H->X.xe (.ref e) { s with heap:=h',toks:=t' })
  (ha:PA X (e::es) t) (hd:(x==("__debug__":Str))=false:=by decide) (he:Ew (e::es) X.env=(false,Gf e X.env)::Ew es X.env:=by rfl) (hpl:(HB cpos (Ew es X.env)).any (·.1)=false:=by rfl) :
  PS X (.Raise (some (.Call (.Name x np) (e::es) [] cpos)) none pos) (sL C E t):=fun pins s σ H D I h =>
 ya (Cs I.ok.mod.kin hm q) FB hc hg hx ha hd he hpl pins s σ H D I h
theorem yz {C:Ω} {E:XK} {t:TA} {D:dn} {σ:St} {H:Hp} (h:t σ H fun vs H1=>vs.length<=EF/\E (.ref C) none H1):sL C E t D σ H:=h
section
variable {P:ER} {w:E2} {K:W.Frag} {mg:Str->Option Δ} {base:FD}
theorem aP.down {k:Nat} {f:Ω} {fd:GB} {ps:List Str} {sp sp':Sp} (F:aP P w K mg base (CX1 P w) k f fd ps sp) (h:∀ vs H Q E,sp' vs H Q E->sp vs H Q (fun _ _ _=>False)):aP P w K mg base CX0 k f fd ps sp' :=
 ⟨fun vs H Q E q=>F.len vs H Q _ (h _ _ _ _ q),fun A outer s H args us vs Q E hr e0 hb hv hs=>IX (F.run A outer s H args us vs Q _ hr e0 hb hv (h _ _ _ _ hs)) fun r s' hq=>by
  cases r with
  | error e => obtain ⟨_, _, _, _, _, _, _, _, _, _, z⟩ := hq; exact z.elim
  | ok fl => cases fl <;> exact hq⟩
end
theorem rQ {H:Hp} {Q:VK} {a b:Ω} {xs zs:List V} (ha:H a=some (.lst xs)) (hb:H b=some (.lst zs)) (z:xs.length+zs.length<=EF) (q:∀ p,H p=none->Q (.ref p) (upd H p (.lst (xs++zs)))):DA (.ref a) (.ref b) H Q :=
 ⟨a,b,xs,zs,rfl,rfl,ha,hb,z,q⟩
def SameBut (l:Ω) (H H':Hp):Prop:=∀ b o,H b=some o->b≠l->H' b=some o
def BL (t:TS):TS:=fun D σ H=>∃ J:St->Hp->Prop,t { D with nx:=J } σ H/\∀ σ' H',J σ' H'->D.nx σ' H'
theorem cq {X:Cx} {st:Jd} {t:TS} (h:PS X st t):PS X st (BL t):=by
 intro pins s σ H D I ⟨J,h1,h2⟩;refine GO (h pins s σ H _ I h1) (fun f s' q=>?_) fun _ _ z=>z
 cases f with
 | next=>obtain ⟨σ',H',J',q⟩:=q; exact ⟨σ',H',J',h2 σ' H' q⟩
 | brk=>exact q
 | cont=>exact q
 | ret u=>exact q
theorem cu {t:TS} {D:dn} {σ:St} {H:Hp} (J:St->Hp->Prop) (h1:t { D with nx:=J } σ H) (h2:∀ σ' H',J σ' H'->D.nx σ' H'):BL t D σ H:=⟨J,h1,h2⟩
section
variable {prog:ER} {w:E2} {A:E5} {E:Δ->A2->Prop} {s:A2}
theorem ux {I u:Ω} {k:Nat} {its:Array Δ} {x:Δ} {Q:Δ->A2->Prop} (hI:s.heap.IsTupleIter I u k) (hu:s.heap.IsTuple u its) (hx:its[k]?=some x)
  (hQ:∀ g,g.IsTupleIter I u (k+1)->G0 I s.heap g->Q x { s with heap:=g }):EM (EZ prog w) A (F9 (.ref I)) Q E s:=by
 obtain ⟨oI,eI,cI,dI⟩:=id hI;obtain ⟨ou,eu,_,nu,du⟩:=hu;unfold F9;refine ξ (Gx (name:=HE "__next__") hI.typeIs IB (Gk IB hI.typeIs Lp ?_ (Lj _)))
 show EM _ _ (Lk (.ref I) 0 >>= _) _ _ s
 refine ξ (GY eI dI (x:=.ref u) rfl ?_)
 show EM _ _ (if (E3 u==Hw)=true then _ else _) _ _ s
 rw [if_neg (show ¬ ((E3 u==Hw)=true) from E4)]
 show EM _ _ (Lk (.ref I) 1 >>= _) _ _ s
 refine ξ (GY eI dI (x:=.int k 0) rfl ?_)
 show EM _ _ (Lb (.ref u) >>= _) _ _ s
 refine ξ (Ge eu du ?_);rw [Gb]; simp only [hx];refine ξ (wpAny_setField eI dI (by simp) (B_ ⟨x,rfl,B_ (hQ _ ?_ (Jb ..))⟩));exact ⟨_,G6 _ eI (Obj.isFreed_of_fields (Obj.data_mapFields dI _)),(Obj.cls_mapFields ..).trans cI,by rw [Obj.data_mapFields dI]; simp [Lc]⟩
theorem Bg {I u:Ω} {k:Nat} {its:Array Δ} {Q:Δ->A2->Prop} (hd0:A.handled=none) (hI:s.heap.IsTupleIter I u k) (hu:s.heap.IsTuple u its) (hx:its[k]?=none)
  (hE:∀ g e,Heap.ExtBut I s.heap g->(∃ o,g.get? e=some o/\o.cls=.type "StopIteration")->E (.ref e) { s with heap:=g }):EM (EZ prog w) A (F9 (.ref I)) Q E s:=by
 obtain ⟨oI,eI,cI,dI⟩:=id hI;obtain ⟨ou,eu,_,nu,du⟩:=hu;unfold F9;refine ξ (Gx (name:=HE "__next__") hI.typeIs IB (Gk IB hI.typeIs Lp ?_ (Lj _)))
 show EM _ _ (Lk (.ref I) 0 >>= _) _ _ s
 refine ξ (GY eI dI (x:=.ref u) rfl ?_)
 show EM _ _ (if (E3 u==Hw)=true then _ else _) _ _ s
 rw [if_neg (show ¬ ((E3 u==Hw)=true) from E4)]
 show EM _ _ (Lk (.ref I) 1 >>= _) _ _ s
 refine ξ (GY eI dI (x:=.int k 0) rfl ?_)
 show EM _ _ (Lb (.ref u) >>= _) _ _ s
 refine ξ (Ge eu du ?_);rw [Gb]; simp only [hx];refine ξ (GX (ξ (wpAny_setField eI dI (by simp) ?_)))
 show EM _ _ (newExc (.type "StopIteration") [] >>= _) _ _ _; refine ξ ?_
 simp only [newExc,newTuple]; refine ξ (Gw ?_ (by size_fits));refine ξ (m:=firstArgMember _ _) (wpAny_of_eq (a:=Hw) (by first | rfl | (simp only [firstArgMember]; rfl)) ?_); refine Gw ?_ (by size_fits);simp only [raiseNew]; refine ξ (wpAny_handled ?_); rw [show A.in1.handled=none from hd0];refine ξ (B_ (wpAny_throw ?_)); exact hE _ _ (((Jb ..).extBut.push _).push _) ⟨_,EB _ rfl,rfl⟩
theorem wA {Z TI TO i j u v:Ω} {k l:Nat} {xs ys:Array Δ} {x y a b:Δ} {Q:Option Δ->A2->Prop} (D:LJ Z TI TO i j u v)
  (eZ:Kd s.heap Z TI TO .none) (eI:Ib s.heap TI (.ref i) (.ref j)) (eO:Ib s.heap TO a b) (ei:s.heap.IsTupleIter i u k) (ej:s.heap.IsTupleIter j v l) (eu:s.heap.IsTuple u xs) (ev:s.heap.IsTuple v ys) (hx:xs[k]?=some x) (hy:ys[l]?=some y)
  (hQ:∀ g,Kd g Z TI TO (Lc s.heap.objs.size)->Ib g TO x y->g.IsTupleIter i u (k+1)->g.IsTupleIter j v (l+1)->Ib g s.heap.objs.size x y->g.objs.size=s.heap.objs.size+1 ->
   (∀ c o,c≠Z->c≠TO->c≠i->c≠j->s.heap.get? c=some o->g.get? c=some o)->Q (some (.ref s.heap.objs.size)) { s with heap:=g }):EM (EZ prog w) A (KW (.ref Z)) Q E s:=by
 have hT:s.TypeIs (.ref Z) "zip":=⟨_,eZ,rfl⟩
 unfold KW;refine ξ (Kw (Gx (name:=HE "__next__") hT J_ (Gk J_ hT F.entry_zip_next ?_ (F.args_zip_next_1 _))))
 show EM _ _ (Lk (.ref Z) 2 >>= _) _ _ _
 refine ξ (GY eZ rfl (x:=.bool false) rfl ?_)
 show EM _ _ (Lk (.ref Z) 3 >>= _) _ _ _
 refine ξ (GY eZ rfl (x:=.ref TI) rfl ?_); refine ξ (Ge eI rfl ?_)
 show EM _ _ (Gh (.ref Z) >>= _) _ _ _
 refine ξ ?_; unfold Gh;refine ξ (GY eZ rfl (x:=.none) rfl (B_ ?_)); simp only [if_true];refine ξ (GX ?_); refine ξ (GY eZ rfl (x:=.ref TO) rfl ?_);refine ξ (IL eZ (by simp) fun g1 z1 t1=>?_)
 replace z1:Kd g1 Z TI TO .ellipsis:=z1
 refine ξ ?_; simp only [K0,K_,Io,LU]; refine ξ (ξ (MU ?_))
 show EM _ _ (F9 (.ref i) >>= _) _ _ _
 refine ξ (ux (ei.extBut t1.extBut D.i1z) (eu.extBut t1.extBut D.l1z) hx fun g2 i2 t2=>B_ ?_);have o2:Ib g2 TO a b:=t2.extBut _ _ D.TOi1 (t1.extBut _ _ D.TOz eO);refine ξ (Ge o2 rfl ?_); refine ξ (wpAny_updateSeq_pair o2 fun g3 o3 t3=>?_)
 replace o3:Ib g3 TO x b:=o3
 refine ξ (IQ (B_ ?_)); refine ξ (ξ (MU ?_))
 show EM _ _ (F9 (.ref j) >>= _) _ _ _
 refine ξ (ux (((ej.extBut t1.extBut D.i2z).extBut t2.extBut D.i12.symm).extBut t3.extBut D.TOi2.symm) (((ev.extBut t1.extBut D.l2z).extBut t2.extBut D.l2i1).extBut t3.extBut D.l2TO) hy fun g4 j4 t4=>B_ ?_);have o4:Ib g4 TO x b:=t4.extBut _ _ D.TOi2 o3;refine ξ (Ge o4 rfl ?_); refine ξ (wpAny_updateSeq_pair o4 fun g5 o5 t5=>?_)
 replace o5:Ib g5 TO x y:=o5
 refine ξ (IQ (B_ (B_ ?_))); refine ξ (Ge o5 rfl ?_); refine ξ (KS ?_);have sz:g5.objs.size=s.heap.objs.size:=by rw [t5.1,t4.1,t3.1,t2.1,t1.1]
 have z5:Kd g5 Z TI TO .ellipsis:=t5.extBut _ _ D.TOz.symm (t4.extBut _ _ D.i2z.symm (t3.extBut _ _ D.TOz.symm (t2.extBut _ _ D.i1z.symm z1)));have k5:∀ c o,c≠Z->c≠TO->c≠i->c≠j->s.heap.get? c=some o->g5.get? c=some o:=fun c o c1 c2 c3 c4 q=>t5.extBut _ _ c2 (t4.extBut _ _ c4 (t3.extBut _ _ c2 (t2.extBut _ _ c3 (t1.extBut _ _ c1 q))));have i5:g5.IsTupleIter i u (k+1):=((i2.extBut t3.extBut D.TOi1.symm).extBut t4.extBut D.i12).extBut t5.extBut D.TOi1.symm;have j5:g5.IsTupleIter j v (l+1):=j4.extBut t5.extBut D.TOi2.symm;have lz:Z<g5.objs.size:=EC z5
 show EM _ _ (JD (.ref Z) (.ref g5.objs.size) >>= _) _ _ _
 refine ξ ?_; unfold JD;have z6:Kd (g5.push { cls:=.type "tuple",data:=.seq #[x,y] }) Z TI TO .ellipsis:=χ _ z5;refine ξ (IL z6 (by simp) fun g7 z7 t7=>?_)
 replace z7:Kd g7 Z TI TO (Lc g5.objs.size):=z7
 refine IL z7 (by simp) fun g8 z8 t8=>?_
 replace z8:Kd g8 Z TI TO (Lc g5.objs.size):=z8
 have up:∀ c o,c≠Z->g5.get? c=some o->g8.get? c=some o:=fun c o c1 q=>t8.extBut _ _ c1 (t7.extBut _ _ c1 (χ _ q));have n8:Ib g8 g5.objs.size x y:=t8.extBut _ _ (Jw lz) (t7.extBut _ _ (Jw lz) (EB _ rfl));have s8:g8.objs.size=g5.objs.size+1:=by rw [t8.1,t7.1,GF]
 rw [sz] at z8 n8 s8;refine B_ ⟨_,rfl,B_ ?_⟩;rw [sz];obtain ⟨oi,qi⟩:=i5;obtain ⟨oj,qj⟩:=j5;exact hQ g8 z8 (up _ _ D.TOz o5) ⟨oi,up _ _ D.i1z qi.1,qi.2⟩ ⟨oj,up _ _ D.i2z qj.1,qj.2⟩ n8 s8 fun c o c1 c2 c3 c4 q=>up c o c1 (k5 c o c1 c2 c3 c4 q)
theorem zw {Z TI TO i j u v:Ω} {k:Nat} {xs:Array Δ} {Q:Option Δ->A2->Prop} (hd0:A.handled=none) (D:LJ Z TI TO i j u v)
    (eZ:Kd s.heap Z TI TO .none) (eI:Ib s.heap TI (.ref i) (.ref j)) (ei:s.heap.IsTupleIter i u k) (eu:s.heap.IsTuple u xs) (hx:xs[k]?=none)
    (hQ:∀ g,(∀ c o,c≠Z->c≠TO->c≠i->c≠j->s.heap.get? c=some o->g.get? c=some o)->Q none { s with heap:=g }):EM (EZ prog w) A (KW (.ref Z)) Q E s:=by
  have hT:s.TypeIs (.ref Z) "zip":=⟨_,eZ,rfl⟩
  have body:∀ (E':Δ->A2->Prop) (Q':Fin->A2->Prop),(∀ g e,(∀ c o,c≠Z->c≠TO->c≠i->c≠j->s.heap.get? c=some o->g.get? c=some o)->(∃ o,g.get? e=some o/\o.cls=.type "StopIteration")->E' (.ref e) { s with heap:=g }) ->
      EM (EZ prog w) A.in1 (IK.«zip.__next__» ⟨[.ref Z],[]⟩) Q' E' s:=fun E' Q' hE=>by
    show EM _ _ (Lk (.ref Z) 2 >>= _) _ _ _
    refine ξ (GY eZ rfl (x:=.bool false) rfl ?_)
    show EM _ _ (Lk (.ref Z) 3 >>= _) _ _ _
    refine ξ (GY eZ rfl (x:=.ref TI) rfl ?_); refine ξ (Ge eI rfl ?_)
    show EM _ _ (Gh (.ref Z) >>= _) _ _ _
    refine ξ ?_; unfold Gh;refine ξ (GY eZ rfl (x:=.none) rfl (B_ ?_)); simp only [if_true];refine ξ (GX ?_); refine ξ (GY eZ rfl (x:=.ref TO) rfl ?_);refine ξ (IL eZ (by simp) fun g1 z1 t1=>?_)
    replace z1:Kd g1 Z TI TO .ellipsis:=z1
    refine ξ ?_; simp only [K0,K_,Io,LU]; refine ξ (ξ (MU ?_))
    show EM _ _ (F9 (.ref i) >>= _) _ _ _
    refine ξ (Bg hd0 (ei.extBut t1.extBut D.i1z) (eu.extBut t1.extBut D.l1z) hx fun g2 e t2 he=>?_);obtain ⟨oe,q1,q2⟩:=he;have z2:Kd g2 Z TI TO .ellipsis:=t2 _ _ D.i1z.symm z1;have ne:e≠Z:=fun q=>by subst q; rw [z2] at q1; cases q1; simp at q2
    refine IL z2 (by simp) fun g3 _ t3=>hE g3 e (fun c o c1 _ c3 _ q=>t3.extBut _ _ c1 (t2 _ _ c3 (t1.extBut _ _ c1 q))) ⟨oe,t3.extBut _ _ ne q1,q2⟩
  unfold KW;refine ξ (Kw (Gx (name:=HE "__next__") hT J_ (Gk J_ hT F.entry_zip_next (body _ _ fun g e hk he=>?_) (F.args_zip_next_1 _))));obtain ⟨o,q1,q2⟩:=he;exact ξ (LZ (T:="StopIteration") (b:=true) ⟨o,q1,q2⟩ isSubtype_stop (B_ (hQ _ hk)))
end
theorem jY {h:FD} {a:Ω} {its:Array Δ} (p:IsTup h a its):h.IsTuple a its:=p
noncomputable def zz (K:W.Frag) (a b:Ω):It :=
  ⟨fun i H=>∃ xs ys x y,SqT K H a xs/\SqT K H b ys/\xs[i]?=some x/\ys[i]?=some y,
   fun i H v H'=>∃ T,v=.ref T/\H T=none/\∀ xs ys,SqT K H a xs->SqT K H b ys->∃ x y,xs[i]?=some x/\ys[i]?=some y/\H'=upd H T (.tup [x,y]),
   fun i H=>∃ xs ys,SqT K H a xs/\SqT K H b ys/\xs.length<=i⟩
theorem wm {P:ER} {w:E2} {K:W.Frag} {elts:List Fo} {kt:Nat} {pt:Il} {a b n:Ω} (ha:a<n) (hb:b<n) :
    oY P w K (.Tuple elts kt pt) (zz K a b) [n+4,n+2,n+3,n,n+1] (n+4) (fun i h=>Kd h (n+4) (n+2) (n+3) .none/\Ib h (n+2) (.ref n) (.ref (n+1))/\(∃ x y,Ib h (n+3) x y)/\h.IsTupleIter n a i/\h.IsTupleIter (n+1) b i) where
  mem:=by simp
  obj:=fun i h st c hc=>by
    obtain ⟨z1,z2,⟨x,y,z3⟩,⟨o4,e4,c4,d4⟩,⟨o5,e5,c5,d5⟩⟩:=st;simp only [Bb,Ey,or_false] at hc;rcases hc with rfl | rfl | rfl | rfl | rfl
    · exact ⟨_,z1,fun v z=>by cases z⟩
    · exact ⟨_,z2,fun v z=>by cases z⟩
    · exact ⟨_,z3,fun v z=>by cases z⟩
    · exact ⟨_,e4,fun v z=>by rw [d4] at z; cases z⟩
    · exact ⟨_,e5,fun v z=>by rw [d5] at z; cases z⟩
  keep:=fun i h h' st k=>by
    obtain ⟨z1,z2,⟨x,y,z3⟩,z4,z5⟩:=st;exact ⟨k _ (by simp) _ z1,k _ (by simp) _ z2,⟨x,y,k _ (by simp) _ z3⟩,z4.at fun o e=>k _ (by simp) o e,z5.at fun o e=>k _ (by simp) o e⟩
  item:=by
    intro X hP hw hK hc i pins s σ H E I hf st hg;subst hP hw hK;obtain ⟨xs,ys,x,y,hqa,hqb,hx,hy⟩:=hg;obtain ⟨its,rv,p,hz⟩:=I.tuple hqa;obtain ⟨jts,rw',p',hz'⟩:=I.tuple hqb;obtain ⟨u,hu,ru⟩:=rv.get hx;obtain ⟨u',hu',ru'⟩:=rw'.get hy;obtain ⟨z1,z2,⟨x0,y0,z3⟩,z4,z5⟩:=st;have D:LJ (n+4) (n+2) (n+3) n (n+1) a b:=Hj ha hb;have ltz:n+4<s.heap.objs.size:=EC z1;refine wA D z1 z2 z3 z4 z5 (jY p) (jY p') (x:=u) (y:=u') (by simpa using hu) (by simpa using hu') fun h' a1 a2 a3 a4 a5 a6 hk=>?_;refine ⟨_,rfl,MP (s:={ s with heap:=h' }) a1 fun h2 b1 hs=>?_⟩;have neT:∀ {c:Ω},c<=n+4->c≠s.heap.objs.size:=fun h=>EH (E_ h ltz);have kk:∀ c o,c∉[n+4,n+3,n,n+1]->s.heap.get? c=some o->h2.get? c=some o:=fun c o hc e=>by
      simp only [Bb,Ey,or_false,not_or] at hc;exact (hs.2 c hc.1).trans (hk c o hc.1 hc.2.1 hc.2.2.1 hc.2.2.2 e)
    have q2:h2.get? (n+2)=_:=kk _ _ (by simp only [Bb,Ey,or_false,not_or]; exact ⟨D.TIz,D.TITO,D.TIi1,D.TIi2⟩) z2;have q3:h2.get? (n+3)=_:=(hs.2 _ D.TOz).trans a2;obtain ⟨o4,e4,c4⟩:=a3;obtain ⟨o5,e5,c5⟩:=a4;have q4:h2.get? n=_:=(hs.2 _ D.i1z).trans e4;have q5:h2.get? (n+1)=_:=(hs.2 _ D.i2z).trans e5;have qT:h2.get? s.heap.objs.size=_:=(hs.2 _ (GH (neT (A_ _)))).trans a5;have sub:∀ c∈[n+4,n+3,n,n+1],c∈[n+4,n+2,n+3,n,n+1]:=fun c hc=>by
      simp only [Bb,Ey,or_false] at hc ⊢;rcases hc with e | e | e | e
      · exact .inl e
      · exact .inr (.inr (.inl e))
      · exact .inr (.inr (.inr (.inl e)))
      · exact .inr (.inr (.inr (.inr e)))
    have I1:Inv X pins σ (upd H s.heap.objs.size (.tup [x,y])) { s with heap:=h2,toks:=s.toks }:=I.turnedL (ch:=[n+4,n+3,n,n+1]) kk (fun c hc=>hf c (sub c hc)) (fun c hc=>by
        simp only [Bb,Ey,or_false] at hc;rcases hc with rfl | rfl | rfl | rfl
        · exact ⟨_,b1⟩
        · exact ⟨_,q3⟩
        · exact ⟨_,q4⟩
        · exact ⟨_,q5⟩) (A_ _) ⟨by show 2<=EF; decide,[u,u'],.cons ru (.cons ru' .nil),_,qT,rfl,_,rfl⟩
    refine ⟨.ref s.heap.objs.size,_,I1,rfl,⟨_,rfl,I.hok.fresh (A_ _),fun vs ws hv hw=>?_⟩,⟨b1,q2,⟨_,_,q3⟩,⟨_,q4,c4⟩,⟨_,q5,c5⟩⟩,fun c hc=>?_⟩
    · rw [I.tuple_inj hv hqa,I.tuple_inj hw hqb]
      exact ⟨x,y,hx,hy,rfl⟩
    · have hle:c<=n+4:=by
        simp only [Bb,Ey,or_false] at hc;rcases hc with rfl | rfl | rfl | rfl | rfl
        · exact A_ _
        · exact Fd (n+2) 2
        · exact Fd (n+3) 1
        · exact Fd _ 4
        · exact Fd (n+1) 3
      rw [aj (neT hle)];exact (hf c hc).1
  done:=by
    intro X hP hw hK hc i pins s σ H E I hf st hg;subst hP hw hK;obtain ⟨xs,ys,hqa,hqb,hl⟩:=hg;obtain ⟨its,rv,p,hz⟩:=I.tuple hqa;obtain ⟨jts,rw',p',hz'⟩:=I.tuple hqb;obtain ⟨z1,z2,⟨x0,y0,z3⟩,z4,z5⟩:=st;have D:LJ (n+4) (n+2) (n+3) n (n+1) a b:=Hj ha hb;have l1:=rv.length;have l2:=rw'.length;refine zw (I.ok.hd hc) D z1 z2 z4 (jY p) ?_ fun h' hk=>⟨rfl,?_⟩
    · simp; omega
    · have fp:∀ c∈[n+4,n+3,n,n+1],gJ X pins H c:=fun c hc=>hf c (by
        simp only [Bb,Ey,or_false] at hc ⊢;rcases hc with e | e | e | e
        · exact .inl e
        · exact .inr (.inr (.inl e))
        · exact .inr (.inr (.inr (.inl e)))
        · exact .inr (.inr (.inr (.inr e))))
      have kk:∀ c o,c∉[n+4,n+3,n,n+1]->s.heap.get? c=some o->h'.get? c=some o:=fun c o hc e=>by
        simp only [Bb,Ey,or_false,not_or] at hc;exact hk c o hc.1 hc.2.1 hc.2.2.1 hc.2.2.2 e
      have nit:∀ c u,H c=some u->c∉[n+4,n+3,n,n+1]:=fun c u e z=>by rw [(fp c z).1] at e; cases e
      refine I.step (g':=s.gens) (d':=s.drawn) (t':=s.toks) (ch:=[n+4,n+3,n,n+1]) (fun c hc=>⟨(fp c hc).2.2.2.1,(fp c hc).2.1,(fp c hc).2.2.2.2.1,(fp c hc).2.2.2.2.2⟩) (fun c o _ _ hc e _=>kk c o hc e) (fun c o _ _ hc e _=>⟨o.slots,kk c o hc e⟩) (fun _ _ _ _ n=>n)
        (fun c o hc e=>⟨o,kk c o hc e⟩) (fun _ _ e=>e) (fun _ _ _ e=>e) (fun _ ps e=>⟨#[],by rw [e]; simp⟩) (fun m hm=>?_) (fun c u e=>?_) I.bare
      · obtain ⟨ob,es,ep,ho,r⟩:=hm
        exact ⟨ob,es,ep,kk _ ob (fun z=>(fp _ z).2.1 rfl) ho,r⟩
      · refine (I.hok c u e).stay (fun d v hd q=>kk d v ?_ q) (fun _ e'=>e') fun _ _ e'=>e'
        rcases hd with z | z
        · rw [z]; exact nit c u e
        · exact nit d _ z
  self:=fun _ _ _ _ _ st h=>J2 st.1 h
section
variable {prog:ER} {w:E2} {A:E5} {E:Δ->A2->Prop} {s:A2}
noncomputable abbrev zT1 (h:FD) (u:Ω):Heap:=h.push { cls:=.type "tuple_iterator",data:=.fields #[.ref u,.int 0 0] }
noncomputable abbrev zT2 (h:FD) (u v:Ω):Heap:=(zT1 h u).push { cls:=.type "tuple_iterator",data:=.fields #[.ref v,.int 0 0] }
noncomputable abbrev zT3 (h:FD) (u v:Ω):Heap:=(zT2 h u v).push { cls:=.type "tuple",data:=.seq #[.ref h.objs.size,.ref (zT1 h u).objs.size] }
noncomputable abbrev zT4 (h:FD) (u v:Ω):Heap:=(zT3 h u v).push { cls:=.type "tuple",data:=.seq #[.none,.none] }
noncomputable abbrev zT5 (h:FD) (u v:Ω):Heap:=(zT4 h u v).push { cls:=.type "zip",data:=.fields #[.none,.bool false,.bool false,.ref (zT2 h u v).objs.size,.ref (zT3 h u v).objs.size] }
theorem zx (u v:Ω) (xs ys:Array Δ):Meets (IK.«zip.__new__» ⟨[.type "zip",.ref u,.ref v],[]⟩) (fun _ R s=>s.heap.IsTuple u xs/\s.heap.IsTuple v ys/\R (.ok (.ret (.ref (zT4 s.heap u v).objs.size))) { s with heap:=zT5 s.heap u v }) :=
 .of_wp fun prog w A R s h=>by
  obtain ⟨hp,g,d,tk,os⟩:=s; obtain ⟨t1,t2,q⟩:=h;have sz:=sub_zip;have L1:Heap.IsTuple (Shared.heap ⟨hp,g,d,tk,os⟩) u xs:=t1;have L2:Heap.IsTuple (Shared.heap ⟨hp.push { cls:=.type "tuple_iterator",data:=.fields #[.ref u,.int 0 0] },g,d,tk,os⟩) v ys:=Heap.IsTuple.push t2 _
  wp_walk using JP L1,JP L2
  exact ⟨_,rfl,q⟩
theorem wy {u v:Ω} {xs ys:Array Δ} {Q:Δ->A2->Prop} (t1:s.heap.IsTuple u xs) (t2:s.heap.IsTuple v ys)
  (q:∀ g,Kd g (s.heap.objs.size+4) (s.heap.objs.size+2) (s.heap.objs.size+3) .none->Ib g (s.heap.objs.size+2) (.ref s.heap.objs.size) (.ref (s.heap.objs.size+1))->Ib g (s.heap.objs.size+3) .none .none ->
   g.IsTupleIter s.heap.objs.size u 0->g.IsTupleIter (s.heap.objs.size+1) v 0->(∀ c o,s.heap.get? c=some o->g.get? c=some o)->Q (.ref (s.heap.objs.size+4)) { s with heap:=g }) :
  EM (EZ prog w) A (call (.type "zip") [.ref u,.ref v]) Q E s:=by
 refine callType_new F.called_zip (by decide) (F.typeCall_zip_2 _ _) (F.newCall_zip_2 _ _) (fun obj=>F.args_object_init_3 obj _ _) F.entry_zip_new (zx u v xs ys) ⟨t1,t2,?_⟩;have y1:(zT1 s.heap u).objs.size=s.heap.objs.size+1:=GF ..;have y2:(zT2 s.heap u v).objs.size=s.heap.objs.size+2:=by rw [GF,y1]
 have y3:(zT3 s.heap u v).objs.size=s.heap.objs.size+3:=by rw [GF,y2]
 have y4:(zT4 s.heap u v).objs.size=s.heap.objs.size+4:=by rw [GF,y3]
 have k5:(zT5 s.heap u v).get? (zT4 s.heap u v).objs.size=some _:=EB _ rfl;have k4:(zT5 s.heap u v).get? (zT3 s.heap u v).objs.size=some _:=χ _ (EB _ rfl);have k3:(zT5 s.heap u v).get? (zT2 s.heap u v).objs.size=some _:=χ _ (χ _ (EB _ rfl));have k2:(zT5 s.heap u v).get? (zT1 s.heap u).objs.size=some _:=χ _ (χ _ (χ _ (EB _ rfl)));have k1:(zT5 s.heap u v).get? s.heap.objs.size=some _:=χ _ (χ _ (χ _ (χ _ (EB _ rfl))))
 show _/\_
 rw [y2,y3,y4] at k5;rw [y1,y2] at k3;rw [y3] at k4;rw [y1] at k2;refine ⟨by rw [y4]; exact ⟨_,k5,rfl⟩,?_⟩;rw [y4];exact q _ k5 k3 k4 ⟨_,k1,rfl,rfl⟩ ⟨_,k2,rfl,rfl⟩ fun c o z=>χ _ (χ _ (χ _ (χ _ (χ _ z))))
end
section
variable {X:Cx} {elts:List Fo} {kt:Nat} {pt:Il}
def Bu (K:W.Frag) (ta:TA):TI:=fun σ H R=>ta σ H fun vs H1=>∃ a b,vs=[.ref a,.ref b]/\(((∃ xs,SqL K H1 a xs)/\(∃ ys,SqL K H1 b ys)/\R (Itz K a b) H1)\/((∃ xs,SqT K H1 a xs)/\(∃ ys,SqT K H1 b ys)/\R (zz K a b) H1))
theorem Al {a b:Fo} {ta:TA} {p pos:Il} (hg:Gl X "zip") (hm:X.mg "zip"=none) (ha:PA X [a,b] ta) (hs:Ew [a,b] X.env=[(false,Gf a X.env),(false,Gf b X.env)]:=by rfl) (hs2:Ew [b] X.env=[(false,Gf b X.env)]:=by rfl) :
  PI X (.Tuple elts kt pt) (.Call (.Name "zip" p) [a,b] [] pos) (Bu X.K ta):=by
 intro pins s σ H R I h;refine Call_ (eR I hg hm (by rfl:Fi "zip"=some (.type "zip")) (F6 (thn (ha pos pins s σ H _ I h) fun us s1 ⟨vs,H1,I1,r1,q1⟩=>?_) (by rw [hs,hs2]) (by rw [hs2]; rfl)));obtain ⟨a,b,e,q⟩:=q1;subst e;obtain ⟨u,v,rfl,ru,rv⟩:=r1.two
 cases (show u=E3 a from ru)
 cases (show v=E3 b from rv)
 rcases q with ⟨⟨xs,ha⟩,⟨ys,hb⟩,q⟩ | ⟨⟨xs,ha⟩,⟨ys,hb⟩,q⟩
 ·obtain ⟨its,_,p1,_⟩:=I1.list ha;obtain ⟨jts,_,p2,_⟩:=I1.list hb;have l1:a<s1.heap.objs.size:=let ⟨o,ho,_⟩:=p1.isList; EC ho;have l2:b<s1.heap.objs.size:=let ⟨o,ho,_⟩:=p2.isList; EC ho;refine call_zip_2 p1.isList p2.isList fun h' hz hTI hTO h1 h2 hsz hk=>J2 (s:={ s1 with heap:=h' }) hz ?_;refine ⟨s1.heap.objs.size+4,_,_,_,H1,rfl,I1.kept (t':=s1.toks) hk,zt l1 l2,⟨hz,hTI,⟨_,_,hTO⟩,h1,h2⟩,fun c hc=>?_,q⟩
  have hle:s1.heap.objs.size<=c:=by
   simp only [Bb,Ey,or_false] at hc;rcases hc with rfl | rfl | rfl | rfl | rfl
   ·exact Fd _ _
   ·exact Fd _ _
   ·exact Fd _ _
   ·exact A_ _
   ·exact Fd _ _
  exact I1.fpOk hle (I1.hok.fresh hle)
 ·obtain ⟨its,_,p1,_⟩:=I1.tuple ha;obtain ⟨jts,_,p2,_⟩:=I1.tuple hb;have l1:a<s1.heap.objs.size:=let ⟨o,ho,_⟩:=jY p1; EC ho;have l2:b<s1.heap.objs.size:=let ⟨o,ho,_⟩:=jY p2; EC ho;refine wy (jY p1) (jY p2) fun h' hz hTI hTO h1 h2 hk=>J2 (s:={ s1 with heap:=h' }) hz ?_;refine ⟨s1.heap.objs.size+4,_,_,_,H1,rfl,I1.kept (t':=s1.toks) hk,wm l1 l2,⟨hz,hTI,⟨_,_,hTO⟩,h1,h2⟩,fun c hc=>?_,q⟩
  have hle:s1.heap.objs.size<=c:=by
   simp only [Bb,Ey,or_false] at hc;rcases hc with rfl | rfl | rfl | rfl | rfl
   ·exact Fd _ _
   ·exact Fd _ _
   ·exact Fd _ _
   ·exact A_ _
   ·exact Fd _ _
  exact I1.fpOk hle (I1.hok.fresh hle)
end
theorem yu {K:W.Frag} {σ:St} {H:Hp} {ta:TA} {R:It->Hp->Prop} (h:ta σ H fun vs H1=>∃ a b,vs=[.ref a,.ref b]/\(((∃ xs,SqL K H1 a xs)/\(∃ ys,SqL K H1 b ys)/\R (Itz K a b) H1)\/((∃ xs,SqT K H1 a xs)/\(∃ ys,SqT K H1 b ys)/\R (zz K a b) H1))):Bu K ta σ H R:=h
theorem rm {xs:List V} {k:Nat}:dY xs none (some (k:Int))=xs.take k:=by
 unfold dY;rw [HT.fZ,HT.jJ,HP,MI];rcases Ku k xs.length with h | h
 ·rw [Hl h]
 ·rw [Jf h,EN (A_ _),EN h]
theorem rl {xs:List V} {k:Nat}:dY xs (some (k:Int)) none=xs.drop k:=by
 unfold dY;rw [HT.fZ,HT.jJ];rcases Ku k xs.length with h | h
 ·rw [Hl h,EN (by rw [Fb]; omega)]
 ·rw [Jf h,L6 h,Jv,G4]
end L2
open PySem PySem.Spec PyProof.Rows
namespace L2
structure Bo (K:W.Frag) (C:Ω) (m:Str) (f:Ω):Prop where
 ga:W.specialIn K (.ref C) "__getattribute__"=some (some (.builtin "type.__getattribute__"))
 rd:W.readsIn K C (.type "type")=true
 at_:W.findCls K (.ref C) (.type "type") m=some (.val (.ref f))
 kp:W.keepIn K (.ref f)=true
section
variable {X:Cx} {CX:CXT} {k:Nat} {f C:Ω} {fd:GB} {ps:List Str} {sp:Sp} {dvs:List V} {ds:List Δ} {E:XK} {x m:Str} {p pos apos:Il} {e o:Fo} {es:List Fo} {ta:TE} {t:TA}
theorem xS {pl:KZ Bool} (hg:Gl X x) (hm:X.mg x=some (.ref C)) (c:Bo X.K C m f) (F:aP X.prog X.w X.K X.mg X.base CX k f fd ps sp) (hr:bT k X.A) (hb:aH X.K fd ps ds) (hd:Vals dvs ds) (hx:ft CX X E) (ha:PA X (e::es) t)
  (hdb:(x==("__debug__":Str))=false:=by decide)
  (hst:Ew (e::es) X.env=(false,Gf e X.env)::Ew es X.env:=by rfl) (hpl:(HB pos (Ew es X.env)).any (·.1)=false:=by rfl)
  (ht:Gf (.Call (.Attribute (.Name x p) m apos) (e::es) [] pos) X.env=(do
   let ov <- Gf (.Name x p) X.env
   standAt apos.atName
   let (f,first) <- Lz [ov] (Ld ov m pl)
   callWith pos f first (HB pos (Ew (e::es) X.env)) (LI pos (Jk [] X.env))):=by rfl) :
  PE X (.Call (.Attribute (.Name x p) m apos) (e::es) [] pos) (zg sp dvs E t):=by
 intro pins s σ H Q I h;refine W.methodCall_KW (pl:=pl) (thn ((tY (v:=.ref C) hg hm rfl hdb) pins s σ H (fun x H1=>x=.ref C/\H1=H) I ⟨rfl,rfl⟩) fun u s1 ⟨x,H1,I1,rx,ex,eh⟩=>?_) ht;subst ex; subst eh;obtain rfl:u=E3 C:=rx
 refine W.method_cls I1.kIn c.ga (W.cls_value I1.kIn c.rd c.at_ rfl ?_);have I2:=I1.tok (s1.toks+1);refine W.callWith_K (first:=[]) (h₀:=X.base) I.ok.mod.kin c.kp (thn (ha pos pins _ σ H1 _ I2 h) fun us s2 ⟨vs,H2,I3,r,q2⟩=>⟨I3.kIn,?_⟩) hst hpl;exact nZ (us:=us) (vs:=vs) F hr hb hd hx I3 r q2
end
theorem aM {X:Cx} {s:Jd} {ss:List Jd} {r:TS} {C:TS->Prop} (d:PS X s r) (k:∀ r',r'=r->∃ ts,PSs X ss ts/\C (De r' ts)):∃ ts,PSs X (s::ss) ts/\C ts :=
 let ⟨_,h1,h2⟩:=k r rfl
 ⟨_,aL d h1,h2⟩
theorem dy {X:Cx} {s:Jd} {r:TS} {C:TS->Prop} (d:PS X s r) (k:∀ r',r'=r->C r'):∃ ts,PSs X [s] ts/\C ts:=⟨_,ai d,k r rfl⟩
theorem CO {r r':TS} {D:dn} {σ:St} {H:Hp} (e:r'=r) (h:r D σ H):r' D σ H:=e ▸ h
theorem AW {t u:TS} {D:dn} {σ:St} {H:Hp} (k:∀ u',u'=u->t { D with nx:=u' D } σ H):De t u D σ H:=k u rfl
theorem Ed {us:List Δ} (h:us.length=1):∃ a0,us=[a0]:=match us,h with | [a0],_=>⟨a0,rfl⟩
theorem Ee {us:List Δ} (h:us.length=2):∃ a0 a1,us=[a0,a1]:=match us,h with | [a0,a1],_=>⟨a0,a1,rfl⟩
theorem Ef {us:List Δ} (h:us.length=3):∃ a0 a1 a2,us=[a0,a1,a2]:=match us,h with | [a0,a1,a2],_=>⟨a0,a1,a2,rfl⟩
theorem Eg {us:List Δ} (h:us.length=4):∃ a0 a1 a2 a3,us=[a0,a1,a2,a3]:=match us,h with | [a0,a1,a2,a3],_=>⟨a0,a1,a2,a3,rfl⟩
theorem Eh {us:List Δ} (h:us.length=5):∃ a0 a1 a2 a3 a4,us=[a0,a1,a2,a3,a4]:=match us,h with | [a0,a1,a2,a3,a4],_=>⟨a0,a1,a2,a3,a4,rfl⟩
section
variable {κ:Type} [DecidableEq κ]
noncomputable def bG (kvs:List (κ×V)) (k:κ):Option V:=(kvs.find? fun kv=>decide (kv.1=k)).map (·.2)
noncomputable def cS (kvs:List (κ×V)) (k:κ) (v:V):List (κ×V) :=
 if (kvs.any fun kv=>decide (kv.1=k))=true then kvs.map (fun kv=>if kv.1=k then (kv.1,v) else kv) else kvs++[(k,v)]
theorem b6 {p:κ×V} {r:List (κ×V)} {k:κ} (e:p.1=k):bG (p::r) k=some p.2:=by simp [bG,ID,e]
theorem b0 {p:κ×V} {r:List (κ×V)} {k:κ} (e:¬ p.1=k):bG (p::r) k=bG r k:=by simp [bG,ID,e]
theorem dW (k:κ):∀ kvs:List (κ×V),(kvs.any fun kv=>decide (kv.1=k))=(bG kvs k).isSome
 | []=>rfl
 | p::r=>by
  rw [Ln];by_cases e:p.1=k
  ·simp only [b6 e,decide_eq_true e,Bool.true_or,Option.isSome_some]
  ·rw [b0 e,decide_eq_false e,KN]; exact dW k r
theorem qR (k j:κ) (y:V):∀ kvs:List (κ×V),bG (kvs.map fun kv=>if kv.1=k then (kv.1,y) else kv) j=(bG kvs j).map fun x=>if j=k then y else x
 | []=>rfl
 | p::r=>by
  have ih:=qR k j y r;rw [EW];by_cases h:p.1=k
  ·rw [if_pos h];by_cases e:p.1=j
   ·rw [b6 (p:=(p.1,y)) e,b6 e,G8,if_pos (e.symm.trans h)]
   ·rw [b0 (p:=(p.1,y)) e,b0 e,ih]
  ·rw [if_neg h];by_cases e:p.1=j
   ·rw [b6 (p:=p) e,b6 e,G8,if_neg (fun z=>h (e.trans z))]
   ·rw [b0 (p:=p) e,b0 e,ih]
theorem mH (k j:κ) (y:V):∀ kvs:List (κ×V),bG kvs k=none->bG (kvs++[(k,y)]) j=if j=k then some y else bG kvs j
 | [],_=>by
  by_cases e:k=j
  ·rw [if_pos e.symm]; exact b6 (p:=(k,y)) e
  ·rw [if_neg (fun z=>e z.symm)]; exact b0 (p:=(k,y)) e
 | p::r,hn=>by
  rw [GU];have hk:¬ p.1=k:=fun z=>by rw [b6 z] at hn; cases hn
  rw [b0 hk] at hn;have ih:=mH k j y r hn;by_cases e:p.1=j
  ·rw [b6 e,b6 e,if_neg (fun z=>hk (e.trans z))]
  ·rw [b0 e,b0 e,ih]
theorem qU (kvs:List (κ×V)) (k j:κ) (y:V):bG (cS kvs k y) j=if j=k then some y else bG kvs j:=by
 unfold cS;by_cases a:(kvs.any fun kv=>decide (kv.1=k))=true
 ·rw [if_pos a,qR];rw [dW] at a;by_cases e:j=k
  ·obtain ⟨x,hx⟩:=LQ.mp a;rw [if_pos e,e,hx,G8,if_pos rfl]
  ·rw [if_neg e]
   cases bG kvs j with
   | none=>rfl
   | some x=>rw [G8,if_neg e]
 ·rw [if_neg a];refine mH k j y kvs ?_;rw [dW] at a
  cases q:bG kvs k with
  | none => rfl
  | some x => rw [q] at a; exact (a rfl).elim
theorem d8 (kvs:List (κ×V)) (k:κ) (v:V):(cS kvs k v).length<=kvs.length+1:=by
 unfold cS
 split
 ·rw [Aj]; omega
 ·rw [Bd,Ba,Jx]; omega
theorem kE {kvs:List (κ×V)} {k:κ} (v:V) (h:bG kvs k=none):cS kvs k v=kvs++[(k,v)]:=by
 unfold cS;rw [dW,h];exact if_neg (by decide)
theorem iu.isSome_eq {o:Option V} {u:Option Δ} (r:iu o u):o.isSome=u.isSome:=by
 cases o with
 | none=>cases u with
  | none => rfl
  | some _ => exact (show False from r).elim
 | some _=>cases u with
  | none => exact (show False from r).elim
  | some _ => rfl
theorem KV.val {kvs:List (κ×V)} {vs:List (κ×Δ)} (r:KV kvs vs) (k:κ):iu (bG kvs k) (Ji vs k):=by
 unfold KV at r
 induction r with
 | nil=>exact HG
 | @cons p q ps qs h t ih =>
  obtain ⟨h1,h2⟩:=h;by_cases e:p.1=k
  ·have e':q.1=k:=h1.symm.trans e;have b:Ji (q::qs) k=some q.2:=by simp [Ji,ID,e']
   rw [b6 e,b]; exact h2
  ·have e':¬ q.1=k:=fun z=>e (h1.trans z);have b:Ji (q::qs) k=Ji qs k:=by simp [Ji,ID,e']
   rw [b0 e,b]; exact ih
theorem KV.any {kvs:List (κ×V)} {vs:List (κ×Δ)} (r:KV kvs vs) (k:κ):(kvs.any fun kv=>decide (kv.1=k))=vs.any fun kv=>decide (kv.1=k):=by
 unfold KV at r
 induction r with
 | nil=>rfl
 | cons h t ih=>rw [Ln,Ln,ih,h.1]
theorem KV.repl {kvs:List (κ×V)} {vs:List (κ×Δ)} (r:KV kvs vs) (k:κ) {y:V} {u:Δ} (ry:aU y u) :
  KV (kvs.map fun kv=>if kv.1=k then (kv.1,y) else kv) (vs.map fun kv=>if kv.1=k then (kv.1,u) else kv):=by
 unfold KV at r ⊢
 induction r with
 | nil=>exact .nil
 | @cons p q ps qs h t ih =>
  rw [EW,EW];refine .cons ?_ ih;obtain ⟨h1,h2⟩:=h;by_cases e:p.1=k
  ·rw [if_pos e,if_pos (h1.symm.trans e)]; exact ⟨h1,ry⟩
  ·rw [if_neg e,if_neg (fun z=>e (h1.trans z))]; exact ⟨h1,h2⟩
theorem KV.put {kvs:List (κ×V)} {vs:List (κ×Δ)} (r:KV kvs vs) (k:κ) {y:V} {u:Δ} (ry:aU y u):KV (cS kvs k y) (stored vs k u):=by
 unfold cS stored;rw [r.any k];by_cases e:(vs.any fun kv=>decide (kv.1=k))=true
 ·rw [if_pos e,if_pos e]; exact r.repl k ry
 ·rw [if_neg e,if_neg e]; exact Paired.snoc r ⟨rfl,ry⟩
theorem KV.length {kvs:List (κ×V)} {vs:List (κ×Δ)} (r:KV kvs vs):kvs.length=vs.length:=Paired.length r
end
theorem pM {P:ER} {w:E2} {k:Key} {u:Δ} (r:aU (kV k) u):(bJ P w).is k u=true:=by
 cases k with
 | inl i=>obtain ⟨t,e⟩:=(show ∃ t,u=IT i t from r); subst e; exact pU P w i t
 | inr x=>obtain ⟨t,e⟩:=(show ∃ t,u=Kq x t from r); subst e; exact pV P w x t
theorem mq {P:ER} {w:E2}:∀ {ks:List Key} {us:List Δ},Vals (ks.map kV) us->ItemsAre (bJ P w) ks us
 | [],_,r=>by rw [HW] at r; cases r; exact .nil
 | k::ks,_,r=>by
  rw [EW] at r
  cases r with
  | cons h t => exact .cons (pM h) (mq t)
abbrev KT (H:Hp):List (List Key×V)->List (List Key×Ω×Δ)->Prop:=Paired fun p q=>p.1=q.1/\H q.2.1=some (.tup (p.1.map kV))/\aU p.2 q.2.2
theorem KT.val {H:Hp} {kvs:List (List Key×V)} {xs:List (List Key×Ω×Δ)} (r:KT H kvs xs) (k:List Key):iu (bG kvs k) ((Mi xs k).map (·.2)):=by
 induction r with
 | nil=>exact HG
 | @cons p q ps qs h t ih =>
  obtain ⟨h1,_,h2⟩:=h;by_cases e:p.1=k
  ·have e':q.1=k:=h1.symm.trans e;have b:Mi (q::qs) k=some q.2:=by simp [Mi,ID,e']
   rw [b6 e,b]; exact h2
  ·have e':¬ q.1=k:=fun z=>e (h1.trans z);have b:Mi (q::qs) k=Mi qs k:=by simp [Mi,ID,e']
   rw [b0 e,b]; exact ih
theorem KT.repl {H:Hp} {kvs:List (List Key×V)} {xs:List (List Key×Ω×Δ)} (r:KT H kvs xs) (k:List Key) {y:V} {u:Δ} (ry:aU y u) :
  KT H (kvs.map fun kv=>if kv.1=k then (kv.1,y) else kv) (xs.map (putAt k u)):=by
 induction r with
 | nil=>exact .nil
 | @cons p q ps qs h t ih =>
  rw [EW,EW];refine .cons ?_ ih;obtain ⟨h1,h2,h3⟩:=h;unfold putAt;by_cases e:p.1=k
  ·rw [if_pos e,if_pos (h1.symm.trans e)]; exact ⟨h1,h2,ry⟩
  ·rw [if_neg e,if_neg (fun z=>e (h1.trans z))]; exact ⟨h1,h2,h3⟩
theorem KT.put {H:Hp} {kvs:List (List Key×V)} {xs:List (List Key×Ω×Δ)} (r:KT H kvs xs) (k:List Key) {b:Ω} {y:V} {u:Δ} (hb:H b=some (.tup (k.map kV))) (ry:aU y u) :
  KT H (cS kvs k y) (storedH xs k b u):=by
 have e:(kvs.any fun kv=>decide (kv.1=k))=(Mi xs k).isSome:=by
  rw [dW,(r.val k).isSome_eq,KO]
 unfold cS storedH;rw [e];by_cases q:(Mi xs k).isSome=true
 ·rw [if_pos q,if_pos q]; exact r.repl k ry
 ·rw [if_neg q,if_neg q]; exact Paired.snoc r ⟨rfl,hb,ry⟩
theorem KT.keeps {H H':Hp} {kvs:List (List Key×V)} {xs:List (List Key×Ω×Δ)} (r:KT H kvs xs) (ht:∀ b ys,H b=some (.tup ys)->H' b=some (.tup ys)):KT H' kvs xs :=
 Paired.mapP r fun _ _ z=>⟨z.1,ht _ _ z.2.1,z.2.2⟩
section
variable {P:ER} {w:E2} {H:Hp} {h:FD} {a:Ω}
theorem BG {u:HO} (ok:HOk P w H h) (e:Rd H a u):bg P w H h a u:=e.ok ok
theorem tw {kvs:List (Key×V)} (ok:HOk P w H h) (e:Rd H a (.dK kvs)):kvs.length<=EF/\(a==G2)=false/\∃ vs,KV kvs vs/\h.DictOf (bJ P w) a vs :=
 show bg P w H h a (.dK kvs) from BG ok e
theorem tq {kvs:List (Key×V)} (ok:HOk P w H h) (e:H a=some (.dK kvs)):kvs.length<=EF/\(a==G2)=false/\∃ vs,KV kvs vs/\h.DictOf (bJ P w) a vs:=tw ok (.inl e)
theorem nC {ks:List Key} (ok:HOk P w H h) (e:H a=some (.tup (ks.map kV))):(La (bJ P w)).is h ks a:=by
 obtain ⟨_,its,r,o,h1,h2,n,h3⟩:=(show bg P w H h a (.tup (ks.map kV)) from ok a _ e)
 exact ⟨o,its.toArray,n,h1,h2,h3,by simpa using mq r⟩
theorem tD {kvs:List (List Key×V)} (ok:HOk P w H h) (e:Rd H a (.dT kvs)):kvs.length<=EF/\(a==G2)=false /\
  ∃ xs,KT H kvs xs/\h.DictOfH (La (bJ P w)) a xs:=by
 obtain ⟨z,y,xs,r,o,es,ep,h1,h2,h3,h4,h5⟩:=(show bg P w H h a (.dT kvs) from BG ok e)
 refine ⟨z,y,xs,r,o,es,ep,h1,h2,h3,h4,fun x hx=>?_,h5⟩
 have all:∀ {l:List (List Key×V)} {m:List (List Key×Ω×Δ)},KT H l m->∀ x∈m,(La (bJ P w)).is h x.1 x.2.1:=by
  intro l m q
  induction q with
  | nil => intro x hx; exact nomatch hx
  | @cons p q ps qs hq t ih =>
   intro x hx;rcases Bb.mp hx with e | hx
   ·subst e;exact nC ok (by rw [<- hq.1]; exact hq.2.1)
   ·exact ih x hx
 exact all r x hx
theorem Dr {kvs:List (List Key×V)} (ok:HOk P w H h) (e:H a=some (.dT kvs)):kvs.length<=EF/\(a==G2)=false /\
  ∃ xs,KT H kvs xs/\h.DictOfH (La (bJ P w)) a xs:=tD ok (.inl e)
end
def lD (H:Hp) (a:Ω) (y:V) (r:Option V):Prop :=
 (∃ kvs k,Rd H a (.dK kvs)/\y=kV k/\r=bG kvs k)\/∃ kvs k b,Rd H a (.dT kvs)/\y=.ref b/\H b=some (.tup (k.map kV))/\r=bG kvs k
def qY (H:Hp) (a:Ω) (y v:V) (H':Hp):Prop :=
 (∃ kvs k,H a=some (.dK kvs)/\y=kV k/\kvs.length<EF/\H'=upd H a (.dK (cS kvs k v))) \/
 ∃ kvs k b,H a=some (.dT kvs)/\y=.ref b/\H b=some (.tup (k.map kV))/\kvs.length<EF/\H'=upd H a (.dT (cS kvs k v))
theorem lD.t {H:Hp} {a b:Ω} {kvs:List (List Key×V)} {k:List Key} (e:H a=some (.dT kvs)) (eb:H b=some (.tup (k.map kV))):lD H a (.ref b) (bG kvs k):=.inr ⟨kvs,k,b,.inl e,rfl,eb,rfl⟩
theorem qY.t {H:Hp} {a b:Ω} {kvs:List (List Key×V)} {k:List Key} {v:V} (e:H a=some (.dT kvs)) (eb:H b=some (.tup (k.map kV))) (hl:kvs.length<EF) :
  qY H a (.ref b) v (upd H a (.dT (cS kvs k v))):=.inr ⟨kvs,k,b,e,rfl,eb,hl,rfl⟩
section
variable {X:Cx} {pins:List (Ω×HC)} {σ:St} {H:Hp} {s:A2} {a:Ω} {y v:V} {u r:Δ} {o:Option V} {A:E5} {E:Δ->A2->Prop}
theorem Inv.big (I:Inv X pins σ H s):G2<s.heap.objs.size:=by
 have h:Gs<s.heap.objs.size:=(I.mod.glob.keeps I.bk).lt;exact Nat.lt_trans (by decide) h
theorem D9 {Q:Δ->A2->Prop} (hu:A.units+1<HH) (I:Inv X pins σ H s) (g:lD H a y o) (ry:aU y u) (h:∀ s',Inv X pins σ H s'->Q (.bool o.isSome) s') :
  EM (EZ X.prog X.w) A (GQ .In u (.ref a)) Q E s:=by
 rcases g with ⟨kvs,k,e,ey,l⟩ | ⟨kvs,k,b,e,ey,eb,l⟩
 ·subst ey;obtain ⟨z,hd,vs,rel,dd⟩:=tw I.hok e;refine wpAny_in_of (pM ry) hd dd.mapOf ?_;rw [<- (rel.val k).isSome_eq,<- l];exact h _ (I.tok _)
 ·subst ey
  cases (show u=E3 b from ry)
  obtain ⟨z,hd,xs,rel,dd⟩:=tD I.hok e;refine wpAny_in_heap (K4 hu) (nC I.hok eb) hd dd ?_;have q:=(rel.val k).isSome_eq;rw [KO] at q;rw [<- q,<- l];exact h _ (I.tok _)
theorem zI {Q:Δ->A2->Prop} (hu:A.units+1<HH) (I:Inv X pins σ H s) (g:lD H a y o) (ry:aU y u) (h:∀ s',Inv X pins σ H s'->Q (.bool (!o.isSome)) s') :
  EM (EZ X.prog X.w) A (GQ .NotIn u (.ref a)) Q E s:=by
 rcases g with ⟨kvs,k,e,ey,l⟩ | ⟨kvs,k,b,e,ey,eb,l⟩
 ·subst ey;obtain ⟨z,hd,vs,rel,dd⟩:=tw I.hok e;refine wpAny_notIn_of (pM ry) hd dd.mapOf ?_;rw [<- (rel.val k).isSome_eq,<- l];exact h _ (I.tok _)
 ·subst ey
  cases (show u=E3 b from ry)
  obtain ⟨z,hd,xs,rel,dd⟩:=tD I.hok e;refine wpAny_notIn_heap (K4 hu) (nC I.hok eb) hd dd ?_;have q:=(rel.val k).isSome_eq;rw [KO] at q;rw [<- q,<- l];exact h _ (I.tok _)
theorem m7 {h':FD} {t':Nat} {ob:HO} (I:Inv X pins σ H s) (mu:Mut (H a)) (hs:G0 a s.heap h') (he:∃ q,h'.get? a=some q) (new:bg X.prog X.w (upd H a ob) h' a ob) :
  Inv X pins σ (upd H a ob) { s with heap:=h',toks:=t' } :=
 I.write (x:=a) (e:=a) mu (.inl rfl) (fun b q hb z=>(hs.2 b hb).trans z) he new
theorem wU {P:ER} {w:E2} {H':Hp} {h':FD} {kvs:List (Key×V)} {vs:List (Key×Δ)} (z:kvs.length<=EF) (hd:(a==G2)=false) (rel:KV kvs vs) (dd:h'.DictOf (bJ P w) a vs) :
  bg P w H' h' a (.dK kvs):=⟨z,hd,vs,rel,dd⟩
theorem uM {H':Hp} {Q:Unit->A2->Prop} (hu:A.units+1<HH) (I:Inv X pins σ H s) (g:qY H a y v H') (ry:aU y u) (rv:aU v r) (h:∀ s',Inv X pins σ H' s'->Q () s') :
  EM (EZ X.prog X.w) A (setItem (.ref a) u r) Q E s:=by
 rcases g with ⟨kvs,k,e,ey,l,eH⟩ | ⟨kvs,k,b,e,ey,eb,l,eH⟩
 ·subst ey eH;obtain ⟨z,hd,vs,rel,dd⟩:=tq I.hok e;have hz:vs.length<=sizeLine:=by rw [<- rel.length]; exact z
  have hl:(cS kvs k v).length<=sizeLine:=by have:=d8 kvs k v; omega
  refine wpAny_setItem_pairs (hsz:=hz) (pM ry) dd fun h' dd' hs=>h _ ?_;have he:∃ q,h'.get? a=some q:=let ⟨q,_,_,hq,_⟩:=dd'; ⟨q,hq⟩;exact m7 I (by rw [e]; exact HG) hs he (wU hl hd (rel.put k rv) dd')
 ·subst ey eH
  cases (show u=E3 b from ry)
  obtain ⟨z,hd,xs,rel,dd⟩:=Dr I.hok e;have hz:xs.length<=sizeLine:=by rw [<- Paired.length rel]; exact z
  have hl:(cS kvs k v).length<=sizeLine:=by have:=d8 kvs k v; omega
  refine wpAny_setItem_heap (hsz:=hz) (K4 hu) (nC I.hok eb) dd fun h' dd' hs=>h _ ?_;obtain ⟨q,es,ep,hq,h2,h3,h4,_,h5⟩:=dd';refine m7 I (by rw [e]; exact HG) hs ⟨q,hq⟩ ⟨hl,hd,_,(rel.put k eb rv).keeps fun c ys ec=>?_,q,es,ep,hq,h2,h3,h4,h5⟩;rw [aj (cg ec e (fun z=>nomatch z))];exact ec
end
def DT (ty td:TE):TE:=fun σ H Q=>ty σ H fun y H1=>td σ H1 fun x H2=>∃ a o,x=.ref a/\lD H2 a y o/\Q (.bl o.isSome) H2
def uq (ty td:TE):TE:=fun σ H Q=>ty σ H fun y H1=>td σ H1 fun x H2=>∃ a o,x=.ref a/\lD H2 a y o/\Q (.bl (!o.isSome)) H2
def BH (td ty tv:TE):TS:=fun D σ H=>tv σ H fun v H1=>td σ H1 fun x H2=>ty σ H2 fun y H3=>∃ a H4,x=.ref a/\qY H3 a y v H4/\D.nx σ H4
section
variable {X:Cx} {o i e value:Fo} {pos pos' tpos:Il} {td ty tv:TE}
theorem Ct (hu:X.A.units+1<HH) (hi:PE X i ty) (ho:PE X o td):PC X .In i o (DT ty td):=by
 intro pins s σ H Q I h;refine thn (hi pins s σ H _ I h) fun iv s1 ⟨y,H1,I1,ry,q1⟩=>thn (ho pins s1 σ H1 _ I1 q1) fun u s2 ⟨x,H2,I2,rx,a,ov,ex,g,q2⟩=>?_;subst ex;obtain rfl:u=E3 a:=rx
 exact D9 hu I2 g ry fun s3 I3=>⟨.bl ov.isSome,H2,I3,rfl,q2⟩
theorem vo (hu:X.A.units+1<HH) (hi:PE X i ty) (ho:PE X o td):PC X .NotIn i o (uq ty td):=by
 intro pins s σ H Q I h;refine thn (hi pins s σ H _ I h) fun iv s1 ⟨y,H1,I1,ry,q1⟩=>thn (ho pins s1 σ H1 _ I1 q1) fun u s2 ⟨x,H2,I2,rx,a,ov,ex,g,q2⟩=>?_;subst ex;obtain rfl:u=E3 a:=rx
 exact zI hu I2 g ry fun s3 I3=>⟨.bl (!ov.isSome),H2,I3,rfl,q2⟩
theorem t6 (hu:X.A.units+1<HH) (ho:PE X o td) (hi:PE X i ty) (hv:PE X value tv) (hs:Kg value (some (.Subscript o i pos')) pos.line X.env=pure false) :
  PS X (.Assign [.Subscript o i pos'] value pos) (BH td ty tv):=by
 intro pins s σ H D I h;refine wpAny_Assign_Subscript (thn (hv pins s σ H _ I h) fun r s1 ⟨v,H1,I1,rv,q1⟩=>thn (ho pins s1 σ H1 _ I1 q1) fun u s2 ⟨x,H2,I2,rx,q2⟩=>thn (hi pins s2 σ H2 _ I2 q2) fun iv s3 ⟨y,H3,I3,ry,a,H4,ex,g,q3⟩=>?_) hs;subst ex;obtain rfl:u=E3 a:=rx
 exact uM hu I3 g ry rv fun s4 I4=>⟨σ,H4,I4,q3⟩
end
theorem wR {P:ER} {w:E2} {H:Hp} (h:FD) (hb:G2<h.objs.size):bg P w H (h.push { cls:=.type "dict",data:=.dict #[] }) h.objs.size (.dK []) :=
 ⟨En _,beq_eq_false_iff_ne.mpr (GH (EH hb)),[],.nil,Heap.DictOf.new h⟩
theorem wW {P:ER} {w:E2} {H:Hp} (h:FD) (hb:G2<h.objs.size):bg P w H (h.push { cls:=.type "dict",data:=.dict #[] }) h.objs.size (.dT []) :=
 ⟨En _,beq_eq_false_iff_ne.mpr (GH (EH hb)),[],.nil,_,#[],0,EB _ rfl,⟨rfl,rfl,rfl⟩,rfl,rfl,GD⟩
def zh:TE:=fun _ H Q=>∀ p,H p=none->Q (.ref p) (upd H p (.dK []))
def zi:TE:=fun _ H Q=>∀ p,H p=none->Q (.ref p) (upd H p (.dT []))
section
variable {X:Cx} {pos:Il}
theorem xU:PE X (.Dict [] [] pos) zh:=fun pins s σ H Q I h =>
 wpAny_Dict_empty ⟨.ref s.heap.objs.size,_,I.laid (a:=s.heap.objs.size) (o:=.dK []) (t':=s.toks) (fun _ _ q=>χ _ q) (A_ _) (wR s.heap I.big),rfl,h _ (I.hok.fresh (A_ _))⟩
theorem qg:PE X (.Dict [] [] pos) zi:=fun pins s σ H Q I h =>
 wpAny_Dict_empty ⟨.ref s.heap.objs.size,_,I.laid (a:=s.heap.objs.size) (o:=.dT []) (t':=s.toks) (fun _ _ q=>χ _ q) (A_ _) (wW s.heap I.big),rfl,h _ (I.hok.fresh (A_ _))⟩
end
structure M1 (X:Cx) (o:Fo) (m:Str) (apos:Il) (e:Fo) (cpos:Il):Prop where
 base:II o m X.env (Gf o X.env)=Gf o X.env
 few:((HB cpos (Ew [e] X.env)).all (fun x=>!x.1)&&(LI cpos (Jk [] X.env)).all (fun x=>x.1.isSome)
  && decide (([e]:List Fo).length+([]:List L8).length+(if ([]:List L8).isEmpty then 0 else 1)<30))=true
 line:(apos.endLine==cpos.line)=true
 trees:HB cpos (Ew [e] X.env)=[(false,Gf e X.env)]
structure M2 (X:Cx) (o:Fo) (m:Str) (apos:Il) (e f:Fo) (cpos:Il):Prop where
 base:II o m X.env (Gf o X.env)=Gf o X.env
 few:((HB cpos (Ew [e,f] X.env)).all (fun x=>!x.1)&&(LI cpos (Jk [] X.env)).all (fun x=>x.1.isSome)
  && decide (([e,f]:List Fo).length+([]:List L8).length+(if ([]:List L8).isEmpty then 0 else 1)<30))=true
 line:(apos.endLine==cpos.line)=true
 trees:HB cpos (Ew [e,f] X.env)=[(false,Gf e X.env),(false,Gf f X.env)]
def IsD (H:Hp) (a:Ω):Prop:=(∃ kvs,Rd H a (.dK kvs))\/∃ kvs,Rd H a (.dT kvs)
theorem B8 {X:Cx} {pins:List (Ω×HC)} {σ:St} {H:Hp} {s:A2} {a:Ω} (I:Inv X pins σ H s) (d:IsD H a) :
  s.TypeIs (.ref a) "dict"/\(∀ b,E3 a=.ref b->∃ ob,s.heap.get? b=some ob/\ob.dict=none)/\(a==G2)=false:=by
 rcases d with ⟨kvs,e⟩ | ⟨kvs,e⟩
 ·obtain ⟨_,hd,vs,_,dd⟩:=tw I.hok e;refine ⟨dd.typeIs,fun b q=>?_,hd⟩
  cases q;obtain ⟨ob,_,_,h1,h2,_⟩:=dd;exact ⟨ob,h1,h2.2.1⟩
 ·obtain ⟨_,hd,xs,_,dd⟩:=tD I.hok e;refine ⟨dd.typeIs,fun b q=>?_,hd⟩
  cases q;obtain ⟨ob,_,_,h1,h2,_⟩:=dd;exact ⟨ob,h1,h2.2.1⟩
noncomputable def It2 (lo:Int) (n:Nat):It:=⟨fun i _=>i<n,fun i H x H'=>H'=H/\x=.int (lo+i*2),fun i _=>n<=i⟩
theorem qQ {P:ER} {w:E2} {K:W.Frag} {tg:Fo} (it:Ω) (lo:Int) (n:Nat):oY P w K tg (It2 lo n) [it] it (fun i h=>Lo h it (lo+(i:Nat)*2) ((n:Int) - (i:Nat)) 2) where
 mem:=by simp
 obj:=fun i h st b hb=>by
  have e:b=it:=by simpa using hb
  subst e;exact ⟨_,st,fun v z=>by
   have z':Data.fields _=Data.cell v:=z
   cases z'⟩
 keep:=fun i h h' st k=>k it (by simp) _ st
 item:=by
  intro X hP hw hK hc i pins s σ H E I hf st hg;subst hP hw hK;obtain ⟨f0,f1,f2,f3,f4,f5⟩:=hf it (by simp);have W:=Walks.range (prog:=X.prog) (w:=X.w) (I.ok.hd hc) it lo 2 n;refine W.item i s _ _ hg st fun v h' tk hv st' kk=>?_;obtain ⟨t,rfl⟩:=hv;have I1:Inv X pins σ H { s with heap:=h',toks:=tk }:=I.turned (fun b o hb e=>kk b o (by simpa using hb) e) f0 f1 f3 f4 f5;exact ⟨_,rfl,tI (s:={ s with heap:=h',toks:=tk }) (n:="range_iterator") st' rfl rfl (by decide) ⟨.int (lo+i*2),H,I1,⟨t,rfl⟩,⟨rfl,rfl⟩,st',fun b hb=>(hf b hb).1⟩⟩
 done:=by
  intro X hP hw hK hc i pins s σ H E I hf st hg;subst hP hw hK;obtain ⟨f0,f1,f2,f3,f4,f5⟩:=hf it (by simp);exact wpAny_pyNext_range_end (I.ok.hd hc) st (by have:n<=i:=hg; omega) fun h' eb=>⟨rfl,I.turned (t':=s.toks) (fun b o hb e=>eb b o hb e) f0 f1 f3 f4 f5⟩
 self:=fun _ _ _ _ _ st h=>wpAny_pyIter_rangeiter st h
noncomputable def jT (i j:Int):Nat:=((j - i+1) / 2).toNat
theorem qH {i j:Int} (h:i<=j):Hy i j 2=((jT i j:Nat):Int):=by
 unfold Hy jT;rw [if_pos (by decide:(2:Int) > 0)]
 split<;>omega
theorem vS {i j:Int} (h0:0<=i) (h:i<=j) (hj:j<2 ^ 40):LB i j 2=true:=by
 unfold LB;rw [qH h];unfold jT;simp only [Builtin.Range.rangeFitsLong,FL,J0,decide_eq_true_eq,beq_iff_eq,if_pos (by decide:(2:Int) > 0)];omega
def Bt (ta:TA):TI:=fun σ H R=>ta σ H fun vs H1=>∃ i j:Int,vs=[.int i,.int j,.int 2]/\0<=i/\i<=j/\j<2 ^ 40/\R (It2 i (jT i j)) H1
section
variable {X:Cx} {tg:Fo}
theorem vy {a b c:Fo} {ta:TA} {p pos:Il} (hg:Gl X "range") (hm:X.mg "range"=none) (ha:PA X [a,b,c] ta) (hs:Ew [a,b,c] X.env=(false,Gf a X.env)::Ew [b,c] X.env:=by rfl)
  (hpl:(HB pos (Ew [b,c] X.env)).any (·.1)=false:=by rfl):PI X tg (.Call (.Name "range" p) [a,b,c] [] pos) (Bt ta):=by
 intro pins s σ H R I h;refine Call_ (eR I hg hm boot_range (F6 (thn (ha pos pins s σ H _ I h) fun us s1 ⟨vs,H1,I1,r1,q1⟩=>?_) hs hpl));obtain ⟨i,j,e,h0,h1,h2,q⟩:=q1;subst e
 cases r1 with
 | cons ra rr =>
  cases rr with
  | cons rb rr =>
   cases rr with
   | cons rc rr =>
    cases rr;obtain ⟨t,rfl⟩:=ra;obtain ⟨u,rfl⟩:=rb;obtain ⟨v,rfl⟩:=rc;refine call_range_3 (by decide) ?_ (.inl (Lf (by omega)));refine wpAny_pyIter_range (IsRange.new ..) (vS h0 h1 h2) ?_;have I2:Inv X pins σ H1 { s1 with heap:=s1.heap.push { cls:=.type "range",data:=.fields #[.int i t,.int j u,.int 2 v] },toks:=s1.toks }:=I1.kept fun b o e=>χ _ e;refine ⟨_,[(s1.heap.push { cls:=.type "range",data:=.fields #[.int i t,.int j u,.int 2 v] }).objs.size],_,_,H1,rfl,I2.kept (t':=s1.toks) fun b o e=>χ _ e,qQ _ i (jT i j),?_,fun b hb=>?_,q⟩
    ·have e1:i+((0:Nat):Int)*2=i:=by simp
     have e2:((jT i j:Nat):Int) - ((0:Nat):Int)=Hy i j 2:=by rw [qH h1]; simp
     show Lo _ _ (i+((0:Nat):Int)*2) (((jT i j:Nat):Int) - ((0:Nat):Int)) 2
     rw [e1,e2];exact EB _ rfl
    ·have e:b=(s1.heap.push { cls:=.type "range",data:=.fields #[.int i t,.int j u,.int 2 v] }).objs.size:=by simpa using hb
     subst e;exact I2.fpOk (A_ _) (I2.hok.fresh (A_ _))
end
theorem AV {ta:TA} {σ:St} {H:Hp} {R:It->Hp->Prop} (h:ta σ H fun vs H1=>∃ i j:Int,vs=[.int i,.int j,.int 2]/\0<=i/\i<=j/\j<2 ^ 40/\R (It2 i (jT i j)) H1):Bt ta σ H R:=h
theorem pJ {lo:Int} {n:Nat} {g:TG} {tb:TS} {D:dn} {σ:St} {H:Hp} (Pv:Nat->St->Hp->Prop) (h0:Pv 0 σ H)
  (hs:∀ i σ H,i<n->Pv i σ H->g (.int (lo+i*2)) σ H fun σ2 H2=>tb { D with nx:=Pv (i+1),ct:=Pv (i+1),bk:=D.nx } σ2 H2) (hd:∀ σ H,Pv n σ H->D.nx σ H):uB (It2 lo n) g tb D σ H:=by
 refine ⟨fun i m σ H=>i<=n/\m=n - i/\Pv i σ H,⟨_,En _,rfl,h0⟩,fun i m σ H ⟨hi,hm,p⟩=>?_⟩;by_cases h:i<n
 ·refine .inr ⟨h,Pv (i+1),fun σ' H' p'=>⟨n - (i+1),by omega,by omega,rfl,p'⟩,fun x H' y=>?_⟩;obtain ⟨rfl,rfl⟩:=y;exact hs i σ _ h p
 ·have e:i=n:=by omega
  subst e;exact .inl ⟨A_ _,hd σ H p⟩
theorem A7 (x y:Int):HR (.tuple [.int x,.int y])=true:=by rfl
theorem zL (x y x' y':Int):Fz (.tuple [.int x,.int y]) (.tuple [.int x',.int y'])=decide ((x,y)=(x',y')):=by
 simp only [Fz,GN];by_cases h1:x=x'<;>by_cases h2:y=y'<;>simp [h1,h2]
theorem A0 {H:Hp} {a:Ω} {x y:Int} (h:H a=some (.tup [.int x,.int y])):Rep H (.tuple [.int x,.int y]) (.ref a):=by
 simp only [Rep,RepL];exact ⟨a,_,rfl,h,_,_,rfl,rfl,_,_,rfl,rfl,rfl⟩
theorem kF {H:Hp} {Q:VK} {a b:Ω} {x y x' y':Int} (ha:H a=some (.tup [.int x,.int y])) (hb:H b=some (.tup [.int x',.int y'])) (q:Q (.bl (!decide ((x,y)=(x',y')))) H):vC true (.ref a) (.ref b) H Q :=
 ⟨_,_,A0 ha,A0 hb,A7 _ _,A7 _ _,by rw [if_pos rfl,zL]; exact q⟩
theorem CT {H:Hp} {Q:VK} {a b:Ω} {x y x' y':Int} (ha:H a=some (.tup [.int x,.int y])) (hb:H b=some (.tup [.int x',.int y'])) (q:Q (.bl (decide ((x,y)=(x',y')))) H):vC false (.ref a) (.ref b) H Q :=
 ⟨_,_,A0 ha,A0 hb,A7 _ _,A7 _ _,by rw [if_neg (by decide),zL]; exact q⟩
theorem yn {σ:St} {H:Hp} {Q:VK} (h:∀ p,H p=none->Q (.ref p) (upd H p (.dT []))):zi σ H Q:=h
theorem AD {td ty tv:TE} {D:dn} {σ:St} {H:Hp} (h:tv σ H fun v H1=>td σ H1 fun x H2=>ty σ H2 fun y H3=>∃ a H4,x=.ref a/\qY H3 a y v H4/\D.nx σ H4):BH td ty tv D σ H:=h
theorem CP {ty td:TE} {σ:St} {H:Hp} {Q:VK} (h:ty σ H fun y H1=>td σ H1 fun x H2=>∃ a o,x=.ref a/\lD H2 a y o/\Q (.bl o.isSome) H2):DT ty td σ H Q:=h
theorem vE {ty td:TE} {σ:St} {H:Hp} {Q:VK} (h:ty σ H fun y H1=>td σ H1 fun x H2=>∃ a o,x=.ref a/\lD H2 a y o/\Q (.bl (!o.isSome)) H2):uq ty td σ H Q:=h
theorem xH:typeLookup (.type "list_reverseiterator") "__len__"=pure none:=by rw [typeLookup_type,builtinLookup_eq_fast]; kernel_rfl
theorem zO:typeLookup (.type "list_reverseiterator") "__length_hint__"=pure (some (.builtin "list_reverseiterator.__length_hint__")):=by rw [typeLookup_type,builtinLookup_eq_fast]; kernel_rfl
section
variable {prog:ER} {w:E2} {A:E5} {E:Δ->A2->Prop} {s:A2} {R:Result->A2->Prop} {I:Ω} {fp wr:List Ω} {G:Array GenState->Array GenState->Prop} {n:Nat} {P:Nat->Δ->Prop} {St:Nat->A2->Prop}
theorem B5 (W:WalksS prog w A.in1 I fp wr G n P St) (hT:∀ i s,St i s->s.TypeIs (.ref I) "list_reverseiterator") (S:Ω) (res:Δ) (c₀:Nat) (st0:St 0 s) (nS:S∉fp) (hI:I∈fp) (oS:s.heap.get? S=some { cls:=.type "list",data:=.seq #[] c₀ }) (hn:n<=EF)
  (k:∀ s' acc' c',Moved (S::wr) G s s'->s'.heap.get? S=some { cls:=.type "list",dict:=none,data:=.seq acc' c',slots:=#[] }->ItemsOf P acc' n->R (.ok (.ret res)) s') :
  EM (EZ prog w) A.in1 (HQ (.ref S) (.ref I) res) (fun fin s'=>match fin with | .done f=>R (.ok f) s' | .again c'=>c'.quiet=true/\IY (EZ prog w) A c' R s') (fun e s'=>R (.error e) s') s:=by
 have nSI:S≠I:=fun e=>nS (e ▸ hI)
 (unfold HQ; refine ξ (LC (hT 0 _ st0) ?_))
 have b1:Kp (.ref S) (.ref I)=false:=by simp [Kp,nSI]
 have b2:(Fq "list_reverseiterator"==Fq "list")=false:=by decide
 have b3:(Fq "list_reverseiterator"==Fq "tuple")=false:=by decide
 (simp only [b1,b2,b3,Bool.or_false,FJ,if_false]; refine ξ (W.self 0 _ _ _ st0 (ξ (Gd ?_))))
 (unfold Builtin.List.listLengthHint; refine ξ (wpAny_specialOf (hT 0 _ st0) xH ?_); show EM _ A.in1 (specialOf (E3 I) (HE "__length_hint__") >>= _) _ _ _; refine ξ (wpAny_specialOf (hT 0 _ st0) zO ?_))
 generalize hid:("list_reverseiterator.__length_hint__":String)=id0
 (wp_delta; rw [show splitId id0=some ("list_reverseiterator","__length_hint__") from by subst hid; decide +kernel]; subst hid)
 (refine ξ (LZ (T:="list_reverseiterator") (b:=true) (hT 0 _ st0) (by rw [isSubtype_type]; kernel_rfl) ?_); refine B_ ?_; rw [if_neg (by decide)])
 exact B_ ⟨IF F.plain_extend_loop _,codeAny_extend_loopS W hn _ nS _ n 0 _ _ _ rfl (En _) st0 oS (ItemsOf.nil P) fun s' acc' c' hm hS' hacc=>k s' acc' c' hm hS' hacc⟩
theorem zQ (W:WalksS prog w A.in1 I fp wr G n P St) (hT:∀ i s,St i s->s.TypeIs (.ref I) "list_reverseiterator") (S:Ω) (st0:St 0 s) (nS:S∉fp) (hI:I∈fp) (oS:s.heap.get? S=some { cls:=.type "list",data:=.seq #[] }) (hn:n<=EF)
  (k:∀ s' acc' c',Moved (S::wr) G s s'->s'.heap.get? S=some { cls:=.type "list",dict:=none,data:=.seq acc' c',slots:=#[] }->ItemsOf P acc' n->R (.ok (.ret .none)) s') :
  EM (EZ prog w) A.in1 (IK.«list.__init__» ⟨[.ref S,.ref I],[]⟩) (fun fin s'=>match fin with | .done f=>R (.ok f) s' | .again c'=>c'.quiet=true/\IY (EZ prog w) A c' R s') (fun e s'=>R (.error e) s') s:=by
 (show EM _ A.in1 (do let old <- K3 (.ref S); Builtin.List.listUpdate (.ref S) (fun _=>#[]); letGo old.toList.reverse; HQ (.ref S) (.ref I) .none) _ _ s; refine ξ ?_; unfold K3; refine ξ (Ge oS rfl (B_ ?_)))
 (show EM _ A.in1 (updateSeq S (fun _=>#[]) >>= fun _=>letGo (#[]:Array Δ).toList.reverse >>= fun _=>HQ (.ref S) (.ref I) .none) _ _ s; refine ξ (KD oS rfl ?_))
 have oS2:=G6 (Er (fun _=>(#[]:Array Δ))) oS rfl;have dO:∀ b o,b≠S->s.heap.get? b=some o->(s.heap.update S (Er (fun _=>(#[]:Array Δ)))).get? b=some o:=fun b o hb e=>(E9 _ _ (GH hb)).trans e;refine ξ (IQ (B5 W hT S .none _ (W.frame 0 s _ s.toks st0 (A_ _) fun b hb o e=>dO b o (fun h=>nS (h ▸ hb)) e) nS hI oS2 hn fun s' acc' c' hm hS' hacc=>?_));exact k s' acc' c' (Moved.trans W.gtrans ((Moved.refl W.grefl).then_heap (A_ _) fun b o hb e=>dO b o (fun h=>hb (h ▸ θ)) e) hm) hS' hacc
theorem mX {Q:Δ->A2->Prop} (W:WalksS prog w A.in1.in1 I fp wr G n P St) (hT:∀ i s,St i s->s.TypeIs (.ref I) "list_reverseiterator") (st0:St 0 s) (hfp:∀ b∈fp,b<s.heap.objs.size) (hI:I∈fp) (hn:n<=EF)
  (k:∀ s' acc' c',Moved (s.heap.objs.size::wr) G { s with heap:=s.heap.push { cls:=.type "list",data:=.seq #[] } } s'->s'.heap.get? s.heap.objs.size=some { cls:=.type "list",dict:=none,data:=.seq acc' c',slots:=#[] }->ItemsOf P acc' n->Q (.ref s.heap.objs.size) s') :
  EM (EZ prog w) A (call (.type "list") [.ref I]) Q E s:=by
 have nS:s.heap.objs.size∉fp:=fun hm=>Gj _ (hfp _ hm);refine callType_codes (Q₁:=fun obj s₁=>obj=.ref s.heap.objs.size/\s₁={ s with heap:=s.heap.push { cls:=.type "list",data:=.seq #[] } }) F.called_list (F.typeCall_list_1 _) F.entry_list_init (code_list_new _ ⟨rfl,rfl⟩) fun obj s₁ h₁=>?_;obtain ⟨rfl,rfl⟩:=h₁;have oS:(s.heap.push { cls:=.type "list",data:=.seq #[] }).get? s.heap.objs.size=some { cls:=.type "list",data:=.seq #[] }:=EB _ rfl;refine ⟨⟨_,oS,rfl⟩,F.args_list_init_2 _ _,zQ W hT _ (W.frame 0 s _ s.toks st0 (A_ _) fun b _ o e=>χ _ e) nS hI oS hn fun s' acc' c' hm hS' hacc=>⟨rfl,k s' acc' c' hm hS' hacc⟩⟩
end
def BQ (K:W.Frag) (te:TE):TE:=fun σ H Q=>te σ H fun x H1=>∃ p ys,x=.ref p/\SqL K H1 p ys/\∀ l,H1 l=none->Q (.ref l) (upd H1 l (.lst ys.reverse))
theorem uU {its:List Δ} {acc:Array Δ} (h:ItemsOf (fun i v=>its.toArray[its.toArray.size - 1 - i]?=some v) acc its.toArray.size):acc.toList=its.reverse:=by
 obtain ⟨h1,h2⟩:=h;apply Hr;intro i;by_cases hi:i<its.length
 ·have hs:i<acc.size:=by rw [h1]; simpa using hi
  have:=h2 i acc[i] (by simp [hs])
  rw [MK hi,Fv,Array.getElem?_eq_getElem hs,<- this];simp
 ·rw [Gg (by rw [Eo,h1]; simp; omega),Gg (by rw [F0]; omega)]
def DZ (K:W.Frag) (te:TE) (ts:TO):TE:=fun σ H Q=>te σ H fun x H1=>ts σ H1 fun k H2=>k=some (-1)/\∃ p ys,x=.ref p/\SqL K H2 p ys/\∀ l,H2 l=none->Q (.ref l) (upd H2 l (.lst ys.reverse))
def CG (K:W.Frag) (x:V) (H:Hp) (Q:VK):Prop:=∃ p ys,x=.ref p/\SqL K H p ys/\∀ l,H l=none->Q (.ref l) (upd H l (.lst ys.reverse))
theorem ug {K:W.Frag} {te:TE} {σ:St} {H:Hp} {Q:VK} (h:te σ H fun x H1=>CG K x H1 Q):BQ K te σ H Q:=h
theorem AY {K:W.Frag} {te:TE} {ts:TO} {σ:St} {H:Hp} {Q:VK} (h:te σ H fun x H1=>ts σ H1 fun k H2=>k=some (-1)/\CG K x H2 Q):DZ K te ts σ H Q:=h
theorem rR {K:W.Frag} {a:Ω} {ys:List V} {H:Hp} {Q:VK} (e:H a=some (.lst ys)) (h:∀ l,H l=none->Q (.ref l) (upd H l (.lst ys.reverse))):CG K (.ref a) H Q:=⟨a,ys,rfl,SqL.of e,h⟩
section
variable {X:Cx}
theorem _root_.L2.Vals.rev {xs:List V} {vs:List Δ} (h:Vals xs vs):Vals xs.reverse vs.reverse:=by
 induction h with
 | nil=>exact .nil
 | cons a b ih=>rw [HD,HD]; exact ih.append (.cons a .nil)
theorem qo {tg l:Fo} {tl:TE} (K:W.Frag) (h:X.K=K) (hl:PE X l tl):PI X tg l (xl K tl):=h ▸ bK hl
theorem vt {e:Fo} {te:TE} {st:Fo} {ts:TO} {p2 pos:Il} (K:W.Frag) (hK:X.K=K) (he:PE X e te) (hst:PO X (some st) ts):PE X (.Subscript e (.Slice none none (some st) p2) pos) (DZ K te ts):=by
 subst hK;intro pins s σ H Q I h;refine MH (thn (he pins s σ H _ I h) fun v s1 ⟨x,H1,I1,r1,q1⟩=>?_);refine wpAny_Slice ?_;rw [Ky];refine B_ ?_;refine B_ ?_;refine thn (hst pins s1 σ H1 _ I1 q1) fun vs s3 ⟨k,H3,I3,pk,hk,p,ys,hx,hl,q3⟩=>?_;subst hk hx
 cases r1;have I4:Inv X pins σ H3 { s3 with heap:=s3.heap.push { cls:=.type "slice",data:=.fields #[.none,.none,vs] } }:=I3.kept (t':=s3.toks) fun b ob q=>χ _ q;obtain ⟨its,r,ht,hz⟩:=I4.list hl;have hlen:=r.length
 show EM (EZ X.prog X.w) X.A (Kx e (.Slice none none (some st) p2) (.ref p) (.ref s3.heap.objs.size)) (EP X pins σ Q) X.xe { s3 with heap:=s3.heap.push { cls:=.type "slice",data:=.fields #[.none,.none,vs] } }
 refine tail_any (ops:=[.ref p,.ref s3.heap.objs.size]) ht.isList.typeIs Jj.lookup ?_ (by with_unfolding_all rfl);refine Js ht.isList (Jc ..) .none .none pk (by simp) ?_ (by rw [EK]<;>omega);rw [W.krv_pick];refine ⟨.ref _,_,I4.laid (t':=s3.toks) (o:=.lst ys.reverse) (fun b ob q=>χ _ q) (A_ _) ?_,rfl,q3 _ (I4.hok.fresh (A_ _))⟩;exact ⟨by rw [F0]; exact hz,_,0,r.rev,EB _ rfl⟩
theorem tZ {e:Fo} {te:TE} {p p2 pos pos2:Il} (K:W.Frag) (hK:X.K=K) (hc:X.calm=true) (hg:Gl X "list") (hm:X.mg "list"=none) (hg2:Gl X "reversed") (hm2:X.mg "reversed"=none) (ha:PE X e te)
  (hs:Ew [.Call (.Name "reversed" p2) [e] [] pos2] X.env=[(false,Gf (.Call (.Name "reversed" p2) [e] [] pos2) X.env)]:=by rfl) (hs2:Ew [e] X.env=[(false,Gf e X.env)]:=by rfl) :
  PE X (.Call (.Name "list" p) [.Call (.Name "reversed" p2) [e] [] pos2] [] pos) (BQ K te):=by
 subst hK;intro pins s σ H Q I h;refine G_ (eR I hg hm (by rfl) ?_ (by decide) (by decide));refine F6 ?_ hs (by rfl);rw [hs];refine HV (G_ (eR I hg2 hm2 (by rfl) ?_ (by decide) (by decide)));refine F6 ?_ hs2 (by rfl);rw [hs2];refine HV (thn (ha pins s σ H _ I h) fun v s1 ⟨x,H1,I1,r1,a,ys,hx,hl,q1⟩=>IJ ?_);subst hx
 cases r1;obtain ⟨its,r,pl,hz⟩:=I1.list hl;have hlen:=r.length;refine call_reversed_list pl.isList (IJ ?_);have alt:a<s1.heap.objs.size:=by obtain ⟨o,ho,_⟩:=pl.isList; exact EC ho
 have I2:Inv X pins σ H1 { s1 with heap:=s1.heap.push (revObj a ((its.toArray.size:Int) - 1)) }:=I1.kept (t':=s1.toks) fun b ob q=>χ _ q;have hne:a≠s1.heap.objs.size:=EH alt;refine mX (Walks.listRev (A:=X.A.in1.in1) (I.ok.hd hc) s1.heap.objs.size a hne its.toArray).toS (fun i s' st=>st.2.1.typeIs) ?_ ?_ (by simp) (by simp only [EK]; omega) ?_
 ·refine ⟨En _,⟨_,EB _ rfl,rfl,?_⟩,?_⟩
  ·simp [revObj]
  ·exact pl.isList.at fun o e=>χ _ e
 ·intro b hb
  show b<(s1.heap.push _).objs.size
  rw [GF];rcases Bb.mp hb with z | z
  ·rw [z]; exact Ia _
  ·rw [show b=a from by simpa using z]; exact F3 alt
 ·intro s' acc' c' hm' hS' hacc;have hi:=uU hacc;have e1:=hm'.gens;have e2:=hm'.drawn;have e3:=hm'.os;have kp:=hm'.heap;obtain ⟨h',g',d',t',o'⟩:=s';dsimp only at e1 e2 e3 kp hS' ⊢;subst e1 e2 e3;have es:(s1.heap.push (revObj a ((its.toArray.size:Int) - 1))).objs.size=s1.heap.objs.size+1:=GF ..;rw [es] at hS' kp ⊢;have keep:∀ b u,s1.heap.get? b=some u->h'.get? b=some u:=fun b u e=>by
   have hb:=EC e;refine kp b u (fun z=>?_) (χ _ (χ _ e));rcases Bb.mp z with z | z
   ·rw [z] at hb; exact absurd hb (Ka.mpr (G3 _))
   ·rw [show b=s1.heap.objs.size from by simpa using z] at hb; exact Gj _ hb
  refine ⟨.ref _,_,I1.laid (t':=t') (o:=.lst ys.reverse) keep (G3 _) ?_,rfl,q1 _ (I1.hok.fresh (G3 _))⟩;refine ⟨by rw [F0]; exact hz,its.reverse,c',r.rev,?_⟩;rw [<- hi];exact hS'
end
end L2
set_option maxHeartbeats 1000000
namespace NR
noncomputable def sm:Nat->(Nat->Int)->Int
 | 0,_=>0
 | n+1,f=>sm n f+f n
noncomputable def ib (p:Prop) [Decidable p]:Int:=if p then 1 else 0
section
variable {n:Nat} {e d:Int->Int} {X Y:Nat->Int}
noncomputable def s1 (X Y:Nat->Int) (i k:Nat):Int:=ib (Y (i+1)<Y (k+1)\/(Y (i+1)=Y (k+1)/\X (i+1)<X (k+1)))
noncomputable def s2 (X Y:Nat->Int) (i k:Nat):Int:=ib (Y i<Y k\/(Y i=Y k/\X (i+1)<X (k+1)))
def Up (d:Int->Int) (X:Nat->Int) (i:Nat):Prop:=d (X (i+1))=1
instance (d:Int->Int) (X:Nat->Int) (i:Nat):Decidable (Up d X i):=inferInstanceAs (Decidable (_=_))
end
end NR
namespace Ts
open PySem PyProof.Rows
noncomputable def nz:Bool->C_->Array C_->Nat->Nat->Nat->StateT FU KZ (Option Nat):=sortPriv% PySem.Builtin.gallop
noncomputable def pT:Array C_->Array C_->StateT FU KZ (Array C_):=sortPriv% PySem.Builtin.mergeLo
noncomputable def pS:Array C_->Array C_->StateT FU KZ (Array C_):=sortPriv% PySem.Builtin.mergeHi
structure cz (lt:C_->C_->Bool):Prop where
 asym:∀ {x y},lt x y=true->lt y x=false
 tr:∀ {x y z},lt y x=false->lt z y=false->lt z x=false
def Le (lt:C_->C_->Bool) (x y:C_):Prop:=lt y x=false
theorem cz.le_refl {lt:C_->C_->Bool} (L:cz lt) (x:C_):Le lt x x:=by
 unfold Le
 cases h:lt x x with
 | false=>rfl
 | true=>rw [L.asym h] at h; cases h
theorem cz.of_lt {lt:C_->C_->Bool} (L:cz lt) {x y:C_} (h:lt x y=true):Le lt x y:=L.asym h
theorem cz.trans {lt:C_->C_->Bool} (L:cz lt) {x y z:C_} (h:Le lt x y) (h':Le lt y z):Le lt x z:=L.tr h h'
section
variable {M:JS} {A:E5} {E:Δ->A2->Prop} {s:A2}
def ik (M:JS) (A:E5) (E:Δ->A2->Prop) (s:A2) (κ:GR) (S:C_->Prop) (lt:C_->C_->Bool):Prop :=
 ∀ (x y:C_) (st:FU) (Q:Option Bool->FU->Prop),S x->S y->Ga st=κ->Q (some (lt x y)) st->LY M A E s (lt' x y) Q st
theorem aS {arr:Array C_} {i:Nat} {x:C_} {Q:C_->FU->Prop} {st:FU} (h:arr[i]?=some x) (q:Q x st):LY M A E s (elem' arr i) Q st:=by
 rw [elem'_eq,h];exact EJ q
structure Cut (b:Nat->Bool) (n k:Nat):Prop where
 le:k<=n
 yes:∀ i,i<k->b i=true
 no:∀ i,k<=i->i<n->b i=false
theorem sR {κ:GR} {S:C_->Prop} {lt:C_->C_->Bool} (H:ik M A E s κ S lt) {left:Bool} {key:C_} {arr:Array C_} {b n hint:Nat} {Q:Option Nat->FU->Prop} {st:FU} {at_:Nat->C_}
    (hk:Ga st=κ) (sk:S key) (ha:∀ i,i<n->arr[b+i]?=some (at_ i)/\S (at_ i)) (hh:hint<n)
    (anti:∀ i j,i<=j->j<n->(if left then lt (at_ j) key else !lt key (at_ j))=true->(if left then lt (at_ i) key else !lt key (at_ i))=true)
    (h:∀ k,Cut (fun i=>if left then lt (at_ i) key else !lt key (at_ i)) n k->Q (some k) st):LY M A E s (nz left key arr b n hint) Q st:=by
  unfold nz;have bey:∀ (i:Nat) (Q:Option Bool->FU->Prop),i<n->Q (some (if left then lt (at_ i) key else !lt key (at_ i))) st->LY M A E s (do
      let x <- elem' arr (b+i)
      if left then lt' x key else return (<- lt' key x).map (!·)) Q st:=by
    intro i Q hi q;refine EA (aS (ha i hi).1 ?_)
    cases left with
    | true=>exact H _ _ _ _ (ha i hi).2 sk hk q
    | false=>exact EA (H _ _ _ _ sk (ha i hi).2 hk (EJ q))
  generalize hB:(fun i=>if left then lt (at_ i) key else !lt key (at_ i))=B at h;have hB':∀ i,(if left then lt (at_ i) key else !lt key (at_ i))=B i:=fun i=>by rw [<- hB]
  simp only [hB'] at bey anti;refine EA (bey hint _ hh ?_);dsimp only;by_cases hr:B hint=true
  · rw [if_pos hr]
    refine EA (Gq (Ft (I:=fun x (c:Option (Option Nat)×Nat×Nat) st'=>st=st'/\c.1=none/\x+1<=c.2.2/\c.2.1<c.2.2/\c.2.1<n - hint/\B (hint+c.2.1)=true)
      (Q:=fun (c:Option (Option Nat)×Nat×Nat) st'=>st=st'/\c.1=none/\c.2.1<c.2.2/\c.2.1<n - hint/\B (hint+c.2.1)=true/\(c.2.2<n - hint->B (hint+c.2.2)=false)) ?step ?fin ⟨rfl,rfl,A_ _,Nat.zero_lt_one,by show 0<n - hint; omega,hr⟩) ?post)
    case fin =>
      rintro ⟨c1,l,o⟩ st' ⟨rfl,e,h1,h2,h3,h4⟩;dsimp only at e h1 h2 h3 h4 ⊢;exact ⟨rfl,e,h2,h3,h4,fun z=>by omega⟩
    case step =>
      rintro x ⟨c1,l,o⟩ st' _ hx ⟨rfl,e,h1,h2,h3,h4⟩;dsimp only at e h1 h2 h3 h4 ⊢;by_cases ho:o>=n - hint
      · rw [if_pos ho]
        exact EJ ⟨rfl,rfl,h2,h3,h4,fun z=>by dsimp only at z; omega⟩
      · rw [if_neg ho]
        refine EA (bey _ _ (by omega) ?_);dsimp only
        cases hb:B (hint+o) with
        | false=>exact EJ ⟨rfl,rfl,h2,h3,h4,fun _=>hb⟩
        | true=>exact EJ ⟨rfl,rfl,by show x+1+1<=2*o+1; omega,by show o<2*o+1; omega,by show o<n - hint; omega,hb⟩
    case post =>
      rintro ⟨c1,l,o⟩ st' ⟨rfl,e,h2,h3,h4,h5⟩;dsimp only at e h2 h3 h4 h5 ⊢;subst e;dsimp only;refine EA (Gq (Ft (I:=fun x (c:Option (Option Nat)×Nat×Nat) st'=>st=st'/\c.1=none/\c.2.1<=c.2.2/\c.2.2<=n/\c.2.2 - c.2.1+x<=n/\(∀ i,i<c.2.1->B i=true)/\(∀ i,c.2.2<=i->i<n->B i=false))
        (Q:=fun (c:Option (Option Nat)×Nat×Nat) st'=>st=st'/\c.1=none/\c.2.1=c.2.2/\c.2.2<=n/\(∀ i,i<c.2.1->B i=true)/\(∀ i,c.2.2<=i->i<n->B i=false)) ?step ?fin ?init) ?post)
      case init =>
        refine ⟨rfl,rfl,by dsimp only; omega,by dsimp only; omega,by dsimp only; omega,fun i hi=>?_,fun i hi hn=>?_⟩
        · dsimp only at hi
          exact anti i (hint+l) (by omega) (by omega) h4
        · dsimp only at hi
          have h6:=h5 (by omega)
          cases hb:B i with
          | false=>rfl
          | true=>rw [anti (hint+o) i (by omega) hn hb] at h6; cases h6
      case fin =>
        rintro ⟨c1,lo,hi⟩ st' ⟨rfl,e,h1,h2,h3,h4,h5⟩;dsimp only at e h1 h2 h3 h4 h5 ⊢;exact ⟨rfl,e,by omega,h2,h4,h5⟩
      case step =>
        rintro x ⟨c1,lo,hi⟩ st' _ hx ⟨rfl,e,h1,h2,h3,h4,h5⟩;dsimp only at e h1 h2 h3 h4 h5 ⊢;by_cases hd:lo>=hi
        · rw [if_pos hd]
          exact EJ ⟨rfl,rfl,by show lo=hi; omega,h2,h4,h5⟩
        · rw [if_neg hd]
          refine EA (bey _ _ (by omega) ?_);dsimp only
          cases hb:B (lo+(hi - lo) / 2) with
          | true =>
            refine EJ ⟨rfl,rfl,by show lo+(hi - lo) / 2+1<=hi; omega,h2,by show hi - (lo+(hi - lo) / 2+1)+(x+1)<=n; omega,fun i hi'=>?_,h5⟩;dsimp only at hi';exact anti i _ (by omega) (by omega) hb
          | false =>
            refine EJ ⟨rfl,rfl,by show lo<=lo+(hi - lo) / 2; omega,by show lo+(hi - lo) / 2<=n; omega,by show lo+(hi - lo) / 2 - lo+(x+1)<=n; omega,h4,fun i hi' hn=>?_⟩;dsimp only at hi'
            cases hb2:B i with
            | false=>rfl
            | true=>rw [anti _ i (by omega) hn hb2] at hb; cases hb
      case post =>
        rintro ⟨c1,lo,hi⟩ st' ⟨rfl,e,h1,h2,h4,h5⟩;dsimp only at e h1 h2 h4 h5 ⊢;subst e h1;exact EJ (h _ ⟨h2,h4,h5⟩)
  · rw [if_neg hr]
    have hr':B hint=false:=by simpa using hr
    refine EA (Gq (Ft (I:=fun x (c:Option (Option Nat)×Nat×Nat) st'=>st=st'/\c.1=none/\x+1<=c.2.2/\c.2.1<c.2.2/\c.2.1<=hint/\B (hint - c.2.1)=false)
      (Q:=fun (c:Option (Option Nat)×Nat×Nat) st'=>st=st'/\c.1=none/\c.2.1<c.2.2/\c.2.1<=hint/\B (hint - c.2.1)=false/\(c.2.2<=hint->B (hint - c.2.2)=true)) ?step ?fin ⟨rfl,rfl,A_ _,Nat.zero_lt_one,by show 0<=hint; omega,hr'⟩) ?post)
    case fin =>
      rintro ⟨c1,l,o⟩ st' ⟨rfl,e,h1,h2,h3,h4⟩;dsimp only at e h1 h2 h3 h4 ⊢;exact ⟨rfl,e,h2,h3,h4,fun z=>by omega⟩
    case step =>
      rintro x ⟨c1,l,o⟩ st' _ hx ⟨rfl,e,h1,h2,h3,h4⟩;dsimp only at e h1 h2 h3 h4 ⊢;by_cases ho:o>=hint+1
      · rw [if_pos ho]
        exact EJ ⟨rfl,rfl,h2,h3,h4,fun z=>by dsimp only at z; omega⟩
      · rw [if_neg ho]
        refine EA (bey _ _ (by omega) ?_);dsimp only
        cases hb:B (hint - o) with
        | true=>exact EJ ⟨rfl,rfl,h2,h3,h4,fun _=>hb⟩
        | false=>exact EJ ⟨rfl,rfl,by show x+1+1<=2*o+1; omega,by show o<2*o+1; omega,by show o<=hint; omega,hb⟩
    case post =>
      rintro ⟨c1,l,o⟩ st' ⟨rfl,e,h2,h3,h4,h5⟩;dsimp only at e h2 h3 h4 h5 ⊢;subst e;dsimp only;refine EA (Gq (Ft (I:=fun x (c:Option (Option Nat)×Nat×Nat) st'=>st=st'/\c.1=none/\c.2.1<=c.2.2/\c.2.2<=n/\c.2.2 - c.2.1+x<=n/\(∀ i,i<c.2.1->B i=true)/\(∀ i,c.2.2<=i->i<n->B i=false))
        (Q:=fun (c:Option (Option Nat)×Nat×Nat) st'=>st=st'/\c.1=none/\c.2.1=c.2.2/\c.2.2<=n/\(∀ i,i<c.2.1->B i=true)/\(∀ i,c.2.2<=i->i<n->B i=false)) ?step ?fin ?init) ?post)
      case init =>
        refine ⟨rfl,rfl,by dsimp only; omega,by dsimp only; omega,by dsimp only; omega,fun i hi=>?_,fun i hi hn=>?_⟩
        · dsimp only at hi
          have h6:=h5 (by omega);exact anti i (hint - o) (by omega) (by omega) h6
        · dsimp only at hi
          cases hb:B i with
          | false=>rfl
          | true=>rw [anti (hint - l) i (by omega) hn hb] at h4; cases h4
      case fin =>
        rintro ⟨c1,lo,hi⟩ st' ⟨rfl,e,h1,h2,h3,h4,h5⟩;dsimp only at e h1 h2 h3 h4 h5 ⊢;exact ⟨rfl,e,by omega,h2,h4,h5⟩
      case step =>
        rintro x ⟨c1,lo,hi⟩ st' _ hx ⟨rfl,e,h1,h2,h3,h4,h5⟩;dsimp only at e h1 h2 h3 h4 h5 ⊢;by_cases hd:lo>=hi
        · rw [if_pos hd]
          exact EJ ⟨rfl,rfl,by show lo=hi; omega,h2,h4,h5⟩
        · rw [if_neg hd]
          refine EA (bey _ _ (by omega) ?_);dsimp only
          cases hb:B (lo+(hi - lo) / 2) with
          | true =>
            refine EJ ⟨rfl,rfl,by show lo+(hi - lo) / 2+1<=hi; omega,h2,by show hi - (lo+(hi - lo) / 2+1)+(x+1)<=n; omega,fun i hi'=>?_,h5⟩;dsimp only at hi';exact anti i _ (by omega) (by omega) hb
          | false =>
            refine EJ ⟨rfl,rfl,by show lo<=lo+(hi - lo) / 2; omega,by show lo+(hi - lo) / 2<=n; omega,by show lo+(hi - lo) / 2 - lo+(x+1)<=n; omega,h4,fun i hi' hn=>?_⟩;dsimp only at hi'
            cases hb2:B i with
            | false=>rfl
            | true=>rw [anti _ i (by omega) hn hb2] at hb; cases hb
      case post =>
        rintro ⟨c1,lo,hi⟩ st' ⟨rfl,e,h1,h2,h4,h5⟩;dsimp only at e h1 h2 h4 h5 ⊢;subst e h1;exact EJ (h _ ⟨h2,h4,h5⟩)
end
end Ts
namespace Ts
open PySem PyProof.Rows
section
variable {M:JS} {A:E5} {E:Δ->A2->Prop} {s:A2}
theorem gG {κ:GR} {S:C_->Prop} {lt:C_->C_->Bool} (L:cz lt) (H:ik M A E s κ S lt) {left:Bool} {key:C_} {arr:Array C_} {b n hint:Nat} {Q:Option Nat->FU->Prop} {st:FU}
  (hk:Ga st=κ) (sk:S key) (hn:b+n<=arr.size) (hS:∀ x∈(arr.toList.drop b).take n,S x) (hs:((arr.toList.drop b).take n).Pairwise (Le lt)) (hh:hint<n)
  (h:∀ k,k<=n->(∀ x∈(arr.toList.drop b).take k,Le lt x key)->(∀ x∈((arr.toList.drop b).take n).drop k,Le lt key x)->Q (some k) st):LY M A E s (nz left key arr b n hint) Q st:=by
 have hlen:((arr.toList.drop b).take n).length=n:=by rw [E7,Fb,Eo]; omega
 have hat:∀ i,i<n->arr[b+i]?=((arr.toList.drop b).take n)[i]?:=by
  intro i hi;rw [Gi hi,JB,Fv]
 generalize hX:(arr.toList.drop b).take n=X at hS hs hlen hat h;have hat':∀ i (hi:i<n),X[i]?=some (X[i]?.getD key):=fun i hi=>by rw [ς (by omega)]; rfl
 have mono:∀ i j,i<=j->j<n->Le lt (X[i]?.getD key) (X[j]?.getD key):=by
  intro i j hij hj;rcases Nat.lt_or_eq_of_le hij with hlt | rfl
  ·have:=(Lg.mp hs) i j (by omega) (by omega) hlt
   rw [ς (by omega),ς (by omega)];exact this
  ·exact L.le_refl _
 refine sR H (at_:=fun i=>X[i]?.getD key) hk sk (fun i hi=>⟨by rw [hat i hi]; exact hat' i hi,hS _ (ES (hat' i hi))⟩) hh ?_ ?_
 ·intro i j hij hj
  cases left with
  | true =>
   show lt _ key=true->lt _ key=true
   intro z
   cases hb:lt (X[i]?.getD key) key with
   | true=>rfl
   | false =>
    have:lt (X[j]?.getD key) key=false:=L.trans hb (mono i j hij hj)
    rw [this] at z; cases z
  | false =>
   show (!lt key _)=true->(!lt key _)=true
   intro z;have z:lt key (X[j]?.getD key)=false:=by simpa using z
   have:lt key (X[i]?.getD key)=false:=L.trans (mono i j hij hj) z
   rw [this]; rfl
 ·intro k c;refine h k c.le (fun x hx=>?_) (fun x hx=>?_)
  ·obtain ⟨i,hi⟩:=Fy.mp hx
   have hik:i<k:=by
    have:=(Bc.mp hi).1
    rw [E7] at this; omega
   have e:X[i]?=some x:=by rw [<- hX,Gi (by have:=c.le; omega),<- hi,Gi hik]
   have:=c.yes i hik
   cases left with
   | true =>
    have this:lt (X[i]?.getD key) key=true:=this;rw [e] at this;exact L.asym this
   | false =>
    have this:(!lt key (X[i]?.getD key))=true:=this;rw [e] at this
    show lt key x=false
    simpa using this
  ·obtain ⟨i,hi⟩:=Fy.mp hx;rw [JB] at hi;have hin:k+i<n:=by rw [<- hlen]; exact (Bc.mp hi).1
   have:=c.no (k+i) (by omega) hin
   cases left with
   | true =>
    have this:lt (X[k+i]?.getD key) key=false:=this;rw [hi] at this;exact this
   | false =>
    have this:(!lt key (X[k+i]?.getD key))=false:=this;rw [hi] at this;exact L.asym (by simpa using this)
end
structure Mg (lt:C_->C_->Bool) (a b out:List C_) (ia ib:Nat):Prop where
 perm:(out++(a.drop ia++b.drop ib)).Perm (a++b)
 srt:out.Pairwise (Le lt)
 le_:∀ x∈out,∀ y∈a.drop ia++b.drop ib,Le lt x y
def Res (lt:C_->C_->Bool) (a b r:List C_):Prop:=r.Perm (a++b)/\r.Pairwise (Le lt)
theorem Mg.a {lt:C_->C_->Bool} {a b out:List C_} {ia ib:Nat} (m:Mg lt a b out ia ib) (hA:a.Pairwise (Le lt)) (k:Nat) (h:∀ x∈(a.drop ia).take k,∀ y∈b.drop ib,Le lt x y) :
  Mg lt a b (out++(a.drop ia).take k) (ia+k) ib:=by
 have e:a.drop ia=(a.drop ia).take k++a.drop (ia+k):=by rw [<- G5,Fx]
 have hA':=Es (F_ ia a) hA;rw [e,EV] at hA';refine ⟨?_,?_,?_⟩
 ·have:=m.perm
  rw [e] at this;rw [EI];rw [EI] at this;exact this
 ·rw [EV];refine ⟨m.srt,hA'.1,fun x hx y hy=>m.le_ x hx y (E1 _ (E6 hy))⟩
 ·intro x hx y hy;rcases EG.mp hx with hx | hx
  ·refine m.le_ x hx y ?_;rcases EG.mp hy with hy | hy
   ·exact E1 _ (by rw [e]; exact ED _ hy)
   ·exact ED _ hy
  ·rcases EG.mp hy with hy | hy
   ·exact hA'.2.2 x hx y hy
   ·exact h x hx y hy
theorem Mg.b {lt:C_->C_->Bool} {a b out:List C_} {ia ib:Nat} (m:Mg lt a b out ia ib) (hB:b.Pairwise (Le lt)) (k:Nat) (h:∀ x∈(b.drop ib).take k,∀ y∈a.drop ia,Le lt x y) :
  Mg lt a b (out++(b.drop ib).take k) ia (ib+k):=by
 have e:b.drop ib=(b.drop ib).take k++b.drop (ib+k):=by rw [<- G5,Fx]
 have hB':=Es (F_ ib b) hB;rw [e,EV] at hB';refine ⟨?_,?_,?_⟩
 ·have:=m.perm
  refine JM ?_ this;rw [EI];refine Gz _ ?_;refine (List.perm_append_comm_assoc _ _ _).trans ?_;rw [<- e]
 ·rw [EV];refine ⟨m.srt,hB'.1,fun x hx y hy=>m.le_ x hx y (ED _ (E6 hy))⟩
 ·intro x hx y hy;rcases EG.mp hx with hx | hx
  ·refine m.le_ x hx y ?_;rcases EG.mp hy with hy | hy
   ·exact E1 _ hy
   ·exact ED _ (by rw [e]; exact ED _ hy)
  ·rcases EG.mp hy with hy | hy
   ·exact h x hx y hy
   ·exact hB'.2.2 x hx y hy
theorem Mg.endB {lt:C_->C_->Bool} {a b out:List C_} {ia ib:Nat} (m:Mg lt a b out ia ib) (hA:a.Pairwise (Le lt)) (h:b.length<=ib):Res lt a b (out++a.drop ia++b.drop ib):=by
 have p:=m.perm;have q:=m.le_;rw [HX h,ET] at p q;rw [HX h,ET];exact ⟨p,EV.mpr ⟨m.srt,Es (F_ _ _) hA,q⟩⟩
theorem Mg.endA {lt:C_->C_->Bool} {a b out:List C_} {ia ib:Nat} (m:Mg lt a b out ia ib) (hB:b.Pairwise (Le lt)) (h:a.length<=ia):Res lt a b (out++a.drop ia++b.drop ib):=by
 have p:=m.perm;have q:=m.le_;rw [HX h,Hf] at p q;rw [HX h,ET];exact ⟨p,EV.mpr ⟨m.srt,Es (F_ _ _) hB,q⟩⟩
theorem Mg.last {lt:C_->C_->Bool} {a b out:List C_} {ia ib:Nat} (m:Mg lt a b out ia ib) (hA:a.Pairwise (Le lt)) (hB:b.Pairwise (Le lt)) (h:∀ y∈b.drop ib,∀ x∈a.drop ia,Le lt y x):Res lt a b (out++b.drop ib++a.drop ia):=by
 refine ⟨?_,?_⟩
 ·rw [EI];exact (Gz _ IU).trans m.perm
 ·rw [EI,EV,EV];refine ⟨m.srt,⟨Es (F_ _ _) hB,Es (F_ _ _) hA,h⟩,fun x hx y hy=>m.le_ x hx y ?_⟩;rcases EG.mp hy with hy | hy
  ·exact ED _ hy
  ·exact E1 _ hy
structure Sim (st st':FU):Prop where
 kind:Ga st'=Ga st
 arr:EY st'=EY st
 pend:Ep st'=Ep st
 failed:Gu st'=Gu st
theorem Sim.refl (st:FU):Sim st st:=⟨rfl,rfl,rfl,rfl⟩
theorem Sim.trans {a b c:FU} (x:Sim a b) (y:Sim b c):Sim a c:=⟨y.kind.trans x.kind,y.arr.trans x.arr,y.pend.trans x.pend,y.failed.trans x.failed⟩
theorem gx {l:List C_} {i:Nat} (h:i<l.length):(l.drop i).take 1=[l[i]]:=by
 rw [FH h,Gv,G4]
theorem fy (a:Array C_) (i k:Nat) (h:i+k<=a.size):(a.extract i (i+k)).toList=(a.toList.drop i).take k:=by
 rw [Ie,IA]
 congr 1
 omega
theorem bI (a:Array C_) (i:Nat):(a.extract i a.size).toList=a.toList.drop i:=by
 rw [Ie,IA,EN];rw [Fb,Eo]; omega
end Ts
namespace Ts
open PySem PyProof.Rows
theorem iE {lt:C_->C_->Bool} (L:cz lt) {l:List C_} (hl:l.Pairwise (Le lt)) {i:Nat} (h:i<l.length) {x:C_} (hx:Le lt x l[i]):∀ y∈l.drop i,Le lt x y:=by
 intro y hy;have h2:=Es (F_ i l) hl;rw [FH h] at h2 hy;rcases Bb.mp hy with rfl | hy
 ·exact hx
 ·exact L.trans hx ((Fe.mp h2).1 y hy)
theorem Mg.pushA {lt:C_->C_->Bool} (L:cz lt) {a b out:List C_} {ia ib:Nat} (m:Mg lt a b out ia ib) (hA:a.Pairwise (Le lt)) (h:ia<a.length) (hle:∀ y∈b.drop ib,Le lt a[ia] y):Mg lt a b (out++[a[ia]]) (ia+1) ib:=by
 have:=m.a hA 1 (by
  intro x hx y hy;rw [gx h] at hx;rw [Ξ.mp hx];exact hle y hy)
 rw [gx h] at this;exact this
theorem Mg.pushB {lt:C_->C_->Bool} (L:cz lt) {a b out:List C_} {ia ib:Nat} (m:Mg lt a b out ia ib) (hB:b.Pairwise (Le lt)) (h:ib<b.length) (hle:∀ y∈a.drop ia,Le lt b[ib] y):Mg lt a b (out++[b[ib]]) ia (ib+1):=by
 have:=m.b hB 1 (by
  intro x hx y hy;rw [gx h] at hx;rw [Ξ.mp hx];exact hle y hy)
 rw [gx h] at this;exact this
noncomputable abbrev CS1:=Option (Array C_)×Array C_×Nat×Nat×Nat
noncomputable abbrev CS2:=Option (Array C_)×Array C_×Nat×Nat×Nat×Nat
noncomputable abbrev CS3:=Option (Array C_)×Array C_×Nat×Nat×Nat×Nat×Nat
section
variable {M:JS} {A:E5} {E:Δ->A2->Prop} {s:A2}
theorem wb {α β γ δ ε:Type} {P:α×β×γ×δ×ε->Prop} (h:∀ a b c d e,P (a,b,c,d,e)):∀ x,P x:=fun x=>h x.1 x.2.1 x.2.2.1 x.2.2.2.1 x.2.2.2.2
theorem wc {α β γ δ ε ζ:Type} {P:α×β×γ×δ×ε×ζ->Prop} (h:∀ a b c d e f,P (a,b,c,d,e,f)):∀ x,P x:=fun x=>h x.1 x.2.1 x.2.2.1 x.2.2.2.1 x.2.2.2.2.1 x.2.2.2.2.2
theorem we {α β γ δ ε ζ η:Type} {P:α×β×γ×δ×ε×ζ×η->Prop} (h:∀ a b c d e f g,P (a,b,c,d,e,f,g)):∀ x,P x:=fun x=>h x.1 x.2.1 x.2.2.1 x.2.2.2.1 x.2.2.2.2.1 x.2.2.2.2.2.1 x.2.2.2.2.2.2
theorem aV {α:Type} {c:Prop} [Decidable c] {t e:StateT FU KZ α} {Q:α->FU->Prop} {st:FU} (h1:c->LY M A E s t Q st) (h2:¬ c->LY M A E s e Q st):LY M A E s (if c then t else e) Q st:=by
 split
 ·exact h1 ‹_›
 ·exact h2 ‹_›
theorem gI {α:Type} {c:Prop} [Decidable c] {t e:StateT FU KZ α} {Q:α->FU->Prop} {st:FU} (h:c) (k:LY M A E s t Q st):LY M A E s (if c then t else e) Q st:=aV (fun _=>k) fun n=>absurd h n
theorem eJ {α:Type} {c:Prop} [Decidable c] {t e:StateT FU KZ α} {Q:α->FU->Prop} {st:FU} (h:¬ c) (k:LY M A E s e Q st):LY M A E s (if c then t else e) Q st:=aV (fun n=>absurd n h) fun _=>k
theorem jf {α:Type} {c J:Prop} [Decidable c] {t e:StateT FU KZ α} {Q:α->FU->Prop} {st:FU} (h1:c->J->LY M A E s t Q st) (h2:¬ c->J->LY M A E s e Q st) (j:J):LY M A E s (if c then t else e) Q st:=aV (fun c=>h1 c j) fun c=>h2 c j
theorem qX {κ:GR} {S:C_->Prop} {lt:C_->C_->Bool} (L:cz lt) (H:ik M A E s κ S lt) {a b:Array C_} {Q:Array C_->FU->Prop} {st:FU} (hk:Ga st=κ)
  (hA:a.toList.Pairwise (Le lt)) (hB:b.toList.Pairwise (Le lt)) (sA:∀ x∈a.toList,S x) (sB:∀ x∈b.toList,S x) (na:0<a.size) (nb:0<b.size)
  (h0:∀ x∈a.toList,Le lt b[0] x) (hl:∀ y∈b.toList,∀ x∈a.toList.drop (a.size - 1),Le lt y x)
  (h:∀ r st',Sim st st'->Res lt a.toList b.toList r.toList->Q r st'):LY M A E s (pT a b) Q st:=by
 have lA:a.toList.length=a.size:=Eo;have lB:b.toList.length=b.size:=Eo;have atA:∀ i (hi:i<a.size),a[i]?=some a[i]:=fun i hi=>getElem?_pos a i hi;have atB:∀ i (hi:i<b.size),b[i]?=some b[i]:=fun i hi=>getElem?_pos b i hi;have memA:∀ i (hi:i<a.size),S a[i]:=fun i hi=>sA _ (HF hi);have memB:∀ i (hi:i<b.size),S b[i]:=fun i hi=>sB _ (HF hi)
 have m0:Mg lt a.toList b.toList [b[0]] 0 1:=by
  have:=Mg.pushB L (lt:=lt) (a:=a.toList) (b:=b.toList) (out:=[]) (ia:=0) (ib:=0) ⟨List.Perm.refl _,GP,fun x hx=>nomatch hx⟩ hB (by omega) (fun y hy=>h0 y hy)
  exact this
 have last:∀ {out:List C_} {ia ib:Nat},Mg lt a.toList b.toList out ia ib->ia+1=a.size->Res lt a.toList b.toList (out++b.toList.drop ib++a.toList.drop ia):=by
  intro out ia ib m e;refine m.last hA hB fun y hy x hx=>hl y (F5 hy) x ?_;rw [<- e,Nat.add_sub_cancel]; exact hx
 unfold pT;refine EA (J1 (GX ⟨rfl,?_⟩));dsimp only;refine EA (aS (atB 0 nb) ?_);refine aV (fun c1=>?_) (fun c1=>?_)
 ·refine EJ (h _ _ (Sim.refl _) ?_);rw [D_,D_,bI,bI];exact m0.endB hA (by have:=beq_iff_eq.mp c1; omega)
 have c1:1≠b.size:=fun e=>c1 (beq_iff_eq.mpr e);refine aV (fun c2=>?_) (fun c2=>?_)
 ·refine EJ (h _ _ (Sim.refl _) ?_);rw [D_,D_,bI,bI];exact last m0 (beq_iff_eq.mp c2)
 have c2:0+1≠a.size:=fun e=>c2 (beq_iff_eq.mpr e);refine EA (IW ?_);refine EA (Gq (Ft
  (I:=fun X (c:CS1) st'=>Sim st st'/\c.1=none/\Mg lt a.toList b.toList c.2.1.toList c.2.2.1 c.2.2.2.1/\c.2.2.1+1<a.size/\c.2.2.2.1<b.size/\X+1<=c.2.2.1+c.2.2.2.1)
  (Q:=fun (c:CS1) st'=>Sim st st'/\∃ r,c.1=some r/\Res lt a.toList b.toList r.toList) ?step ?fin ⟨Sim.refl _,rfl,m0,by show 0+1<a.size; omega,by show 1<b.size; omega,A_ _⟩) ?post)
 case post =>
  refine wb fun c out ia ib g=>?_;rintro st' ⟨sm,r,e,hr⟩;dsimp only at e ⊢;subst e;exact EJ (h r _ sm hr)
 case fin =>
  refine wb fun c out ia ib g=>?_;intro st' hh;have sm:=hh.1;have e:=hh.2.1;have m:=hh.2.2.1;have h1:=hh.2.2.2.1;have h2:=hh.2.2.2.2.1;have h3:=hh.2.2.2.2.2;clear hh;dsimp only at h1 h2 h3;exfalso
  omega
 case step =>
  intro X;refine wb fun c out ia ib g=>?_;intro st1 _ hX hh;have sm:=hh.1;have e:=hh.2.1;have m:=hh.2.2.1;have h1:=hh.2.2.2.1;have h2:=hh.2.2.2.2.1;have h3:=hh.2.2.2.2.2;clear hh;dsimp only at e m h1 h2 h3 ⊢
  -- one at a time
  refine EA (Gq (Ft
   (I:=fun x (c:CS2) st'=>Sim st st'/\c.1=none/\Mg lt a.toList b.toList c.2.1.toList c.2.2.1 c.2.2.2.1/\c.2.2.1+1<a.size/\c.2.2.2.1<b.size/\ia+ib+x<=c.2.2.1+c.2.2.2.1)
   (Q:=fun (c:CS2) st'=>Sim st st'/\((∃ r,c.1=some r/\Res lt a.toList b.toList r.toList)\/(c.1=none/\Mg lt a.toList b.toList c.2.1.toList c.2.2.1 c.2.2.2.1/\c.2.2.1+1<a.size/\c.2.2.2.1<b.size/\ia+ib+1<=c.2.2.1+c.2.2.2.1))) ?step ?fin ⟨sm,rfl,m,h1,h2,A_ _⟩) ?post)
  case fin =>
   refine wc fun c out ia' ib' ac bc=>?_;intro st' hh;have sm:=hh.1;have e:=hh.2.1;have m:=hh.2.2.1;have k1:=hh.2.2.2.1;have k2:=hh.2.2.2.2.1;have k3:=hh.2.2.2.2.2;clear hh;dsimp only at e m k1 k2 k3 ⊢;exact ⟨sm,.inr ⟨e,m,k1,k2,by omega⟩⟩
  case step =>
   clear m h1 h2 sm;intro x;refine wc fun c out ia' ib' ac bc=>?_;intro st2 _ hx hh;have sm:=hh.1;have e:=hh.2.1;have m:=hh.2.2.1;have k1:=hh.2.2.2.1;have k2:=hh.2.2.2.2.1;have k3:=hh.2.2.2.2.2;clear hh;dsimp only at e m k1 k2 k3 ⊢;refine EA (aS (atB ib' k2) ?_);refine EA (aS (atA ia' (by omega)) ?_);refine EA (H _ _ _ _ (memB _ k2) (memA _ (by omega)) (sm.kind.trans hk) ?_);dsimp only
   cases hb:lt b[ib'] a[ia'] with
   | true =>
    rw [if_pos rfl];refine EA (aS (atB ib' k2) ?_)
    have m2:Mg lt a.toList b.toList (out.push b[ib']).toList ia' (ib'+1):=by
     rw [GZ];exact m.pushB L hB (by omega) (iE L hA (by omega) (L.of_lt hb))
    refine aV (fun d1=>?_) (fun d1=>?_)
    ·refine EJ ⟨sm,.inl ⟨_,rfl,?_⟩⟩;rw [D_,D_,bI,bI];exact m2.endB hA (by have:=beq_iff_eq.mp d1; omega)
    ·have d1:ib'+1≠b.size:=fun e=>d1 (beq_iff_eq.mpr e);refine aV (fun _=>?_) (fun _=>?_)
     ·exact EJ ⟨sm,.inr ⟨rfl,m2,k1,by show ib'+1<b.size; omega,by show ia+ib+1<=ia'+(ib'+1); omega⟩⟩
     ·exact EJ ⟨sm,rfl,m2,k1,by show ib'+1<b.size; omega,by show ia+ib+(x+1)<=ia'+(ib'+1); omega⟩
   | false =>
    rw [if_neg (by simp)];refine EA (aS (atA ia' (by omega)) ?_)
    have m2:Mg lt a.toList b.toList (out.push a[ia']).toList (ia'+1) ib':=by
     rw [GZ];exact m.pushA L hA (by omega) (iE L hB (by omega) hb)
    refine aV (fun d1=>?_) (fun d1=>?_)
    ·refine EJ ⟨sm,.inl ⟨_,rfl,?_⟩⟩;rw [D_,D_,bI,bI];exact last m2 (beq_iff_eq.mp d1)
    ·have d1:ia'+1+1≠a.size:=fun e=>d1 (beq_iff_eq.mpr e);refine aV (fun _=>?_) (fun _=>?_)
     ·exact EJ ⟨sm,.inr ⟨rfl,m2,by show ia'+1+1<a.size; omega,k2,by show ia+ib+1<=ia'+1+ib'; omega⟩⟩
     ·exact EJ ⟨sm,rfl,m2,by show ia'+1+1<a.size; omega,k2,by show ia+ib+(x+1)<=ia'+1+ib'; omega⟩
  case post =>
   clear m h1 h2 sm;refine wc fun c out ia' ib' ac bc=>?_;rintro st2 ⟨sm,⟨r,e,hr⟩ | hh⟩
   ·dsimp only at e ⊢;subst e;exact EJ ⟨sm,r,rfl,hr⟩
   ·have e:=hh.1;have m:=hh.2.1;have k1:=hh.2.2.1;have k2:=hh.2.2.2.1;have k3:=hh.2.2.2.2;clear hh;dsimp only at e m k1 k2 k3 ⊢;subst e;refine EA (J1 (GX ⟨rfl,?_⟩));refine EA (Gq (Ft
     (I:=fun x (c:CS3) st'=>Sim st st'/\c.1=none/\Mg lt a.toList b.toList c.2.1.toList c.2.2.1 c.2.2.2.1/\c.2.2.1+1<a.size/\c.2.2.2.1<b.size/\ia'+ib'<=c.2.2.1+c.2.2.2.1)
     (Q:=fun (c:CS3) st'=>Sim st st'/\((∃ r,c.1=some r/\Res lt a.toList b.toList r.toList)\/(c.1=none/\Mg lt a.toList b.toList c.2.1.toList c.2.2.1 c.2.2.2.1/\c.2.2.1+1<a.size/\c.2.2.2.1<b.size/\ia'+ib'<=c.2.2.1+c.2.2.2.1))) ?step ?fin ⟨sm,rfl,m,k1,k2,A_ _⟩) ?post)
    case fin =>
     refine we fun c out ja jb g' ac bc=>?_;intro st' hh;have sm:=hh.1;have e:=hh.2.1;have m:=hh.2.2.1;have k1:=hh.2.2.2.1;have k2:=hh.2.2.2.2.1;have k3:=hh.2.2.2.2.2;clear hh;exact ⟨sm,.inr ⟨e,m,k1,k2,k3⟩⟩
    case post =>
     clear m k1 k2 sm;refine we fun c out ja jb g' ac bc=>?_;rintro st3 ⟨sm,⟨r,e,hr⟩ | hh⟩
     ·dsimp only at e ⊢;subst e;exact EJ ⟨sm,r,rfl,hr⟩
     ·have e:=hh.1;have m:=hh.2.1;have k1:=hh.2.2.1;have k2:=hh.2.2.2.1;have k4:=hh.2.2.2.2;clear hh;dsimp only at e m k1 k2 k4 ⊢;subst e;refine EA (G1 ?_);exact EJ ⟨sm.trans ⟨rfl,rfl,rfl,rfl⟩,rfl,m,k1,k2,by show X+1+1<=ja+jb; omega⟩
    case step =>
     clear m k1 k2 sm;intro x;refine we fun c out ja jb g' ac bc=>?_;intro st3 _ hx hh;have sm:=hh.1;have e:=hh.2.1;have m:=hh.2.2.1;have k1:=hh.2.2.2.1;have k2:=hh.2.2.2.2.1;have k4:=hh.2.2.2.2.2;clear hh;dsimp only at e m k1 k2 k4 ⊢;apply jf
     ·intro gg j;generalize g' - 1=gn
      revert gn
      exact j
     ·intro gg j;exact j g'
     intro gn;refine EA (G1 ?_);refine EA (aS (atB jb k2) ?_);refine EA (gG (b:=ja) (n:=a.size - ja) L H (sm.kind.trans hk) (memB jb k2) (by omega) (fun x hx=>sA x (F5 (E6 hx))) (Es ((FW _ _).trans (F_ _ _)) hA) (by omega) ?_);intro k kn hle hge;rw [EN (by rw [Fb]; omega),G5] at hge;dsimp only;apply jf
     ·intro kp
      have m2:Mg lt a.toList b.toList (out++a.extract ja (ja+k)).toList (ja+k) jb:=by
       rw [D_,fy _ _ _ (by omega)];exact m.a hA k (fun x hx=>iE L hB (by omega) (hle x hx))
      by_cases d1:(ja+k+1==a.size)=true
      ·intro j;clear j;refine gI d1 (EJ ⟨sm.trans ⟨rfl,rfl,rfl,rfl⟩,.inl ⟨_,rfl,?_⟩⟩);rw [D_,D_,bI,bI];exact last m2 (beq_iff_eq.mp d1)
      by_cases d2:(ja+k==a.size)=true
      ·intro j;clear j;refine eJ d1 (gI d2 (EJ ⟨sm.trans ⟨rfl,rfl,rfl,rfl⟩,.inl ⟨_,rfl,?_⟩⟩));rw [D_,D_,bI,bI];exact m2.endA hB (by have:=beq_iff_eq.mp d2; omega)
      have d3:ja+k+1≠a.size:=fun e=>d1 (beq_iff_eq.mpr e);have d4:ja+k≠a.size:=fun e=>d2 (beq_iff_eq.mpr e);have kk:ja+k+1<a.size/\ia'+ib'<=ja+k+jb:=⟨by omega,by omega⟩
      generalize out++a.extract ja (ja+k)=out2 at m2 ⊢;have hg2:=hge;generalize ja+k=ia2 at m2 hg2 kk d1 d2 ⊢;intro j;refine eJ d1 (eJ d2 ?_);generalize k=u1
      revert u1
      clear d1 d2 d3 d4
      revert hg2
      revert kk
      revert m2
      revert ia2
      revert out2
      exact j
     ·intro kp;have k0:k=0:=by omega
      subst k0;have hge:∀ x∈a.toList.drop ja,Le lt b[jb] x:=hge;intro j;exact j out ja m ⟨k1,k4⟩ hge _
     intro out2 ia2 m2 kk hge u1;clear m hle kn k1 k4;have k1:=kk.1;have k4:=kk.2;refine EA (aS (atB jb k2) ?_)
     have m3:Mg lt a.toList b.toList (out2.push b[jb]).toList ia2 (jb+1):=by
      rw [GZ];exact m2.pushB L hB (by omega) hge
     refine aV (fun d1=>?_) (fun d1=>?_)
     ·refine EJ ⟨sm.trans ⟨rfl,rfl,rfl,rfl⟩,.inl ⟨_,rfl,?_⟩⟩;rw [D_,D_,bI,bI];exact m3.endB hA (by have:=beq_iff_eq.mp d1; omega)
     have d1:jb+1≠b.size:=fun e=>d1 (beq_iff_eq.mpr e);refine EA (aS (atA ia2 (by omega)) ?_);refine EA (gG (b:=jb+1) (n:=b.size - (jb+1)) L H (sm.kind.trans hk) (memA ia2 (by omega)) (by omega) (fun x hx=>sB x (F5 (E6 hx))) (Es ((FW _ _).trans (F_ _ _)) hB) (by omega) ?_);intro k' kn hle hge';rw [EN (by rw [Fb]; omega),G5] at hge';dsimp only;apply jf
     ·intro kp
      have m4:Mg lt a.toList b.toList (out2.push b[jb]++b.extract (jb+1) (jb+1+k')).toList ia2 (jb+1+k'):=by
       rw [D_,fy _ _ _ (by omega)];exact m3.b hB k' (fun x hx=>iE L hA (by omega) (hle x hx))
      by_cases d3:(jb+1+k'==b.size)=true
      ·intro j;clear j;refine gI d3 (EJ ⟨sm.trans ⟨rfl,rfl,rfl,rfl⟩,.inl ⟨_,rfl,?_⟩⟩);rw [D_,D_,bI,bI];exact m4.endB hA (by have:=beq_iff_eq.mp d3; omega)
      have d4:jb+1+k'≠b.size:=fun e=>d3 (beq_iff_eq.mpr e);have kk:jb+1+k'<b.size/\ia'+ib'<=ia2+1+(jb+1+k'):=⟨by omega,by omega⟩
      generalize out2.push (b[jb]'k2)++b.extract (jb+1) (jb+1+k')=out3 at m4 ⊢;have hg2:=hge';generalize jb+1+k'=jb2 at m4 hg2 kk d3 ⊢;intro j;refine eJ d3 ?_;clear d3 d4;generalize k'=u2
      revert u2
      revert hg2
      revert kk
      revert m4
      revert jb2
      revert out3
      exact j
     ·intro kp;have k0:k'=0:=by omega
      subst k0;have kk:jb+1<b.size/\ia'+ib'<=ia2+1+(jb+1):=⟨by omega,by omega⟩
      intro j;exact j _ _ m3 kk hge' _
     intro out3 jb2 m4 kz hge' u2;refine EA (aS (atA ia2 (by omega)) ?_)
     have m6:Mg lt a.toList b.toList (out3.push a[ia2]).toList (ia2+1) jb2:=by
      rw [GZ];exact m4.pushA L hA (by omega) hge'
     refine aV (fun d4=>?_) (fun d4=>?_)
     ·refine EJ ⟨sm.trans ⟨rfl,rfl,rfl,rfl⟩,.inl ⟨_,rfl,?_⟩⟩;rw [D_,D_,bI,bI];exact last m6 (beq_iff_eq.mp d4)
     have d4:ia2+1+1≠a.size:=fun e=>d4 (beq_iff_eq.mpr e);have kz:ia2+1+1<a.size/\jb2<b.size/\ia'+ib'<=ia2+1+jb2:=⟨by omega,kz.1,kz.2⟩
     refine aV (fun _=>?_) (fun _=>?_)
     ·exact EJ ⟨sm.trans ⟨rfl,rfl,rfl,rfl⟩,.inr ⟨rfl,m6,kz⟩⟩
     ·exact EJ ⟨sm.trans ⟨rfl,rfl,rfl,rfl⟩,rfl,m6,kz⟩
end
end Ts
namespace Ts
open PySem PyProof.Rows
structure Mh (lt:C_->C_->Bool) (a b out:List C_) (na nb:Nat):Prop where
 perm:(a.take na++b.take nb++out.reverse).Perm (a++b)
 srt:out.reverse.Pairwise (Le lt)
 le_:∀ x∈out,∀ y∈a.take na++b.take nb,Le lt y x
theorem fK (l:List C_) {i n:Nat} (h:i<=n):l.take n=l.take i++(l.take n).drop i:=by
 have:=Fx i (l.take n)
 rw [List.take_take,Hl h] at this;exact this.symm
theorem Mh.a {lt:C_->C_->Bool} {a b out:List C_} {na nb:Nat} (m:Mh lt a b out na nb) (hA:a.Pairwise (Le lt)) (i:Nat) (hi:i<=na) (h:∀ x∈(a.take na).drop i,∀ y∈b.take nb,Le lt y x) :
  Mh lt a b (out++((a.take na).drop i).reverse) i nb:=by
 have e:=fK a hi;have hA':=Es (FW na a) hA;rw [e,EV] at hA';refine ⟨?_,?_,?_⟩
 ·refine JM ?_ m.perm;rw [Iu,Hx,<- EI];refine HK _ ?_
  conv=>rhs; rw [e]
  rw [EI,EI];exact Gz _ IU
 ·rw [Iu,Hx,EV];exact ⟨hA'.2.1,m.srt,fun x hx y hy=>m.le_ y (F1.mp hy) x (E1 _ (F5 hx))⟩
 ·intro x hx y hy;rcases EG.mp hx with hx | hx
  ·refine m.le_ x hx y ?_;rcases EG.mp hy with hy | hy
   ·exact E1 _ (by rw [e]; exact E1 _ hy)
   ·exact ED _ hy
  ·have hx:=F1.mp hx;rcases EG.mp hy with hy | hy
   ·exact hA'.2.2 y hy x hx
   ·exact h x hx y hy
theorem Mh.b {lt:C_->C_->Bool} {a b out:List C_} {na nb:Nat} (m:Mh lt a b out na nb) (hB:b.Pairwise (Le lt)) (i:Nat) (hi:i<=nb) (h:∀ x∈(b.take nb).drop i,∀ y∈a.take na,Le lt y x) :
  Mh lt a b (out++((b.take nb).drop i).reverse) na i:=by
 have e:=fK b hi;have hB':=Es (FW nb b) hB;rw [e,EV] at hB';refine ⟨?_,?_,?_⟩
 ·refine JM ?_ m.perm;rw [Iu,Hx,<- EI];refine HK _ ?_
  conv=>rhs; rw [e]
  rw [EI]
 ·rw [Iu,Hx,EV];exact ⟨hB'.2.1,m.srt,fun x hx y hy=>m.le_ y (F1.mp hy) x (ED _ (F5 hx))⟩
 ·intro x hx y hy;rcases EG.mp hx with hx | hx
  ·refine m.le_ x hx y ?_;rcases EG.mp hy with hy | hy
   ·exact E1 _ hy
   ·exact ED _ (by rw [e]; exact E1 _ hy)
  ·have hx:=F1.mp hx;rcases EG.mp hy with hy | hy
   ·exact h x hx y hy
   ·exact hB'.2.2 y hy x hx
theorem Mh.endA {lt:C_->C_->Bool} {a b out:List C_} {na nb:Nat} (m:Mh lt a b out na nb) (hB:b.Pairwise (Le lt)) (h:na=0):Res lt a b (a.take na++b.take nb++out.reverse):=by
 subst h;refine ⟨m.perm,?_⟩;rw [G4,Hf,EV];exact ⟨Es (FW _ _) hB,m.srt,fun x hx y hy=>m.le_ y (F1.mp hy) x (ED _ hx)⟩
theorem Mh.endB {lt:C_->C_->Bool} {a b out:List C_} {na nb:Nat} (m:Mh lt a b out na nb) (hA:a.Pairwise (Le lt)) (h:nb=0):Res lt a b (a.take na++b.take nb++out.reverse):=by
 subst h;refine ⟨m.perm,?_⟩;rw [G4,ET,EV];exact ⟨Es (FW _ _) hA,m.srt,fun x hx y hy=>m.le_ y (F1.mp hy) x (E1 _ hx)⟩
theorem Mh.first {lt:C_->C_->Bool} {a b out:List C_} {na nb:Nat} (m:Mh lt a b out na nb) (hA:a.Pairwise (Le lt)) (hB:b.Pairwise (Le lt)) (h:∀ y∈b.take nb,∀ x∈a.take na,Le lt y x):Res lt a b (b.take nb++a.take na++out.reverse):=by
 refine ⟨(HK _ IU).trans m.perm,?_⟩;rw [EV,EV];refine ⟨⟨Es (FW _ _) hB,Es (FW _ _) hA,h⟩,m.srt,fun x hx y hy=>m.le_ y (F1.mp hy) x ?_⟩;rcases EG.mp hx with hx | hx
 ·exact ED _ hx
 ·exact E1 _ hx
theorem gE {l:List C_} {i:Nat} (h:i<l.length):(l.take (i+1)).drop i=[l[i]]:=by
 rw [JC,show i+1 - i=1 by omega,gx h]
theorem iF {lt:C_->C_->Bool} (L:cz lt) {l:List C_} (hl:l.Pairwise (Le lt)) {i:Nat} (h:i<l.length) {x:C_} (hx:Le lt l[i] x):∀ y∈l.take (i+1),Le lt y x:=by
 intro y hy;rw [fK l (G3 i),gE h] at hy;rcases EG.mp hy with hy | hy
 ·have h2:=Es (FW (i+1) l) hl;rw [fK l (G3 i),gE h,EV] at h2;exact L.trans (h2.2.2 y hy _ (Ξ.mpr rfl)) hx
 ·rw [Ξ.mp hy]; exact hx
theorem Mh.pushA {lt:C_->C_->Bool} (L:cz lt) {a b out:List C_} {na nb:Nat} (m:Mh lt a b out (na+1) nb) (hA:a.Pairwise (Le lt)) (h:na<a.length) (hle:∀ y∈b.take nb,Le lt y a[na]):Mh lt a b (out++[a[na]]) na nb:=by
 have:=m.a hA na (G3 _) (by
  intro x hx y hy;rw [gE h] at hx;rw [Ξ.mp hx];exact hle y hy)
 rw [gE h] at this;exact this
theorem Mh.pushB {lt:C_->C_->Bool} (L:cz lt) {a b out:List C_} {na nb:Nat} (m:Mh lt a b out na (nb+1)) (hB:b.Pairwise (Le lt)) (h:nb<b.length) (hle:∀ y∈a.take na,Le lt y b[nb]):Mh lt a b (out++[b[nb]]) na nb:=by
 have:=m.b hB nb (G3 _) (by
  intro x hx y hy;rw [gE h] at hx;rw [Ξ.mp hx];exact hle y hy)
 rw [gE h] at this;exact this
theorem bh (a:Array C_) (n:Nat):(a.extract 0 n).toList=a.toList.take n:=by
 rw [Ie,IA,HP]; rfl
theorem tF (a:Array C_) (i n:Nat):(a.extract i n).reverse.toList=((a.toList.take n).drop i).reverse:=by
 rw [F4,Ie,IA,JC]
noncomputable abbrev CH1:=Option (Array C_)×Nat×Nat×Array C_×Nat
noncomputable abbrev CH2:=Option (Array C_)×Nat×Nat×Array C_×Nat×Nat
noncomputable abbrev CH3:=Option (Array C_)×Nat×Nat×Array C_×Nat×Nat×Nat
section
variable {M:JS} {A:E5} {E:Δ->A2->Prop} {s:A2}
theorem qW {κ:GR} {S:C_->Prop} {lt:C_->C_->Bool} (L:cz lt) (H:ik M A E s κ S lt) {a b:Array C_} {Q:Array C_->FU->Prop} {st:FU} (hk:Ga st=κ)
  (hA:a.toList.Pairwise (Le lt)) (hB:b.toList.Pairwise (Le lt)) (sA:∀ x∈a.toList,S x) (sB:∀ x∈b.toList,S x) (na0:0<a.size) (nb0:0<b.size)
  (h0:∀ x∈a.toList,Le lt b[0] x) (hl:∀ y∈b.toList,∀ x∈a.toList.drop (a.size - 1),Le lt y x)
  (h:∀ r st',Sim st st'->Res lt a.toList b.toList r.toList->Q r st'):LY M A E s (pS a b) Q st:=by
 have lA:a.toList.length=a.size:=Eo;have lB:b.toList.length=b.size:=Eo;have atA:∀ i (hi:i<a.size),a[i]?=some a[i]:=fun i hi=>getElem?_pos a i hi;have atB:∀ i (hi:i<b.size),b[i]?=some b[i]:=fun i hi=>getElem?_pos b i hi;have memA:∀ i (hi:i<a.size),S a[i]:=fun i hi=>sA _ (HF hi);have memB:∀ i (hi:i<b.size),S b[i]:=fun i hi=>sB _ (HF hi)
 have m0:Mh lt a.toList b.toList [a[a.size - 1]] (a.size - 1) b.size:=by
  have e1:a.size - 1+1=a.size:=by omega
  have:=Mh.pushA L (lt:=lt) (a:=a.toList) (b:=b.toList) (out:=[]) (na:=a.size - 1) (nb:=b.size) (by
   rw [e1];refine ⟨?_,GP,fun x hx=>nomatch hx⟩;rw [EN (by omega),EN (by omega),List.reverse_nil,ET]) hA (by omega) (by
   intro y hy;refine hl y (E6 hy) _ ?_;rw [FH (by omega)];exact θ)
  exact this
 have first:∀ {out:List C_} {na nb:Nat},Mh lt a.toList b.toList out na nb->nb=1->Res lt a.toList b.toList (b.toList.take nb++a.toList.take na++out.reverse):=by
  intro out na nb m e;refine m.first hA hB fun y hy x hx=>?_;subst e;rw [show b.toList.take 1=[b[0]] by have:=gx (l:=b.toList) (i:=0) (by omega); exact this] at hy;rw [Ξ.mp hy];exact h0 x (E6 hx)
 unfold pS;refine EA (J1 (GX ⟨rfl,?_⟩));dsimp only;refine EA (aS (atA (a.size - 1) (by omega)) ?_);refine aV (fun c1=>?_) (fun c1=>?_)
 ·refine EJ (h _ _ (Sim.refl _) ?_);rw [D_,D_,bh,bh,F4];exact m0.endA hB (beq_iff_eq.mp c1)
 have c1:a.size - 1≠0:=fun e=>c1 (beq_iff_eq.mpr e);refine aV (fun c2=>?_) (fun c2=>?_)
 ·refine EJ (h _ _ (Sim.refl _) ?_);rw [D_,D_,bh,bh,F4];exact first m0 (beq_iff_eq.mp c2)
 have c2:b.size≠1:=fun e=>c2 (beq_iff_eq.mpr e);refine EA (IW ?_);refine EA (Gq (Ft
  (I:=fun X (c:CH1) st'=>Sim st st'/\c.1=none/\Mh lt a.toList b.toList c.2.2.2.1.toList c.2.1 c.2.2.1/\0<c.2.1/\c.2.1<=a.size/\1<c.2.2.1/\c.2.2.1<=b.size/\X+1+c.2.1+c.2.2.1<=a.size+b.size)
  (Q:=fun (c:CH1) st'=>Sim st st'/\∃ r,c.1=some r/\Res lt a.toList b.toList r.toList) ?step ?fin ⟨Sim.refl _,rfl,m0,by show 0<a.size - 1; omega,by show a.size - 1<=a.size; omega,by show 1<b.size; omega,A_ _,by show 0+1+(a.size - 1)+b.size<=a.size+b.size; omega⟩) ?post)
 case post =>
  refine wb fun c na nb out g=>?_;rintro st' ⟨sm,r,e,hr⟩;dsimp only at e ⊢;subst e;exact EJ (h r _ sm hr)
 case fin =>
  refine wb fun c na nb out g=>?_;intro st' hh;have sm:=hh.1;have e:=hh.2.1;have m:=hh.2.2.1;have h1:=hh.2.2.2.1;have h2:=hh.2.2.2.2.1;have h3:=hh.2.2.2.2.2.1;have h4:=hh.2.2.2.2.2.2.1;have h5:=hh.2.2.2.2.2.2.2;clear hh;dsimp only at h1 h2 h3 h4 h5;exfalso
  omega
 case step =>
  intro X;refine wb fun c na nb out g=>?_;intro st1 _ hX hh;have sm:=hh.1;have e:=hh.2.1;have m:=hh.2.2.1;have h1:=hh.2.2.2.1;have h2:=hh.2.2.2.2.1;have h3:=hh.2.2.2.2.2.1;have h4:=hh.2.2.2.2.2.2.1;have h5:=hh.2.2.2.2.2.2.2;clear hh;dsimp only at e m h1 h2 h3 h4 h5 ⊢;refine EA (Gq (Ft
   (I:=fun x (c:CH2) st'=>Sim st st'/\c.1=none/\Mh lt a.toList b.toList c.2.2.2.1.toList c.2.1 c.2.2.1/\0<c.2.1/\c.2.1<=a.size/\1<c.2.2.1/\c.2.2.1<=b.size/\x+c.2.1+c.2.2.1<=na+nb)
   (Q:=fun (c:CH2) st'=>Sim st st'/\((∃ r,c.1=some r/\Res lt a.toList b.toList r.toList)\/(c.1=none/\Mh lt a.toList b.toList c.2.2.2.1.toList c.2.1 c.2.2.1/\0<c.2.1/\c.2.1<=a.size/\1<c.2.2.1/\c.2.2.1<=b.size/\1+c.2.1+c.2.2.1<=na+nb))) ?step ?fin ⟨sm,rfl,m,h1,h2,h3,h4,by show 0+na+nb<=na+nb; omega⟩) ?post)
  case fin =>
   refine wc fun c na' nb' out ac bc=>?_;intro st' hh;have sm:=hh.1;have e:=hh.2.1;have m:=hh.2.2.1;have k1:=hh.2.2.2.1;have k2:=hh.2.2.2.2.1;have k3:=hh.2.2.2.2.2.1;have k4:=hh.2.2.2.2.2.2.1;have k5:=hh.2.2.2.2.2.2.2;clear hh;dsimp only at e m k1 k2 k3 k4 k5 ⊢;exact ⟨sm,.inr ⟨e,m,k1,k2,k3,k4,by omega⟩⟩
  case step =>
   clear m h1 h2 h3 h4 sm;intro x;refine wc fun c na' nb' out ac bc=>?_;intro st2 _ hx hh;have sm:=hh.1;have e:=hh.2.1;have m:=hh.2.2.1;have k1:=hh.2.2.2.1;have k2:=hh.2.2.2.2.1;have k3:=hh.2.2.2.2.2.1;have k4:=hh.2.2.2.2.2.2.1;have k5:=hh.2.2.2.2.2.2.2;clear hh;dsimp only at e m k1 k2 k3 k4 k5 ⊢;generalize epa:na' - 1=pa;obtain rfl:na'=pa+1:=by omega
   clear epa;generalize epb:nb' - 1=pb;obtain rfl:nb'=pb+1:=by omega
   clear epb;refine EA (aS (atB pb (by omega)) ?_);refine EA (aS (atA pa (by omega)) ?_);refine EA (H _ _ _ _ (memB _ (by omega)) (memA _ (by omega)) (sm.kind.trans hk) ?_);dsimp only
   cases hb:lt b[pb] a[pa] with
   | true =>
    rw [if_pos rfl];refine EA (aS (atA pa (by omega)) ?_)
    have m2:Mh lt a.toList b.toList (out.push a[pa]).toList pa (pb+1):=by
     rw [GZ];exact m.pushA L hA (by omega) (iF L hB (by omega) (L.of_lt hb))
    refine aV (fun d1=>?_) (fun d1=>?_)
    ·refine EJ ⟨sm,.inl ⟨_,rfl,?_⟩⟩;rw [D_,D_,bh,bh,F4];exact m2.endA hB (beq_iff_eq.mp d1)
    ·have d1:pa≠0:=fun e=>d1 (beq_iff_eq.mpr e);refine aV (fun _=>?_) (fun _=>?_)
     ·exact EJ ⟨sm,.inr ⟨rfl,m2,by show 0<pa; omega,by show pa<=a.size; omega,k3,k4,by show 1+pa+(pb+1)<=na+nb; omega⟩⟩
     ·exact EJ ⟨sm,rfl,m2,by show 0<pa; omega,by show pa<=a.size; omega,k3,k4,by show x+1+pa+(pb+1)<=na+nb; omega⟩
   | false =>
    rw [if_neg (by simp)];refine EA (aS (atB pb (by omega)) ?_)
    have m2:Mh lt a.toList b.toList (out.push b[pb]).toList (pa+1) pb:=by
     rw [GZ];exact m.pushB L hB (by omega) (iF L hA (by omega) hb)
    refine aV (fun d1=>?_) (fun d1=>?_)
    ·refine EJ ⟨sm,.inl ⟨_,rfl,?_⟩⟩;rw [D_,D_,bh,bh,F4];exact first m2 (beq_iff_eq.mp d1)
    ·have d1:pb≠1:=fun e=>d1 (beq_iff_eq.mpr e);refine aV (fun _=>?_) (fun _=>?_)
     ·exact EJ ⟨sm,.inr ⟨rfl,m2,k1,k2,by show 1<pb; omega,by show pb<=b.size; omega,by show 1+(pa+1)+pb<=na+nb; omega⟩⟩
     ·exact EJ ⟨sm,rfl,m2,k1,k2,by show 1<pb; omega,by show pb<=b.size; omega,by show x+1+(pa+1)+pb<=na+nb; omega⟩
  case post =>
   clear m h1 h2 h3 h4 sm;refine wc fun c na' nb' out ac bc=>?_;rintro st2 ⟨sm,⟨r,e,hr⟩ | hh⟩
   ·dsimp only at e ⊢;subst e;exact EJ ⟨sm,r,rfl,hr⟩
   ·have e:=hh.1;have m:=hh.2.1;have k1:=hh.2.2.1;have k2:=hh.2.2.2.1;have k3:=hh.2.2.2.2.1;have k4:=hh.2.2.2.2.2.1;have k5:=hh.2.2.2.2.2.2;clear hh;dsimp only at e m k1 k2 k3 k4 k5 ⊢;subst e;refine EA (J1 (GX ⟨rfl,?_⟩));refine EA (Gq (Ft
     (I:=fun x (c:CH3) st'=>Sim st st'/\c.1=none/\Mh lt a.toList b.toList c.2.2.2.1.toList c.2.1 c.2.2.1/\0<c.2.1/\c.2.1<=a.size/\1<c.2.2.1/\c.2.2.1<=b.size/\c.2.1+c.2.2.1<=na'+nb')
     (Q:=fun (c:CH3) st'=>Sim st st'/\((∃ r,c.1=some r/\Res lt a.toList b.toList r.toList)\/(c.1=none/\Mh lt a.toList b.toList c.2.2.2.1.toList c.2.1 c.2.2.1/\0<c.2.1/\c.2.1<=a.size/\1<c.2.2.1/\c.2.2.1<=b.size/\c.2.1+c.2.2.1<=na'+nb'))) ?step ?fin ⟨sm,rfl,m,k1,k2,k3,k4,A_ _⟩) ?post)
    case fin =>
     refine we fun c ja jb out g' ac bc=>?_;intro st' hh;have sm:=hh.1;have e:=hh.2.1;have m:=hh.2.2.1;have k:=hh.2.2.2;clear hh;exact ⟨sm,.inr ⟨e,m,k⟩⟩
    case post =>
     clear m k1 k2 k3 k4 sm;refine we fun c ja jb out g' ac bc=>?_;rintro st3 ⟨sm,⟨r,e,hr⟩ | hh⟩
     ·dsimp only at e ⊢;subst e;exact EJ ⟨sm,r,rfl,hr⟩
     ·have e:=hh.1;have m:=hh.2.1;have k1:=hh.2.2.1;have k2:=hh.2.2.2.1;have k3:=hh.2.2.2.2.1;have k4:=hh.2.2.2.2.2.1;have k6:=hh.2.2.2.2.2.2;clear hh;dsimp only at e m k1 k2 k3 k4 k6 ⊢;subst e;refine EA (G1 ?_);exact EJ ⟨sm.trans ⟨rfl,rfl,rfl,rfl⟩,rfl,m,k1,k2,k3,k4,by show X+1+1+ja+jb<=a.size+b.size; omega⟩
    case step =>
     clear m k1 k2 k3 k4 sm;intro x;refine we fun c ja jb out g' ac bc=>?_;intro st3 _ hx hh;have sm:=hh.1;have e:=hh.2.1;have m:=hh.2.2.1;have k1:=hh.2.2.2.1;have k2:=hh.2.2.2.2.1;have k3:=hh.2.2.2.2.2.1;have k4:=hh.2.2.2.2.2.2.1;have k6:=hh.2.2.2.2.2.2.2;clear hh;dsimp only at e m k1 k2 k3 k4 k6 ⊢;generalize epb:jb - 1=pb;obtain rfl:jb=pb+1:=by omega
     clear epb;apply jf
     ·intro gg j;generalize g' - 1=gn
      revert gn
      exact j
     ·intro gg j;exact j g'
     intro gn;refine EA (G1 ?_);refine EA (aS (atB pb (by omega)) ?_);refine EA (gG (b:=0) (n:=ja) L H (sm.kind.trans hk) (memB pb (by omega)) (by omega) (fun x hx=>sA x (F5 (E6 hx))) (Es ((FW _ _).trans (F_ _ _)) hA) (by omega) ?_);intro i kn hle hge;rw [HP] at hle hge;dsimp only;apply jf
     ·intro kp
      have m2:Mh lt a.toList b.toList (out++(a.extract i ja).reverse).toList i (pb+1):=by
       rw [D_,tF];exact m.a hA i kn (fun x hx=>iF L hB (by omega) (hge x hx))
      by_cases d1:(i==0)=true
      ·intro j;clear j;refine gI d1 ?_;refine EJ ⟨sm.trans ⟨rfl,rfl,rfl,rfl⟩,.inl ⟨_,rfl,?_⟩⟩;rw [D_,D_,bh,bh,F4];exact m2.endA hB (beq_iff_eq.mp d1)
      have d2:i≠0:=fun e=>d1 (beq_iff_eq.mpr e);have kk:0<i/\i<=a.size/\i+(pb+1)<=na'+nb':=⟨by omega,by omega,by omega⟩
      intro j;refine eJ d1 ?_;generalize out++(a.extract i ja).reverse=out2 at m2 ⊢;generalize ja - i=u1
      revert u1
      revert kk
      revert m2
      revert out2
      exact j
     ·intro kp;have k0:i=ja:=by omega
      subst k0;intro j;exact j out m ⟨k1,k2,k6⟩ _
     intro out2 m2 kk u1;clear m hge kn k6;obtain ⟨k1,k2,k6⟩:=kk;generalize epa:i - 1=pa;obtain rfl:i=pa+1:=by omega
     clear epa;refine EA (aS (atB pb (by omega)) ?_)
     have m3:Mh lt a.toList b.toList (out2.push b[pb]).toList (pa+1) pb:=by
      rw [GZ];exact m2.pushB L hB (by omega) hle
     refine aV (fun d1=>?_) (fun d1=>?_)
     ·refine EJ ⟨sm.trans ⟨rfl,rfl,rfl,rfl⟩,.inl ⟨_,rfl,?_⟩⟩;rw [D_,D_,bh,bh,F4];exact first m3 (beq_iff_eq.mp d1)
     have d1:pb≠1:=fun e=>d1 (beq_iff_eq.mpr e);refine EA (aS (atA pa (by omega)) ?_);refine EA (gG (b:=0) (n:=pb) L H (sm.kind.trans hk) (memA pa (by omega)) (by omega) (fun x hx=>sB x (F5 (E6 hx))) (Es ((FW _ _).trans (F_ _ _)) hB) (by omega) ?_);intro i' kn' hle' hge';rw [HP] at hle' hge';dsimp only;apply jf
     ·intro kp'
      have m4:Mh lt a.toList b.toList (out2.push b[pb]++(b.extract i' pb).reverse).toList (pa+1) i':=by
       rw [D_,tF];exact m3.b hB i' kn' (fun x hx=>iF L hA (by omega) (hge' x hx))
      by_cases d3:(i'==1)=true
      ·intro j;clear j;refine gI d3 ?_;refine EJ ⟨sm.trans ⟨rfl,rfl,rfl,rfl⟩,.inl ⟨_,rfl,?_⟩⟩;rw [D_,D_,bh,bh,F4];exact first m4 (beq_iff_eq.mp d3)
      by_cases d5:(i'==0)=true
      ·intro j;clear j;refine eJ d3 (gI d5 ?_);refine EJ ⟨sm.trans ⟨rfl,rfl,rfl,rfl⟩,.inl ⟨_,rfl,?_⟩⟩;rw [D_,D_,bh,bh,F4];exact m4.endB hA (beq_iff_eq.mp d5)
      have d6:i'≠1:=fun e=>d3 (beq_iff_eq.mpr e);have d7:i'≠0:=fun e=>d5 (beq_iff_eq.mpr e);have kk:1<i':=by omega
      have hpb:pb<b.size:=by omega
      generalize out2.push (b[pb]'hpb)++(b.extract i' pb).reverse=out3 at m4 ⊢;generalize pb - i'=u2;intro j;refine eJ d3 (eJ d5 ?_)
      revert u2
      revert kk
      revert m4
      revert out3
      exact j
     ·intro kp';have k0':i'=pb:=by omega
      subst k0';have kk:1<i':=by omega
      intro j;exact j _ m3 kk _
     intro out3 m4 kk u2;refine EA (aS (atA pa (by omega)) ?_)
     have m6:Mh lt a.toList b.toList (out3.push a[pa]).toList pa i':=by
      rw [GZ];exact m4.pushA L hA (by omega) hle'
     refine aV (fun d4=>?_) (fun d4=>?_)
     ·refine EJ ⟨sm.trans ⟨rfl,rfl,rfl,rfl⟩,.inl ⟨_,rfl,?_⟩⟩;rw [D_,D_,bh,bh,F4];exact m6.endA hB (beq_iff_eq.mp d4)
     have d4:pa≠0:=fun e=>d4 (beq_iff_eq.mpr e);have kz:0<pa/\pa<=a.size/\1<i'/\i'<=b.size/\pa+i'<=na'+nb':=⟨by omega,by omega,kk,by omega,by omega⟩
     refine aV (fun _=>?_) (fun _=>?_)
     ·exact EJ ⟨sm.trans ⟨rfl,rfl,rfl,rfl⟩,.inr ⟨rfl,m6,kz⟩⟩
     ·exact EJ ⟨sm.trans ⟨rfl,rfl,rfl,rfl⟩,rfl,m6,kz⟩
end
end Ts
namespace Ts
open PySem PyProof.Rows
noncomputable def seg (xs:Array C_) (i n:Nat):List Keyed:=(xs.toList.drop i).take n
theorem eF {xs:Array C_} {i n:Nat} (h:i+n<=xs.size):(seg xs i n).length=n:=by
 unfold seg;rw [E7,Fb,Eo]; omega
theorem jK {xs:Array C_} {i n k:Nat} (h:k<=n):seg xs i n=seg xs i k++seg xs (i+k) (n - k):=by
 unfold seg;have:=Fx k ((xs.toList.drop i).take n)
 rw [List.take_take,Hl h,JC,G5] at this;exact this.symm
theorem ze (xs:Array C_) (i n:Nat):xs.toList=xs.toList.take i++seg xs i n++xs.toList.drop (i+n):=by
 unfold seg;have h1:=Fx i xs.toList;have h2:=Fx n (xs.toList.drop i);rw [G5] at h2;rw [EI,h2,h1]
theorem laid (sa:Nat):∀ (m:List C_) (n:Nat) (xs:Array C_),sa+n+m.length<=xs.size ->
  ((m.zipIdx n).foldl (fun a (q:C_×Nat)=>a.setIfInBounds (sa+q.2) q.1) xs).toList=xs.toList.take (sa+n)++m++xs.toList.drop (sa+n+m.length)
 | [],n,xs,_=>by
  rw [K_,List.foldl_nil,ET,Jx,Nat.add_zero,Fx]
 | x::m,n,xs,h=>by
  rw [Ba] at h;rw [K0,List.foldl_cons,laid sa m (n+1) _ (by rw [Array.size_setIfInBounds]; omega)];rw [LN];have hl:sa+n<xs.toList.length:=by rw [Eo]; omega
  have e1:(xs.toList.set (sa+n) x).take (sa+(n+1))=xs.toList.take (sa+n)++[x]:=by
   rw [<- Nat.add_assoc,List.take_succ,List.take_set_of_le (A_ _),Jp hl]; rfl
  have e2:(xs.toList.set (sa+n) x).drop (sa+(n+1)+m.length)=xs.toList.drop (sa+n+(m.length+1)):=by
   rw [List.drop_set_of_lt (by omega)]
   congr 1
   omega
  rw [e1,e2,EI,EI,EI]; rfl
section
variable {M:JS} {A:E5} {E:Δ->A2->Prop} {s:A2}
theorem Bl {σ:Type} {x st:σ} {Q:PUnit->σ->Prop} (h:Q ⟨⟩ x):LY M A E s (set x:StateT σ KZ PUnit) Q st:=by
 unfold LY; rw [StateT.run_set]; exact B_ ⟨rfl,h⟩
def Chg (xs ys:Array C_) (i n:Nat) (m:List C_):Prop:=m.Perm (seg xs i n)/\ys.toList=xs.toList.take i++m++xs.toList.drop (i+n)
theorem qV {κ:GR} {S:C_->Prop} {lt:C_->C_->Bool} (L:cz lt) (H:ik M A E s κ S lt) {i sa na w1 nb w2:Nat} {Q:Bool->FU->Prop} {st:FU} (hk:Ga st=κ) (hf:Gu st=none)
    (h1:(Ep st)[i]?=some (sa,na,w1)) (h2:(Ep st)[i+1]?=some (sa+na,nb,w2)) (na0:0<na) (nb0:0<nb) (hz:sa+na+nb<=(EY st).size)
    (hA:(seg (EY st) sa na).Pairwise (Le lt)) (hB:(seg (EY st) (sa+na) nb).Pairwise (Le lt)) (hS:∀ x∈(EY st).toList,S x)
    (h:∀ st' m,Ga st'=κ->Gu st'=none->Ep st'=((Ep st).setIfInBounds i (sa,na+nb,w1)).eraseIdxIfInBounds (i+1)->Chg (EY st) (EY st') sa (na+nb) m->m.Pairwise (Le lt)->Q true st') :
    LY M A E s (mergeAt' i) Q st:=by
  cases st
  rename_i kd xs pd g f;dsimp only [EY,Ga,Ep,Gu] at hk hf h1 h2 hz hA hB hS h;subst hk hf;have memS:∀ i (hi:i<xs.size),S xs[i]:=fun i hi=>hS _ (HF hi);have at_:∀ i (hi:i<xs.size),xs[i]?=some xs[i]:=fun i hi=>getElem?_pos xs i hi;have segS:∀ i n,∀ x∈seg xs i n,S x:=fun i n x hx=>hS x (F5 (E6 hx))
  have stay:∀ st',Ga st'=kd->Gu st'=none->Ep st'=(pd.setIfInBounds i (sa,na+nb,w1)).eraseIdxIfInBounds (i+1)->EY st'=xs->(seg xs sa na++seg xs (sa+na) nb).Pairwise (Le lt)->Q true st':=by
    intro st' e1 e2 e3 e4 hs;have e5:=jK (xs:=xs) (i:=sa) (n:=na+nb) (k:=na) (by omega);rw [L0] at e5;refine h st' _ e1 e2 e3 ⟨JN e5.symm,?_⟩ hs
    show (EY st').toList=_
    rw [e4,<- e5];exact ze xs sa (na+nb)
  have hb0:∀ {x:C_},Le lt x xs[sa+na]->∀ y∈seg xs (sa+na) nb,Le lt x y:=by
    intro x hx y hy;have hlen:=eF (xs:=xs) (i:=sa+na) (n:=nb) (by omega)
    have e:(seg xs (sa+na) nb)[0]=xs[sa+na]:=by
      unfold seg;rw [Kn,JH];rfl
    exact iE L hB (i:=0) (by omega) (by rw [e]; exact hx) y hy
  unfold mergeAt';refine EA (IW ?_);dsimp only;rw [h1,h2];refine EA (Bl ?_);refine EA (aS (at_ (sa+na) (by omega)) ?_);refine EA (gG (b:=sa) (n:=na) L H rfl (memS _ (by omega)) (by omega) (segS sa na) hA na0 ?_);intro k kn hle hge;dsimp only;have hlenA:=eF (xs:=xs) (i:=sa) (n:=na) (by omega);have eA:=jK (xs:=xs) (i:=sa) (n:=na) (k:=k) kn;have hA2:=hA;rw [eA,EV] at hA2
  have hge:∀ x∈seg xs (sa+k) (na - k),Le lt xs[sa+na] x:=by
    have:((xs.toList.drop sa).take na).drop k=seg xs (sa+k) (na - k):=by
      unfold seg; rw [JC,G5]
    rw [this] at hge;exact hge
  have hle:∀ x∈seg xs sa k,Le lt x xs[sa+na]:=hle;by_cases c1:(na - k==0)=true
  · rw [if_pos c1]
    have c1:=beq_iff_eq.mp c1;have:k=na:=by omega
    subst this;refine EJ (stay _ rfl rfl rfl rfl ?_);rw [EV];exact ⟨hA,hB,fun x hx=>hb0 (hle x hx)⟩
  rw [if_neg c1];have c1:na - k≠0:=fun e=>c1 (beq_iff_eq.mpr e);have el:sa+k+(na - k) - 1=sa+na - 1:=by omega
  rw [el];refine EA (aS (at_ (sa+na - 1) (by omega)) ?_);refine EA (gG (b:=sa+na) (n:=nb) L H rfl (memS _ (by omega)) (by omega) (segS (sa+na) nb) hB (by omega) ?_);intro k' kn' hle' hge';dsimp only
  have hge':∀ x∈seg xs (sa+na+k') (nb - k'),Le lt xs[sa+na - 1] x:=by
    have:((xs.toList.drop (sa+na)).take nb).drop k'=seg xs (sa+na+k') (nb - k'):=by
      unfold seg; rw [JC,G5]
    rw [this] at hge';exact hge'
  have hle':∀ x∈seg xs (sa+na) k',Le lt x xs[sa+na - 1]:=hle'
  have lastA:∀ {y:C_},Le lt xs[sa+na - 1] y->∀ x∈seg xs sa na,Le lt x y:=by
    intro y hy x hx
    have e:(seg xs sa na)[na - 1]=xs[sa+na - 1]:=by
      unfold seg;rw [Kn,JH,MO]
      congr 1
      omega
    have:=iF L hA (i:=na - 1) (by omega) (by rw [e]; exact hy) x
    rw [show na - 1+1=na by omega,EN (by omega)] at this;exact this hx
  by_cases c2:(k'==0)=true
  · rw [if_pos c2]
    have c2:=beq_iff_eq.mp c2;subst c2;refine EJ (stay _ rfl rfl rfl rfl ?_);rw [EV];exact ⟨hA,hB,fun x hx y hy=>lastA (hge' y hy) x hx⟩
  rw [if_neg c2];have c2:k'≠0:=fun e=>c2 (beq_iff_eq.mpr e);have eB:=jK (xs:=xs) (i:=sa+na) (n:=nb) (k:=k') kn';have hB2:=hB;rw [eB,EV] at hB2
  have exx:(xs.extract (sa+k) (sa+na)).toList=seg xs (sa+k) (na - k):=by
    have:=fy xs (sa+k) (na - k) (by omega)
    rw [show sa+k+(na - k)=sa+na by omega] at this;exact this
  have exy:(xs.extract (sa+na) (sa+na+k')).toList=seg xs (sa+na) k':=fy xs (sa+na) k' (by omega);have sx:(xs.extract (sa+k) (sa+na)).size=na - k:=by rw [Ma]; omega
  have sy:(xs.extract (sa+na) (sa+na+k')).size=k':=by rw [Ma]; omega
  have fin:∀ (r:Array C_) (st':FU),Sim (K9 kd xs ((pd.setIfInBounds i (sa,na+nb,w1)).eraseIdxIfInBounds (i+1)) g none) st'->Res lt (seg xs (sa+k) (na - k)) (seg xs (sa+na) k') r.toList ->
      Q true (setArr st' (Mn (fun a (x:C_×Nat)=>a.setIfInBounds (sa+k+x.2) x.1) (EY st') r.toList.zipIdx)):=by
    intro r st' sm hr;have lr:r.toList.length=na - k+k':=by rw [hr.1.length_eq,Bd,eF (by omega),eF (by omega)]
    refine h _ (seg xs sa k++r.toList++seg xs (sa+na+k') (nb - k')) sm.kind sm.failed sm.pend ⟨?_,?_⟩ ?_
    · have e5:=jK (xs:=xs) (i:=sa) (n:=na+nb) (k:=na) (by omega)
      rw [L0,eA,eB] at e5;rw [e5,EI,EI];refine Gz _ ?_;rw [<- EI];exact HK _ hr.1
    · show (Mn _ (EY st') _).toList=_
      rw [sm.arr]
      show (Mn _ xs _).toList=_
      have:=laid (sa+k) r.toList 0 xs (by omega)
      rw [Nat.add_zero,lr] at this;refine this.trans ?_;have e1:xs.toList.take (sa+k)=xs.toList.take sa++seg xs sa k:=by unfold seg; rw [List.take_add]
      have e2:xs.toList.drop (sa+k+(na - k+k'))=seg xs (sa+na+k') (nb - k')++xs.toList.drop (sa+(na+nb)):=by
        unfold seg;have:=Fx (nb - k') (xs.toList.drop (sa+na+k'))
        rw [G5] at this;rw [show sa+k+(na - k+k')=sa+na+k' by omega,show sa+(na+nb)=sa+na+k'+(nb - k') by omega];exact this.symm
      rw [e1,e2];simp only [EI]
    · rw [EI,EV,EV]
      have mem:∀ y∈r.toList,y∈seg xs (sa+k) (na - k)\/y∈seg xs (sa+na) k':=fun y hy=>EG.mp (hr.1.mem_iff.mp hy);refine ⟨hA2.1,⟨hr.2,hB2.2.1,fun x hx y hy=>?_⟩,fun x hx y hy=>?_⟩
      · rcases mem x hx with hx | hx
        · exact lastA (hge' y hy) x (by rw [eA]; exact ED _ hx)
        · exact hB2.2.2 x hx y hy
      · rcases EG.mp hy with hy | hy
        · rcases mem y hy with hy | hy
          · exact hA2.2.2 x hx y hy
          · exact hb0 (hle x hx) y (by rw [eB]; exact E1 _ hy)
        · exact hb0 (hle x hx) y (by rw [eB]; exact ED _ hy)
  have e0:∀ (h0:0<(xs.extract (sa+na) (sa+na+k')).size),(xs.extract (sa+na) (sa+na+k'))[0]=xs[sa+na]:=fun h0=>by
    rw [Array.getElem_extract]; rfl
  have eL:∀ y∈seg xs (sa+na) k',∀ x∈(seg xs (sa+k) (na - k)).drop (na - k - 1),Le lt y x:=by
    intro y hy x hx
    have e:(seg xs (sa+k) (na - k)).drop (na - k - 1)=[xs[sa+na - 1]]:=by
      have hl:=eF (xs:=xs) (i:=sa+k) (n:=na - k) (by omega);rw [FH (by omega),HX (by omega)]
      congr 1
      unfold seg;rw [Kn,JH,MO]
      congr 1
      omega
    rw [e] at hx;rw [Ξ.mp hx];exact hle' y hy
  by_cases c3:na - k<=k'
  · rw [if_pos c3]
    refine EA (qX L H rfl (by rw [exx]; exact hA2.2.1) (by rw [exy]; exact hB2.1) (by rw [exx]; exact segS _ _) (by rw [exy]; exact segS _ _) (by rw [sx]; omega) (by rw [sy]; omega) (by rw [exx,e0]; exact hge) (by rw [exx,exy,sx]; exact eL) fun r st' sm hr=>?_);rw [exx,exy] at hr;refine EA (G1 ?_);refine EA (IW ?_);have:=fin r st' sm hr
    refine EJ ?_;have ef:Gu st'=none:=sm.failed
    show Q (Option.isNone (Gu st')) _
    rw [ef];exact this
  · rw [if_neg c3]
    refine EA (qW L H rfl (by rw [exx]; exact hA2.2.1) (by rw [exy]; exact hB2.1) (by rw [exx]; exact segS _ _) (by rw [exy]; exact segS _ _) (by rw [sx]; omega) (by rw [sy]; omega) (by rw [exx,e0]; exact hge) (by rw [exx,exy,sx]; exact eL) fun r st' sm hr=>?_);rw [exx,exy] at hr;refine EA (G1 ?_);refine EA (IW ?_);have:=fin r st' sm hr
    refine EJ ?_;have ef:Gu st'=none:=sm.failed
    show Q (Option.isNone (Gu st')) _
    rw [ef];exact this
end
end Ts
namespace Ts
open PySem PyProof.Rows
noncomputable def at' (xs:Array C_) (i:Nat):Keyed:=(xs[i]?).getD (.none,.none)
theorem fO {xs ys:Array C_} {i j:Nat} (h:xs[i]?=ys[j]?):at' xs i=at' ys j:=by unfold at'; rw [h]
theorem mT {xs:Array C_} {i:Nat} (h:i<xs.size):xs[i]?=some (at' xs i):=by unfold at'; rw [getElem?_pos xs i h]; rfl
def Up (lt:C_->C_->Bool) (xs:Array C_) (lo n:Nat):Prop:=∀ p q,p<=q->q<n->Le lt (at' xs (lo+p)) (at' xs (lo+q))
def iZ (lt:C_->C_->Bool) (xs:Array C_) (lo n:Nat):Prop:=∀ p q,p<=q->q<n->Le lt (at' xs (lo+q)) (at' xs (lo+p))
structure ip (xs ys:Array C_) (lo:Nat):Prop where
 perm:ys.Perm xs
 low:∀ j,j<lo->ys[j]?=xs[j]?
theorem ip.refl (xs:Array C_) (lo:Nat):ip xs xs lo:=⟨JJ _,fun _ _=>rfl⟩
theorem ip.trans {xs ys zs:Array C_} {lo:Nat} (h:ip xs ys lo) (h':ip ys zs lo):ip xs zs lo:=⟨h'.perm.trans h.perm,fun j hj=>(h'.low j hj).trans (h.low j hj)⟩
theorem ip.size {xs ys:Array C_} {lo:Nat} (h:ip xs ys lo):ys.size=xs.size:=h.perm.size_eq
theorem ip.mem {xs ys:Array C_} {lo:Nat} {S:C_->Prop} (h:ip xs ys lo) (hS:∀ x∈xs.toList,S x):∀ x∈ys.toList,S x:=fun x hx=>hS x ((GC.mp h.perm).mem_iff.mp hx)
theorem d0 {xs:Array C_} {lo i j:Nat} (hi:lo<=i) (hj:j<=xs.size):ip xs (JE xs i j ((j - i) / 2)) lo:=by
 refine ⟨mirror_perm _ _ _ _,fun k hk=>?_⟩;rw [getElem?_mirror_all hj,if_neg (by omega)]
theorem cV {xs:Array C_} {i j:Nat} (hj:j<=xs.size) (k:Nat):at' (JE xs i j ((j - i) / 2)) k=if i<=k/\k<j then at' xs (i+j - 1 - k) else at' xs k:=by
 have:=getElem?_mirror_all (i:=i) hj k
 by_cases h:i<=k/\k<j
 ·rw [if_pos h] at this ⊢; exact fO this
 ·rw [if_neg h] at this ⊢; exact fO this
theorem lY {xs:Array C_} {src d:Nat} (hs:src<xs.size) (hd:d<=src) (k:Nat):at' (bubble xs src d) k=if k=src - d then at' xs src else if src - d<k/\k<=src then at' xs (k - 1) else at' xs k:=by
 have:=getElem?_bubble hs d hd k
 by_cases h:k=src - d
 ·rw [if_pos h] at this ⊢; exact fO this
 ·rw [if_neg h] at this ⊢;by_cases h2:src - d<k/\k<=src
  ·rw [if_pos h2] at this ⊢; exact fO this
  ·rw [if_neg h2] at this ⊢; exact fO this
section
variable {M:JS} {A:E5} {E:Δ->A2->Prop} {s:A2}
theorem gH {κ:GR} {S:C_->Prop} {lt:C_->C_->Bool} (H:ik M A E s κ S lt) {i j:Nat} {Q:Option Bool->FU->Prop} {st:FU} (hk:Ga st=κ) (hS:∀ x∈(EY st).toList,S x) (hi:i<(EY st).size) (hj:j<(EY st).size)
  (h:Q (some (lt (at' (EY st) i) (at' (EY st) j))) st):LY M A E s (ltAt' i j) Q st:=by
 rw [ltAt'_eq];refine EA (IW ?_);refine EA (aS (mT hi) ?_);refine EA (aS (mT hj) ?_);have m:∀ {i},i<(EY st).size->S (at' (EY st) i):=fun {i} hi=>hS _ (by rw [<- Array.mem_def]; exact Array.mem_of_getElem? (mT hi));exact H _ _ _ _ (m hi) (m hj) hk h
theorem jN {i j:Nat} {Q:Unit->FU->Prop} {st:FU} (h:Q () (setArr st (JE (EY st) i j ((j - i) / 2)))):LY M A E s (Jt i j) Q st:=by
 rw [reverseSlice'_eq]; exact G1 h
theorem Bk {i j:Nat} {Q:Unit->FU->Prop} {st:FU} (h:Q () (setArr st (bubble (EY st) i (i - j)))):LY M A E s (moveDown' i j) Q st:=by
 rw [moveDown'_eq]; exact G1 h
structure Re (st st':FU) (lo:Nat):Prop where
 kind:Ga st'=Ga st
 failed:Gu st'=Gu st
 pend:Ep st'=Ep st
 keep:ip (EY st) (EY st') lo
theorem Re.refl (st:FU) (lo:Nat):Re st st lo:=⟨rfl,rfl,rfl,ip.refl _ _⟩
theorem Re.set {st st':FU} {lo:Nat} (h:Re st st' lo) {ys:Array C_} (k:ip (EY st') ys lo):Re st (setArr st' ys) lo:=⟨h.kind,h.failed,h.pend,h.keep.trans k⟩
theorem sQ {κ:GR} {S:C_->Prop} {lt:C_->C_->Bool} (L:cz lt) (H:ik M A E s κ S lt) {lo n ok:Nat} {Q:Bool->FU->Prop} {st:FU} (hk:Ga st=κ) (hS:∀ x∈(EY st).toList,S x) (hn:lo+n<=(EY st).size) (hok:ok<=n) (hu:Up lt (EY st) lo ok)
  (h:∀ st',Re st st' lo->Up lt (EY st') lo n->Q true st'):LY M A E s (binarySort' lo n ok) Q st:=by
 unfold binarySort';refine EA (Gq (Ft (I:=fun k (c:Option Bool×Unit) st'=>c.1=none/\Re st st' lo/\Up lt (EY st') lo (min k n)) (Q:=fun (c:Option Bool×Unit) st'=>c.1=none/\Re st st' lo/\Up lt (EY st') lo n) ?step ?fin ?init) ?post)
 case init =>
  refine ⟨rfl,Re.refl _ _,fun p q hpq hq=>?_⟩;by_cases h0:q<ok
  ·exact hu p q hpq h0
  ·have e1:q=0:=by omega
   have e2:p=0:=by omega
   subst e1 e2;exact L.le_refl _
 case fin =>
  rintro ⟨c,u⟩ st' ⟨e,r,hu'⟩;refine ⟨e,r,?_⟩;rw [show min (max (max ok 1) n) n=n by omega] at hu';exact hu'
 case post =>
  rintro ⟨c,u⟩ st' ⟨e,r,hu'⟩;dsimp only at e ⊢;subst e;exact EJ (h st' r hu')
 case step =>
  rintro k ⟨c,u⟩ st1 hk1 hkn ⟨e,r,hu1⟩;dsimp only at e hu1 ⊢;rw [show min k n=k by omega] at hu1;have sz:=r.keep.size;refine EA (Gq (Ft (I:=fun x (c:Option Bool×Nat×Nat) st'=>c.1=none/\st1=st'/\c.2.1<=c.2.2/\c.2.2<=k/\c.2.2 - c.2.1+x<=k/\(∀ p,p<c.2.1->Le lt (at' (EY st1) (lo+p)) (at' (EY st1) (lo+k)))/\(∀ p,c.2.2<=p->p<k->Le lt (at' (EY st1) (lo+k)) (at' (EY st1) (lo+p))))
   (Q:=fun (c:Option Bool×Nat×Nat) st'=>c.1=none/\st1=st'/\c.2.1=c.2.2/\c.2.2<=k/\(∀ p,p<c.2.1->Le lt (at' (EY st1) (lo+p)) (at' (EY st1) (lo+k)))/\(∀ p,c.2.2<=p->p<k->Le lt (at' (EY st1) (lo+k)) (at' (EY st1) (lo+p)))) ?step ?fin ?init) ?post)
  case init=>exact ⟨rfl,rfl,En _,A_ _,by show k - 0+0<=k; omega,fun p hp=>absurd hp (by show ¬ p<0; omega),fun p hp hpk=>absurd hp (by show ¬ k<=p; omega)⟩
  case fin =>
   rintro ⟨c,l,r'⟩ st' ⟨e,e2,h1,h2,h3,h4,h5⟩;dsimp only at e h1 h2 h3 h4 h5 ⊢;exact ⟨e,e2,by omega,h2,h4,h5⟩
  case step =>
   rintro x ⟨c,l,r'⟩ st' _ hx ⟨e,rfl,h1,h2,h3,h4,h5⟩;dsimp only at e h1 h2 h3 h4 h5 ⊢;by_cases hd:l>=r'
   ·rw [if_pos hd];exact EJ ⟨rfl,rfl,by show l=r'; omega,h2,h4,h5⟩
   ·rw [if_neg hd];refine EA (gH H (r.kind.trans hk) (r.keep.mem hS) (by omega) (by omega) ?_);dsimp only
    cases hb:lt (at' (EY st1) (lo+k)) (at' (EY st1) (lo+(l+r') / 2)) with
    | true =>
     rw [if_pos rfl];refine EJ ⟨rfl,rfl,by show l<=(l+r') / 2; omega,by show (l+r') / 2<=k; omega,by show (l+r') / 2 - l+(x+1)<=k; omega,h4,fun p hp hpk=>?_⟩;exact L.trans (L.of_lt hb) (hu1 _ _ hp hpk)
    | false =>
     rw [if_neg (by simp)];refine EJ ⟨rfl,rfl,by show (l+r') / 2+1<=r'; omega,h2,by show r' - ((l+r') / 2+1)+(x+1)<=k; omega,fun p hp=>?_,h5⟩;have hp:p<(l+r') / 2+1:=hp;exact L.trans (hu1 p ((l+r') / 2) (by omega) (by omega)) hb
  case post =>
   rintro ⟨c,l,r'⟩ st' ⟨e,rfl,h1,h2,h4,h5⟩;dsimp only at e h1 h2 h4 h5 ⊢;subst e h1;dsimp only;refine EA (Bk ?_);have hd:lo+k - (lo+l)=k - l:=by omega
   refine EJ ⟨rfl,r.set ⟨bubble_perm _ _ _,fun j hj=>?_⟩,fun p q hpq hq=>?_⟩
   ·rw [getElem?_bubble (by omega) _ (by omega),if_neg (by omega),if_neg (by omega)]
   ·have hq:q<k+1:=by omega
    show Le lt (at' (bubble _ _ _) _) (at' (bubble _ _ _) _)
    rw [lY (by omega) (by omega),lY (by omega) (by omega)];by_cases p1:p<l
    ·rw [if_neg (by omega),if_neg (by omega)];by_cases q1:q<l
     ·rw [if_neg (by omega),if_neg (by omega)];exact hu1 p q hpq (by omega)
     ·by_cases q2:q=l
      ·rw [if_pos (by omega)];exact h4 p p1
      ·rw [if_neg (by omega),if_pos (by omega),show lo+q - 1=lo+(q - 1) by omega];exact hu1 p (q - 1) (by omega) (by omega)
    ·by_cases p2:p=l
     ·rw [if_pos (by omega)];by_cases q2:q=l
      ·rw [if_pos (by omega)]; exact L.le_refl _
      ·rw [if_neg (by omega),if_pos (by omega),show lo+q - 1=lo+(q - 1) by omega];exact h5 (q - 1) (by omega) (by omega)
     ·rw [if_neg (by omega),if_pos (by omega),if_neg (by omega),if_pos (by omega),show lo+q - 1=lo+(q - 1) by omega,show lo+p - 1=lo+(p - 1) by omega];exact hu1 (p - 1) (q - 1) (by omega) (by omega)
end
end Ts
namespace Ts
open PySem PyProof.Rows
theorem Up.one {lt:C_->C_->Bool} (L:cz lt) (xs:Array C_) (lo:Nat):Up lt xs lo 1:=fun p q hpq hq=>by
 have e1:q=0:=by omega
 have e2:p=0:=by omega
 subst e1 e2;exact L.le_refl _
theorem Up.succ {lt:C_->C_->Bool} (L:cz lt) {xs:Array C_} {lo n:Nat} (h:Up lt xs lo (n+1)) (hb:Le lt (at' xs (lo+n)) (at' xs (lo+(n+1)))):Up lt xs lo (n+1+1):=fun p q hpq hq=>by
 by_cases hq1:q<n+1
 ·exact h p q hpq hq1
 ·have e:q=n+1:=by omega
  subst e;by_cases hp:p=n+1
  ·subst hp; exact L.le_refl _
  ·exact L.trans (h p n (by omega) (by omega)) hb
theorem iZ.succ {lt:C_->C_->Bool} (L:cz lt) {xs:Array C_} {lo n:Nat} (h:iZ lt xs lo (n+1)) (hb:Le lt (at' xs (lo+(n+1))) (at' xs (lo+n))):iZ lt xs lo (n+1+1):=fun p q hpq hq=>by
 by_cases hq1:q<n+1
 ·exact h p q hpq hq1
 ·have e:q=n+1:=by omega
  subst e;by_cases hp:p=n+1
  ·subst hp; exact L.le_refl _
  ·exact L.trans hb (h p n (by omega) (by omega))
def oX (lt:C_->C_->Bool) (xs:Array C_) (lo n e:Nat):Prop:=∀ p q,n<=p+(e+1)->n<=q+(e+1)->p<n->q<n->Le lt (at' xs (lo+p)) (at' xs (lo+q))
theorem jj {lt:C_->C_->Bool} (L:cz lt) {xs:Array C_} {lo n e:Nat} (hn:lo+n<=xs.size) (he:e+1<=n) (hd:iZ lt xs lo n) (ha:oX lt xs lo n e) :
  iZ lt (JE xs (lo+n - (e+1)) (lo+n) ((lo+n - (lo+n - (e+1))) / 2)) lo n/\oX lt (JE xs (lo+n - (e+1)) (lo+n) ((lo+n - (lo+n - (e+1))) / 2)) lo n e /\
  ∀ k,lo+n<=k->at' (JE xs (lo+n - (e+1)) (lo+n) ((lo+n - (lo+n - (e+1))) / 2)) k=at' xs k:=by
 have A:∀ p,p<n->at' (JE xs (lo+n - (e+1)) (lo+n) ((lo+n - (lo+n - (e+1))) / 2)) (lo+p)=if n<=p+(e+1) then at' xs (lo+(n+n - (e+1) - 1 - p)) else at' xs (lo+p):=by
  intro p hp;rw [cV (by omega)];by_cases c:n<=p+(e+1)
  ·rw [if_pos (by omega),if_pos c]; congr 1; omega
  ·rw [if_neg (by omega),if_neg c]
 refine ⟨fun p q hpq hq=>?_,fun p q h1 h2 h3 h4=>?_,fun k hk=>?_⟩
 ·rw [A p (by omega),A q (by omega)];by_cases c:n<=p+(e+1)
  ·rw [if_pos c,if_pos (by omega)];exact ha _ _ (by omega) (by omega) (by omega) (by omega)
  ·rw [if_neg c];by_cases c2:n<=q+(e+1)
   ·rw [if_pos c2];exact hd p _ (by omega) (by omega)
   ·rw [if_neg c2];exact hd p q hpq hq
 ·rw [A p h3,A q h4,if_pos h1,if_pos h2];exact ha _ _ (by omega) (by omega) (by omega) (by omega)
 ·rw [cV (by omega),if_neg (by omega)]
section
variable {M:JS} {A:E5} {E:Δ->A2->Prop} {s:A2}
theorem wt {κ:GR} {S:C_->Prop} {lt:C_->C_->Bool} (L:cz lt) (H:ik M A E s κ S lt) {lo nrem:Nat} {Q:Option Nat->FU->Prop} {st:FU} (hk:Ga st=κ) (hS:∀ x∈(EY st).toList,S x) (hn:lo+nrem<=(EY st).size) (h1:1<=nrem)
    (h:∀ m st',1<=m->m<=nrem->Re st st' lo->Up lt (EY st') lo m->Q (some m) st'):LY M A E s (countRun' lo nrem) Q st:=by
  unfold countRun';refine EA (Gq (Ft (I:=fun x (c:Option (Option Nat)×Nat) st'=>c.1=none/\st=st'/\c.2=x/\Up lt (EY st) lo x/\1<=x)
    (Q:=fun (c:Option (Option Nat)×Nat) st'=>c.1=none/\st=st'/\1<=c.2/\c.2<=nrem/\Up lt (EY st) lo c.2/\(c.2<nrem->lt (at' (EY st) (lo+c.2)) (at' (EY st) (lo+(c.2 - 1)))=true)) ?step ?fin ⟨rfl,rfl,rfl,Up.one L _ _,A_ _⟩) ?post)
  case fin =>
    rintro ⟨c,n⟩ st' ⟨e,rfl,e2,hu,hx⟩;dsimp only at e e2 ⊢;rw [show max 1 nrem=nrem by omega] at e2 hu;subst e2;exact ⟨e,rfl,h1,A_ _,hu,fun z=>absurd z (Gj _)⟩
  case step =>
    rintro x ⟨c,n⟩ st' hx1 hx ⟨e,rfl,e2,hu,_⟩;dsimp only at e e2 ⊢;subst e2;refine EA (gH H hk hS (by omega) (by omega) ?_);dsimp only
    cases hb:lt (at' (EY st) (lo+n)) (at' (EY st) (lo+n - 1)) with
    | true=>exact EJ ⟨rfl,rfl,hx1,by show n<=nrem; omega,hu,fun _=>by show lt _ (at' _ (lo+(n - 1)))=true; rw [show lo+(n - 1)=lo+n - 1 by omega]; exact hb⟩
    | false =>
      rw [if_neg (by simp)];obtain ⟨m,rfl⟩:∃ m,n=m+1:=⟨n - 1,by omega⟩
      exact EJ ⟨rfl,rfl,rfl,hu.succ L hb,by omega⟩
  case post =>
    rintro ⟨c,n⟩ st' ⟨e,rfl,n1,n2,hu,hlt⟩;dsimp only at e n1 n2 hu hlt ⊢;subst e;dsimp only;by_cases c1:(n==nrem)=true
    · rw [if_pos c1]
      exact EJ (h n st n1 n2 (Re.refl _ _) hu)
    rw [if_neg c1];have c1:n≠nrem:=fun e=>c1 (beq_iff_eq.mpr e);have hlt:=hlt (by omega)
    -- what comes behind the first two parts
    have desc:∀ st1,Re st st1 lo->iZ lt (EY st1) lo (n+1)->LY M A E s (do
        let mut cc:=n+1
        let mut dd:=0
        for _ in [cc:nrem] do
          let some uu <- ltAt' (lo+cc) (lo+cc - 1) | return none
          if uu then
            if dd > 0 then Jt (lo+cc - (dd+1)) (lo+cc)
            dd:=0
          else
            let some vv <- ltAt' (lo+cc - 1) (lo+cc) | return none
            if vv then break
            dd:=dd+1
          cc:=cc+1
        if dd > 0 then Jt (lo+cc - (dd+1)) (lo+cc)
        Jt lo (lo+cc)
        for _ in [cc:nrem] do
          let some uu <- ltAt' (lo+cc) (lo+cc - 1) | return none
          if uu then break
          cc:=cc+1
        return some cc) Q st1:=by
      intro st1 r1 hd1;refine EA (Gq (Ft (I:=fun x (c:Option (Option Nat)×Nat×Nat) st'=>c.1=none/\Re st st' lo/\c.2.1=x/\n+1<=x/\x<=nrem/\c.2.2+1<=x/\iZ lt (EY st') lo x/\oX lt (EY st') lo x c.2.2)
        (Q:=fun (c:Option (Option Nat)×Nat×Nat) st'=>c.1=none/\Re st st' lo/\n+1<=c.2.1/\c.2.1<=nrem/\c.2.2+1<=c.2.1/\iZ lt (EY st') lo c.2.1/\oX lt (EY st') lo c.2.1 c.2.2) ?step ?fin ⟨rfl,r1,rfl,A_ _,by omega,by show 0+1<=n+1; omega,hd1,?init⟩) ?post)
      case init =>
        intro p q hp hq hp2 hq2;have hp:n+1<=p+(0+1):=hp;have hq:n+1<=q+(0+1):=hq;have:p=q:=by omega
        subst this; exact L.le_refl _
      case fin =>
        rintro ⟨c,m,e⟩ st' ⟨e1,r,e2,x1,x2,x3,x4,x5⟩;dsimp only at e1 e2 x3 x5 ⊢;rw [show max (n+1) nrem=nrem by omega] at e2 x1 x2 x3 x4 x5;subst e2;exact ⟨e1,r,x1,A_ _,x3,x4,x5⟩
      case step =>
        rintro x ⟨c,m,e⟩ st' hx1 hx2 ⟨e1,r,e2,x1,x2,x3,x4,x5⟩;dsimp only at e1 e2 x3 x5 ⊢;subst e2;have sz:=r.keep.size;obtain ⟨m',rfl⟩:∃ m',m=m'+1:=⟨m - 1,by omega⟩
        refine EA (gH H (r.kind.trans hk) (r.keep.mem hS) (by omega) (by omega) ?_);dsimp only;rw [show lo+(m'+1) - 1=lo+m' by omega]
        cases hb:lt (at' (EY st') (lo+(m'+1))) (at' (EY st') (lo+m')) with
        | true =>
          rw [if_pos rfl]
          have one:∀ xs:Array C_,oX lt xs lo (m'+1+1) 0:=by
            intro xs p q hp hq hp2 hq2;have:p=q:=by omega
            subst this; exact L.le_refl _
          by_cases c2:e > 0
          · rw [if_pos c2]
            refine EA (jN ?_);obtain ⟨g1,g2,g3⟩:=jj L (xs:=EY st') (lo:=lo) (n:=m'+1) (e:=e) (by omega) x3 x4 x5;refine EJ ⟨rfl,r.set (d0 (by omega) (by omega)),rfl,by omega,by omega,by show 0+1<=m'+1+1; omega,iZ.succ L g1 ?_,one _⟩;rw [g3 _ (by omega)];have:at' (JE (EY st') (lo+(m'+1) - (e+1)) (lo+(m'+1)) ((lo+(m'+1) - (lo+(m'+1) - (e+1))) / 2)) (lo+m')=at' (EY st') (lo+(m'+1 - (e+1))):=by
              rw [cV (by omega),if_pos (by omega)]; congr 1; omega
            rw [this];exact L.trans (L.of_lt hb) (x5 m' (m'+1 - (e+1)) (by omega) (by omega) (by omega) (by omega))
          · rw [if_neg c2]
            exact EJ ⟨rfl,r,rfl,by omega,by omega,by show 0+1<=m'+1+1; omega,iZ.succ L x4 (L.of_lt hb),one _⟩
        | false =>
          rw [if_neg (by simp)];refine EA (gH H (r.kind.trans hk) (r.keep.mem hS) (by omega) (by omega) ?_);dsimp only
          cases hb2:lt (at' (EY st') (lo+m')) (at' (EY st') (lo+(m'+1))) with
          | true=>exact EJ ⟨rfl,r,x1,x2,x3,x4,x5⟩
          | false =>
            rw [if_neg (by simp)];refine EJ ⟨rfl,r,rfl,by omega,by omega,by show e+1+1<=m'+1+1; omega,iZ.succ L x4 hb2,?_⟩;intro p q hp hq hp2 hq2;have hp:m'+1+1<=p+(e+1+1):=hp;have hq:m'+1+1<=q+(e+1+1):=hq;by_cases p1:p=m'+1
            · subst p1
              by_cases q1:q=m'+1
              · subst q1; exact L.le_refl _
              · exact L.trans hb2 (x5 m' q (by omega) (by omega) (by omega) (by omega))
            · by_cases q1:q=m'+1
              · subst q1
                exact L.trans (x5 p m' (by omega) (by omega) (by omega) (by omega)) hb
              · exact x5 p q (by omega) (by omega) (by omega) (by omega)
      case post =>
        rintro ⟨c,m,e⟩ st2 ⟨e1,r,x1,x2,x3,x4,x5⟩;dsimp only at e1 x1 x2 x3 x4 x5 ⊢;subst e1;dsimp only;have last:∀ st3,Re st st3 lo->iZ lt (EY st3) lo m->LY M A E s (do
            Jt lo (lo+m)
            let mut cc:=m
            for _ in [cc:nrem] do
              let some uu <- ltAt' (lo+cc) (lo+cc - 1) | return none
              if uu then break
              cc:=cc+1
            return some cc) Q st3:=by
          intro st3 r3 hd3;have sz:=r3.keep.size;refine EA (jN ?_);have r4:=r3.set (d0 (xs:=EY st3) (lo:=lo) (i:=lo) (j:=lo+m) (A_ _) (by omega))
          have u4:Up lt (JE (EY st3) lo (lo+m) ((lo+m - lo) / 2)) lo m:=by
            intro p q hpq hq;rw [cV (by omega),cV (by omega),if_pos (by omega),if_pos (by omega),show lo+(lo+m) - 1 - (lo+p)=lo+(m - 1 - p) by omega,show lo+(lo+m) - 1 - (lo+q)=lo+(m - 1 - q) by omega];exact hd3 _ _ (by omega) (by omega)
          generalize hst4:setArr st3 (JE (EY st3) lo (lo+m) ((lo+m - lo) / 2))=st4 at r4;have u4:Up lt (EY st4) lo m:=by rw [<- hst4]; exact u4
          have sz4:=r4.keep.size;refine EA (Gq (Ft (I:=fun x (c:Option (Option Nat)×Nat) st'=>c.1=none/\st4=st'/\c.2=x/\Up lt (EY st4) lo x/\m<=x)
            (Q:=fun (c:Option (Option Nat)×Nat) st'=>c.1=none/\st4=st'/\1<=c.2/\c.2<=nrem/\Up lt (EY st4) lo c.2) ?step ?fin ⟨rfl,rfl,rfl,u4,A_ _⟩) ?post)
          case fin =>
            rintro ⟨c,y⟩ st' ⟨e,rfl,e2,hu,hx⟩;dsimp only at e e2 ⊢;rw [show max m nrem=nrem by omega] at e2 hu;subst e2;exact ⟨e,rfl,h1,A_ _,hu⟩
          case step =>
            rintro x ⟨c,y⟩ st' hx1 hx ⟨e,rfl,e2,hu,_⟩;dsimp only at e e2 ⊢;subst e2;refine EA (gH H (r4.kind.trans hk) (r4.keep.mem hS) (by omega) (by omega) ?_);dsimp only
            cases hb:lt (at' (EY st4) (lo+y)) (at' (EY st4) (lo+y - 1)) with
            | true=>exact EJ ⟨rfl,rfl,by show 1<=y; omega,by show y<=nrem; omega,hu⟩
            | false =>
              rw [if_neg (by simp)];obtain ⟨y',rfl⟩:∃ m,y=m+1:=⟨y - 1,by omega⟩
              exact EJ ⟨rfl,rfl,rfl,hu.succ L hb,by omega⟩
          case post =>
            rintro ⟨c,y⟩ st' ⟨e,rfl,y1,y2,hu⟩;dsimp only at e y1 y2 hu ⊢;subst e;exact EJ (h y st4 y1 y2 r4 hu)
        have sz:=r.keep.size;by_cases c2:e > 0
        · rw [if_pos c2]
          refine EA (jN ?_);obtain ⟨g1,g2,g3⟩:=jj L (xs:=EY st2) (lo:=lo) (n:=m) (e:=e) (by omega) x3 x4 x5;exact last _ (r.set (d0 (by omega) (by omega))) g1
        · rw [if_neg c2]
          exact last _ r x4
    by_cases c2:n > 1
    · rw [if_pos c2]
      refine EA (gH H hk hS (by omega) (by omega) ?_);dsimp only
      cases hb:lt (at' (EY st) lo) (at' (EY st) (lo+n - 1)) with
      | true =>
        rw [if_pos rfl];exact EJ (h n st n1 n2 (Re.refl _ _) hu)
      | false =>
        rw [if_neg (by simp)];refine EA (jN ?_);refine EA (J1 (GX ⟨rfl,?_⟩))
        have all:∀ p q,p<n->q<n->Le lt (at' (EY st) (lo+p)) (at' (EY st) (lo+q)):=by
          intro p q hp hq;have hb':Le lt (at' (EY st) (lo+(n - 1))) (at' (EY st) (lo+0)):=by rw [show lo+(n - 1)=lo+n - 1 by omega]; exact hb
          exact L.trans (L.trans (hu p (n - 1) (by omega) (by omega)) hb') (hu 0 q (by omega) hq)
        refine desc _ ((Re.refl st lo).set (d0 (A_ _) (by omega))) ?_
        have A:∀ p,p<n->at' (JE (EY st) lo (lo+n) ((lo+n - lo) / 2)) (lo+p)=at' (EY st) (lo+(n - 1 - p)):=by
          intro p hp;rw [cV (by omega),if_pos (by omega)]; congr 1; omega
        have An:at' (JE (EY st) lo (lo+n) ((lo+n - lo) / 2)) (lo+n)=at' (EY st) (lo+n):=by
          rw [cV (by omega),if_neg (by omega)]
        intro p q hpq hq
        show Le lt (at' (JE _ _ _ _) _) (at' (JE _ _ _ _) _)
        by_cases q1:q=n
        · subst q1
          by_cases p1:p=q
          · subst p1; exact L.le_refl _
          · rw [An,A p (by omega)]
            exact L.trans (L.of_lt hlt) (all _ _ (by omega) (by omega))
        · rw [A p (by omega),A q (by omega)]
          exact all _ _ (by omega) (by omega)
    · rw [if_neg c2]
      refine EA (J1 (GX ⟨rfl,?_⟩));refine desc _ (Re.refl st lo) ?_;have e1:n=1:=by omega
      subst e1;refine iZ.succ L (fun p q hpq hq=>?_) (L.of_lt hlt);have e1:q=0:=by omega
      have e2:p=0:=by omega
      subst e1 e2;exact L.le_refl _
end
end Ts
namespace Ts
open PySem PyProof.Rows
theorem jL {xs:Array C_} {s n j:Nat}:(seg xs s n)[j]?=if j<n then xs[s+j]? else none:=by
 unfold seg;by_cases h:j<n
 ·rw [if_pos h,Gi h,JB,Fv]
 ·rw [if_neg h,List.getElem?_take_eq_none (by omega)]
theorem sj {xs ys:Array C_} {s n:Nat} (h:∀ j,s<=j->j<s+n->ys[j]?=xs[j]?):seg ys s n=seg xs s n:=by
 refine Hr fun j=>?_;rw [jL,jL];by_cases c:j<n
 ·rw [if_pos c,if_pos c,h _ (by omega) (by omega)]
 ·rw [if_neg c,if_neg c]
theorem Up.seg {lt:C_->C_->Bool} {xs:Array C_} {lo n:Nat} (h:Up lt xs lo n) (hn:lo+n<=xs.size):(seg xs lo n).Pairwise (Le lt):=by
 rw [Lg];intro i j hi hj hij;have hl:=eF hn
 have e:∀ i (hi:i<(Ts.seg xs lo n).length),(Ts.seg xs lo n)[i]=at' xs (lo+i):=by
  intro i hi;have h1:(Ts.seg xs lo n)[i]?=some (Ts.seg xs lo n)[i]:=ς hi;rw [jL,if_pos (by omega),mT (by omega)] at h1;exact (Ez h1).symm
 rw [e i hi,e j hj];exact h i j (by omega) (by omega)
def cb (lt:C_->C_->Bool) (xs:Array C_):Nat->List (Nat×Nat)->Nat->Prop
 | i,[],hi=>i=hi
 | i,(s,n)::ps,hi=>s=i/\1<=n/\(seg xs s n).Pairwise (Le lt)/\cb lt xs (i+n) ps hi
noncomputable def kys (p:Array (Nat×Nat×Nat)):List (Nat×Nat):=p.toList.map fun q=>(q.1,q.2.1)
theorem cb.app {lt:C_->C_->Bool} {xs:Array C_}:∀ {l1 l2:List (Nat×Nat)} {i hi:Nat},cb lt xs i (l1++l2) hi↔∃ m,cb lt xs i l1 m/\cb lt xs m l2 hi
 | [],l2,i,hi=>⟨fun h=>⟨i,rfl,h⟩,fun ⟨m,e,h⟩=>by cases e; exact h⟩
 | (s,n)::l1,l2,i,hi=>by
  constructor
  ·rintro ⟨h1,h2,h3,h4⟩;obtain ⟨m,h5,h6⟩:=cb.app.mp h4;exact ⟨m,⟨h1,h2,h3,h5⟩,h6⟩
  ·rintro ⟨m,⟨h1,h2,h3,h5⟩,h6⟩;exact ⟨h1,h2,h3,cb.app.mpr ⟨m,h5,h6⟩⟩
theorem cb.le {lt:C_->C_->Bool} {xs:Array C_}:∀ {l:List (Nat×Nat)} {i hi:Nat},cb lt xs i l hi->i+l.length<=hi
 | [],i,hi,h=>I_ h
 | (s,n)::l,i,hi,⟨h1,h2,h3,h4⟩=>by
  have:=cb.le h4
  rw [Ba]; omega
theorem cb.congr {lt:C_->C_->Bool} {xs ys:Array C_}:∀ {l:List (Nat×Nat)} {i hi:Nat},cb lt xs i l hi->(∀ j,i<=j->j<hi->ys[j]?=xs[j]?)->cb lt ys i l hi
 | [],i,hi,h,_=>h
 | (s,n)::l,i,hi,⟨h1,h2,h3,h4⟩,h=>by
  have:=cb.le h4
  refine ⟨h1,h2,?_,cb.congr h4 fun j hj=>h j (by omega)⟩;rw [sj fun j h5 h6=>h j (by omega) (by omega)];exact h3
theorem Chg.get {xs ys:Array C_} {i n:Nat} {m:List C_} (h:Chg xs ys i n m) (hn:i+n<=xs.size) (j:Nat):ys[j]?=if j<i then xs[j]? else if j<i+n then m[j - i]? else xs[j]?:=by
 have hl:m.length=n:=by rw [h.1.length_eq,eF hn]
 rw [<- Fv,h.2,EI,MS,E7,Eo,Hl (by omega)];by_cases c:j<i
 ·rw [if_pos c,if_pos c,Gi c,Fv]
 ·rw [if_neg c,if_neg c,MS,hl];by_cases c2:j<i+n
  ·rw [if_pos (by omega),if_pos c2]
  ·rw [if_neg (by omega),if_neg c2,JB,Fv]
   congr 1; omega
theorem Chg.seg {xs ys:Array C_} {i n:Nat} {m:List C_} (h:Chg xs ys i n m) (hn:i+n<=xs.size):Ts.seg ys i n=m:=by
 have hl:m.length=n:=by rw [h.1.length_eq,eF hn]
 refine Hr fun j=>?_;rw [jL,h.get hn];by_cases c:j<n
 ·rw [if_pos c,if_neg (by omega),if_pos (by omega),show i+j - i=j by omega]
 ·rw [if_neg c,Gg (by omega)]
theorem Chg.perm {xs ys:Array C_} {i n:Nat} {m:List C_} (h:Chg xs ys i n m):ys.Perm xs:=by
 rw [GC,h.2]
 conv=>rhs; rw [ze xs i n]
 exact HK _ (Gz _ h.1)
theorem cb.merge {lt:C_->C_->Bool} {xs ys:Array C_} {l1 l2:List (Nat×Nat)} {sa na sb nb hi:Nat} {m:List C_} (h:cb lt xs 0 (l1++(sa,na)::(sb,nb)::l2) hi) (hz:hi<=xs.size) (c:Chg xs ys sa (na+nb) m) (hm:m.Pairwise (Le lt)):cb lt ys 0 (l1++(sa,na+nb)::l2) hi:=by
 obtain ⟨k,h1,h2,h3,h4,h5,h6,h7,h8⟩:=cb.app.mp h;subst h2 h5;have e1:=cb.le h1;have e2:=cb.le h8;refine cb.app.mpr ⟨sa,cb.congr h1 fun j _ hj=>?_,rfl,by omega,?_,?_⟩
 ·rw [c.get (by omega),if_pos hj]
 ·rw [c.seg (by omega)]; exact hm
 ·rw [<- Nat.add_assoc];refine cb.congr h8 fun j hj _=>?_;rw [c.get (by omega),if_neg (by omega),if_neg (by omega)]
theorem xC {l:List (Nat×Nat×Nat)} {i:Nat} {x y:Nat×Nat×Nat} (h1:l[i]?=some x) (h2:l[i+1]?=some y):l=l.take i++x::y::l.drop (i+2)/\(l.take i).length=i:=by
 have hi:=(Bc.mp h1).1;have hi2:=(Bc.mp h2).1;refine ⟨?_,by rw [E7]; omega⟩;have e1:=(Bc.mp h1).2;have e2:=(Bc.mp h2).2
 conv=>lhs; rw [<- Fx i l,FH hi,FH hi2,e1,e2]
theorem B9 {c:Prop} [Decidable c] {n:Nat} (h:¬ n<=1):(if c then n - 2 - 1 else n - 2)+1<n:=by split<;>omega
section
variable {M:JS} {A:E5} {E:Δ->A2->Prop} {s:A2}
structure Inv (κ:GR) (lt:C_->C_->Bool) (a0:Array C_) (st:FU) (lo:Nat):Prop where
 kind:Ga st=κ
 failed:Gu st=none
 perm:(EY st).Perm a0
 runs:cb lt (EY st) 0 (kys (Ep st)) lo
theorem Inv.mem {κ:GR} {lt:C_->C_->Bool} {a0:Array C_} {st:FU} {lo:Nat} {S:C_->Prop} (h:Inv κ lt a0 st lo) (hS:∀ x∈a0.toList,S x):∀ x∈(EY st).toList,S x:=fun x hx=>hS x ((GC.mp h.perm).mem_iff.mp hx)
theorem ij {κ:GR} {S:C_->Prop} {lt:C_->C_->Bool} (L:cz lt) (H:ik M A E s κ S lt) {a0:Array C_} {i lo:Nat} {Q:Bool->FU->Prop} {st:FU} (I:Inv κ lt a0 st lo) (hS:∀ x∈a0.toList,S x) (hz:lo<=a0.size) (hi:i+1<(Ep st).size)
  (h:∀ st',Inv κ lt a0 st' lo->(Ep st').size+1=(Ep st).size->(∀ j,lo<=j->(EY st')[j]?=(EY st)[j]?)->Q true st'):LY M A E s (mergeAt' i) Q st:=by
 have sz:=I.perm.size_eq;obtain ⟨⟨sa,na,w1⟩,h1⟩:∃ x,(Ep st)[i]?=some x:=⟨_,getElem?_pos _ i (by omega)⟩
 obtain ⟨⟨sb,nb,w2⟩,h2⟩:∃ x,(Ep st)[i+1]?=some x:=⟨_,getElem?_pos _ (i+1) hi⟩
 have g1:(Ep st).toList[i]?=some (sa,na,w1):=by rw [Fv]; exact h1
 have g2:(Ep st).toList[i+1]?=some (sb,nb,w2):=by rw [Fv]; exact h2
 obtain ⟨e,le⟩:=xC g1 g2;have r:=I.runs;unfold kys at r;rw [e,FO,EW,EW] at r;obtain ⟨k,r1,r2,r3,r4,r5,r6,r7,r8⟩:=cb.app.mp r;dsimp only at r2 r3 r4 r5 r6 r7 r8;subst r2 r5;have l1:=cb.le r1;have l8:=cb.le r8;refine qV L H I.kind I.failed h1 h2 r3 r6 (by omega) r4 r7 (I.mem hS) fun st' m e1 e2 e3 c hm=>?_
 have eP:(Ep st').toList=(Ep st).toList.take i++(sa,na+nb,w1)::(Ep st).toList.drop (i+2):=by
  rw [e3,Array.toList_eraseIdxIfInBounds,LN]
  conv=>lhs; rw [e]
  rw [List.set_append_right _ _ (by omega),le,Jv,List.set_cons_zero,List.eraseIdx_append_of_length_le (by omega),le,show i+1 - i=1 by omega];rfl
 refine h st' ⟨e1,e2,c.perm.trans I.perm,?_⟩ ?_ fun j hj=>?_
 ·unfold kys;rw [eP,FO,EW];exact cb.merge r (by omega) c hm
 ·rw [<- Eo,eP,<- Eo (xs:=Ep st)]
  conv=>rhs; rw [e]
  simp only [Bd,Ba];omega
 ·rw [c.get (by omega),if_neg (by omega),if_neg (by omega)]
theorem Inv.push {κ:GR} {lt:C_->C_->Bool} {a0:Array C_} {st:FU} {lo n:Nat} (I:Inv κ lt a0 st lo) (hs:(seg (EY st) lo n).Pairwise (Le lt)) (hn:1<=n):Inv κ lt a0 (setPending st ((Ep st).push (lo,n,0))) (lo+n):=by
 refine ⟨I.kind,I.failed,I.perm,?_⟩
 show cb lt (EY st) 0 (kys ((Ep st).push (lo,n,0))) (lo+n)
 unfold kys;rw [GZ,FO];exact cb.app.mpr ⟨lo,I.runs,rfl,hn,hs,rfl⟩
theorem rC {p:Array (Nat×Nat×Nat)} {k w:Nat}:kys (p.modify k fun x=>(x.1,x.2.1,w))=kys p:=by
 unfold kys;refine Hr fun j=>?_;rw [EX,EX,Fv,Fv,Array.getElem?_modify];by_cases c:k=j
 ·rw [if_pos c]
  cases p[j]?<;>rfl
 ·rw [if_neg c]
theorem Inv.modif {κ:GR} {lt:C_->C_->Bool} {a0:Array C_} {st:FU} {lo k w:Nat} (I:Inv κ lt a0 st lo):Inv κ lt a0 (setPending st ((Ep st).modify k fun x=>(x.1,x.2.1,w))) lo:=by
 refine ⟨I.kind,I.failed,I.perm,?_⟩
 show cb lt (EY st) 0 (kys ((Ep st).modify k fun x=>(x.1,x.2.1,w))) lo
 rw [rC];exact I.runs
theorem lC {κ:GR} {S:C_->Prop} {lt:C_->C_->Bool} (L:cz lt) (H:ik M A E s κ S lt) {Q:Unit->FU->Prop} {st:FU} (hk:Ga st=κ) (hf:Gu st=none) (hp:Ep st=#[]) (hS:∀ x∈(EY st).toList,S x)
  (h:∀ st',(EY st').Perm (EY st)->Gu st'=none->(EY st').toList.Pairwise (Le lt)->Q () st'):LY M A E s sortRuns' Q st:=by
 have I0:Inv κ lt (EY st) st 0:=⟨hk,hf,JJ _,by rw [hp]; rfl⟩
 generalize ha:EY st=a0 at hS h I0;unfold sortRuns';refine EA (IW ?_);have ez:(EY st).size=a0.size:=by rw [ha]
 dsimp only;refine EA (Gq (Ft (I:=fun x (c:Option Unit×Nat) st'=>c.1=none/\Inv κ lt a0 st' c.2/\x<=c.2/\c.2<=a0.size) (Q:=fun (c:Option Unit×Nat) st'=>c.1=none/\Inv κ lt a0 st' a0.size) ?step ?fin ⟨rfl,I0,A_ _,En _⟩) ?post)
 case fin =>
  rintro ⟨c,lo⟩ st' ⟨e,I,h1,h2⟩;have h1:max 0 (EY st).size<=lo:=h1;have h2:lo<=a0.size:=h2;have e2:lo=a0.size:=by omega
  subst e2;exact ⟨e,I⟩
 case step =>
  rintro x ⟨c,lo⟩ st1 _ hx ⟨e,I,h1,h2⟩;dsimp only at e I h1 h2 ⊢;generalize hN:(EY st).size=N at hx ez ⊢;have sz:=I.perm.size_eq;refine aV (fun hd=>?_) (fun hd=>?_)
  ·have e2:lo=a0.size:=by omega
   subst e2;exact EJ ⟨rfl,I⟩
  ·refine EA (wt L H I.kind (I.mem hS) (by omega) (by omega) fun m st2 m1 m2 r2 u2=>?_);dsimp only;refine aV (fun hm=>?_) (fun hm=>?_)
   ·have sz2:=r2.keep.size;refine EA (J1 (GX ⟨rfl,?_⟩));refine EA (sQ L H (r2.kind.trans I.kind) (r2.keep.mem (I.mem hS)) (by omega) (by omega) u2 fun st3 r3' u3=>?_);rw [if_neg (by simp)];have r3:Re st1 st3 lo:=⟨r3'.kind.trans r2.kind,r3'.failed.trans r2.failed,r3'.pend.trans r2.pend,r2.keep.trans r3'.keep⟩
    have sz3:=r3.keep.size;have sg:=u3.seg (by omega);have I3:Inv κ lt a0 st3 lo:=⟨r3.kind.trans I.kind,r3.failed.trans I.failed,r3.keep.perm.trans I.perm,by rw [r3.pend]; exact cb.congr I.runs fun j _ hj=>r3.keep.low j hj⟩
    refine EA (IW ?_)
    cases hb:(Ep st3).back? with
    | none =>
     dsimp only;refine EA (G1 ?_);exact EJ ⟨rfl,I3.push sg (by omega),by dsimp only; omega,by dsimp only; omega⟩
    | some t =>
     obtain ⟨s1,n1,w1⟩:=t;dsimp only;refine EA (Gq (Ft (I:=fun x (c:Option Unit×Unit) st'=>c.1=none/\Inv κ lt a0 st' lo/\∀ j,lo<=j->(EY st')[j]?=(EY st3)[j]?) (Q:=fun (c:Option Unit×Unit) st'=>c.1=none/\Inv κ lt a0 st' lo/\∀ j,lo<=j->(EY st')[j]?=(EY st3)[j]?) ?_ (fun _ _ z=>z) ⟨rfl,I3,fun _ _=>rfl⟩) ?_)
     ·rintro y ⟨c,u⟩ st4 _ _ ⟨e,I4,k4⟩;refine EA (IW ?_);by_cases hz:(Ep st4).size > 1
      ·rw [if_pos hz];obtain ⟨⟨q1,q2,q3⟩,hq⟩:∃ q,(Ep st4)[(Ep st4).size - 2]?=some q:=⟨_,getElem?_pos _ _ (by omega)⟩
       rw [hq];dsimp only;refine aV (fun _=>?_) (fun _=>?_)
       ·exact EJ ⟨rfl,I4,k4⟩
       ·refine EA (ij L H I4 hS (by omega) (by show (Ep st4).size - 2+1<(Ep st4).size; omega) fun st5 I5 _ k5=>?_);rw [if_neg (by simp)];exact EJ ⟨rfl,I5,fun j hj=>(k5 j hj).trans (k4 j hj)⟩
      ·rw [if_neg hz];exact EJ ⟨rfl,I4,k4⟩
     ·rintro ⟨c,u⟩ st4 ⟨e,I4,k4⟩;dsimp only at e ⊢;subst e;dsimp only;refine EA (G1 ?_);refine EA (G1 ?_);have sg4:=sg;rw [<- sj (ys:=EY st4) fun j hj _=>k4 j hj] at sg4;exact EJ ⟨rfl,I4.modif.push sg4 (by omega),by dsimp only; omega,by dsimp only; omega⟩
   ·have r3:=r2;have u3:=u2;have sz3:=r3.keep.size;have sg:=u3.seg (by omega);generalize st2=st3 at r3 u3 sz3 sg ⊢;have I3:Inv κ lt a0 st3 lo:=⟨r3.kind.trans I.kind,r3.failed.trans I.failed,r3.keep.perm.trans I.perm,by rw [r3.pend]; exact cb.congr I.runs fun j _ hj=>r3.keep.low j hj⟩
    refine EA (IW ?_)
    cases hb:(Ep st3).back? with
    | none =>
     dsimp only;refine EA (G1 ?_);exact EJ ⟨rfl,I3.push sg (by omega),by dsimp only; omega,by dsimp only; omega⟩
    | some t =>
     obtain ⟨s1,n1,w1⟩:=t;dsimp only;refine EA (Gq (Ft (I:=fun x (c:Option Unit×Unit) st'=>c.1=none/\Inv κ lt a0 st' lo/\∀ j,lo<=j->(EY st')[j]?=(EY st3)[j]?) (Q:=fun (c:Option Unit×Unit) st'=>c.1=none/\Inv κ lt a0 st' lo/\∀ j,lo<=j->(EY st')[j]?=(EY st3)[j]?) ?_ (fun _ _ z=>z) ⟨rfl,I3,fun _ _=>rfl⟩) ?_)
     ·rintro y ⟨c,u⟩ st4 _ _ ⟨e,I4,k4⟩;refine EA (IW ?_);by_cases hz:(Ep st4).size > 1
      ·rw [if_pos hz];obtain ⟨⟨q1,q2,q3⟩,hq⟩:∃ q,(Ep st4)[(Ep st4).size - 2]?=some q:=⟨_,getElem?_pos _ _ (by omega)⟩
       rw [hq];dsimp only;refine aV (fun _=>?_) (fun _=>?_)
       ·exact EJ ⟨rfl,I4,k4⟩
       ·refine EA (ij L H I4 hS (by omega) (by show (Ep st4).size - 2+1<(Ep st4).size; omega) fun st5 I5 _ k5=>?_);rw [if_neg (by simp)];exact EJ ⟨rfl,I5,fun j hj=>(k5 j hj).trans (k4 j hj)⟩
      ·rw [if_neg hz];exact EJ ⟨rfl,I4,k4⟩
     ·rintro ⟨c,u⟩ st4 ⟨e,I4,k4⟩;dsimp only at e ⊢;subst e;dsimp only;refine EA (G1 ?_);refine EA (G1 ?_);have sg4:=sg;rw [<- sj (ys:=EY st4) fun j hj _=>k4 j hj] at sg4;exact EJ ⟨rfl,I4.modif.push sg4 (by omega),by dsimp only; omega,by dsimp only; omega⟩
 case post =>
  rintro ⟨c,lo⟩ st1 ⟨e,I⟩;dsimp only at e ⊢;subst e;dsimp only;have sz:=I.perm.size_eq
  have n0:(Ep st1).size<=a0.size:=by
   have:=cb.le I.runs
   unfold kys at this;rw [Aj,Eo] at this;omega
  refine EA (Gq (Ft (I:=fun x (c:Option Unit×Unit) st'=>c.1=none/\Inv κ lt a0 st' a0.size/\((Ep st').size+x<=a0.size\/(Ep st').size<=1)) (Q:=fun (c:Option Unit×Unit) st'=>c.1=none/\Inv κ lt a0 st' a0.size/\(Ep st').size<=1) ?step ?fin ⟨rfl,I,.inl n0⟩) ?post)
  case fin =>
   rintro ⟨c,u⟩ st' ⟨e,I,h1⟩;refine ⟨e,I,?_⟩;have h1:(Ep st').size+max 0 (EY st).size<=a0.size\/(Ep st').size<=1:=h1;omega
  case step =>
   rintro x ⟨c,u⟩ st2 _ hx ⟨e,I,h1⟩;dsimp only at e h1 ⊢;refine EA (IW ?_);refine aV (fun hd=>?_) (fun hd=>?_)
   ·exact EJ ⟨rfl,I,hd⟩
   ·refine EA (ij L H I hS (A_ _) ?_ fun st3 I3 h3 _=>?_)
    ·have hd:¬ (Ep st2).size<=1:=hd;exact B9 hd
    ·rw [if_neg (by simp)];refine EJ ⟨rfl,I3,?_⟩
     show (Ep st3).size+(x+1)<=a0.size\/(Ep st3).size<=1
     have hd:¬ (Ep st2).size<=1:=hd;omega
  case post =>
   rintro ⟨c,u⟩ st2 ⟨e,I,h1⟩;dsimp only at e h1 ⊢;subst e;have r:=I.runs;have szz:=I.perm.size_eq;refine EJ (h st2 I.perm I.failed ?_)
   match hq:kys (Ep st2),r with
   | [],r =>
    have r:0=a0.size:=r;have:(EY st2).toList=[]:=FT (by rw [Eo]; omega)
    rw [this];exact GP
   | [(s1,n1)],⟨r1,r2,r3,r4⟩ =>
    have r4:0+n1=a0.size:=r4;subst r1;have:seg (EY st2) 0 n1=(EY st2).toList:=by
     unfold seg;rw [HP,EN (by rw [Eo]; omega)]
    rw [this] at r3;exact r3
   | x::y::l,r =>
    have:(kys (Ep st2)).length=(Ep st2).size:=by unfold kys; rw [Aj,Eo]
    rw [hq,Ba,Ba] at this;omega
end
end Ts
namespace Ts
open PySem PyProof.Rows PySem.W
section
variable {prog:ER} {w:E2} {A:E5} {E:Δ->A2->Prop} {s:A2}
def sV (prog:ER) (w:E2) (s:A2) (a:Ω) (ks:List Δ) (κ:GR) (S:C_->Prop) (lt:C_->C_->Bool):Prop :=
 ∀ (A:E5) (E:Δ->A2->Prop) (h:FD),(∀ b o,b≠a->s.heap.get? b=some o->h.get? b=some o) ->
  (2<=ks.length->∀ Q,Q κ { s with heap:=h }->EM (EZ prog w) A (keyKind' ks.toArray) Q E { s with heap:=h })/\ik (EZ prog w) A E { s with heap:=h } κ S lt
theorem yW {κ:GR} {S:C_->Prop} {lt:C_->C_->Bool} (L:cz lt) {a:Ω} {vs:List Δ} {n:Nat} {P:Fin->A2->Prop} (ho:s.heap.get? a=some (E8 "list" vs.toArray n)) (hz:vs.length<=EF)
  (hs:sV prog w s a vs κ S lt) (hS:∀ x∈(Gy vs).toList,S x)
  (h:∀ out:Array C_,out.Perm (Gy vs)->out.toList.Pairwise (Le lt)->P (.done (.ret .none)) { s with heap:=MC s.heap a vs (out.map (·.2)) }) :
  EM (EZ prog w) A (IK.«list.sort» ⟨[.ref a],[]⟩) P E s:=by
 rw [list_sort_plain];have ha:a<s.heap.objs.size:=EC ho;have hsz:vs.toArray.size=vs.length:=by simp
 refine ξ (LF ho rfl ?_);refine ξ (G7 ho rfl ?_ (by omega) (En _));obtain ⟨e1,ho1⟩:∃ e1,(s.heap.update a (Er fun _=>#[])).get? a=some (E8 "list" #[] e1):=⟨_,Hv ho (fun _=>#[])⟩
 refine ξ (IS ho1 rfl ?_);refine ξ (KS ?_ (by first | exact hz | (simp; exact hz)));refine ξ (Iv ?_);refine Gd ?_
 show EM (EZ prog w) A _ P E { s with heap:=((s.heap.update a (Er fun _=>#[])).push (E8 "tuple" vs.toArray 0)).push (E8 "list" #[] 0) }
 generalize hH6:((s.heap.update a (Er fun _=>#[])).push (E8 "tuple" vs.toArray 0)).push (E8 "list" #[] 0)=h6
 have ho6:h6.get? a=some (E8 "list" #[] e1):=by
  rw [<- hH6,Gp _ _ _ (by rw [IM,GV]; exact EH (F3 ha)),Gp _ _ _ (by rw [GV]; exact EH ha)];exact ho1
 have keep:∀ b o,b≠a->s.heap.get? b=some o->h6.get? b=some o:=fun b o hb q=>by
  rw [<- hH6];exact χ _ (χ _ ((E9 _ _ (GH hb)).trans q))
 have fin:∀ out:Array C_,out.Perm (Gy vs)->out.toList.Pairwise (Le lt)->P (.done (.ret .none)) { s with heap:=h6.update a (Er fun _=>out.map (·.2)) }:=by
  intro out hp hs;rw [<- hH6];exact h out hp hs
 dsimp only;obtain ⟨hk,hasks⟩:=hs A E h6 keep;by_cases h2:vs.toArray.size<2
 ·rw [if_pos h2,if_pos h2];refine ξ (B_ ?_);rw [Kz];refine ξ (B_ ?_);dsimp only;refine ξ (IS ho6 rfl ?_);refine ξ (G7 ho6 rfl ?_ (by simp) (by rw [JA]; show (Gy vs).size<=_; rw [LD,KU]; omega));simp only [bne_self_eq_false,FJ,if_false];refine B_ (fin (vs.toArray.zip vs.toArray) (JJ _) ?_)
  show (Gy vs).toList.Pairwise _
  rw [HY]
  match vs,hsz,h2 with
  | [], _, _ => exact GP
  | [v], _, _ => exact JY _ _
  | v₁ :: v₂ :: dO, e, h2 => simp at h2; omega
 ·rw [if_neg h2,if_neg h2];refine ξ (hk (by omega) _ ?_);refine ξ (GO (lC (E:=E) (s:={ s with heap:=h6 }) (A:=A) L hasks (st:=K9 κ (vs.toArray.zip vs.toArray) #[] 7 none)
   (Q:=fun _ st'=>(EY st').Perm (Gy vs)/\Gu st'=none/\(EY st').toList.Pairwise (Le lt)) rfl rfl rfl hS fun st' a1 a2 a3=>⟨a1,a2,a3⟩) ?_ fun _ _ e=>e)
  rintro ⟨⟨⟩,st'⟩ s' ⟨rfl,hp,hf,hs⟩;dsimp only;refine ξ (IS ho6 rfl ?_);refine ξ (G7 ho6 rfl ?_ (by simp) (by refine FA (I_ ((JA ..).trans (hp.size_eq.trans (LD _)))) ?_; omega));rw [hf];simp only [bne_self_eq_false,FJ,if_false];exact B_ (fin _ hp hs)
theorem kY {κ:GR} {S:C_->Prop} {lt:C_->C_->Bool} (L:cz lt) {l:Ω} {vs:List Δ} {Q:Δ->A2->Prop} (hl:s.heap.IsList l vs.toArray) (hz:vs.length<=EF)
  (hs:∀ h,(∀ b o,s.heap.get? b=some o->h.get? b=some o)->sV prog w { s with heap:=h } (s.heap.objs.size+1) vs κ S lt) (hS:∀ x∈(Gy vs).toList,S x)
  (h:∀ out:Array C_,out.Perm (Gy vs)->out.toList.Pairwise (Le lt)->Q (.ref (s.heap.objs.size+1)) { s with heap:=Kh s.heap vs (out.map (·.2)) }) :
  EM (EZ prog w) A (call (.builtin "sorted") [.ref l]) Q E s:=by
 refine LW kind_sorted plain_sorted entry_sorted (args_sorted1 _) ?_;unfold IK.«sorted»;refine ξ (m:=checkCount "sorted" 1 1 _) (B_ ?_);refine ξ (collect_list hl ?_ hz);refine ξ (Iv ?_ hz)
 have hsz:((s.heap.push (E8 "list" #[] 0)).update s.heap.objs.size (Er (·++vs.toArray))).objs.size=s.heap.objs.size+1:=by
  rw [GV,IM]
 have hoL:(((s.heap.push (E8 "list" #[] 0)).update s.heap.objs.size (Er (·++vs.toArray))).push (E8 "list" vs.toArray 0)).get? (s.heap.objs.size+1)=some (E8 "list" vs.toArray 0):=by
  rw [<- hsz]; exact EB _ rfl
 have keep:∀ b o,s.heap.get? b=some o->(((s.heap.push (E8 "list" #[] 0)).update s.heap.objs.size (Er (·++vs.toArray))).push (E8 "list" vs.toArray 0)).get? b=some o:=fun b o q=>by
  have hlt:b<s.heap.objs.size:=EC q;rw [Gp _ _ _ (by rw [hsz]; exact EH (F3 hlt)),HL _ _ _ _ (EH hlt),Gp _ _ _ (EH hlt)];exact q
 show EM _ _ _ _ _ { s with heap:=((s.heap.push (E8 "list" #[] 0)).update s.heap.objs.size (Er (·++vs.toArray))).push (E8 "list" vs.toArray 0) }
 rw [hsz];refine ξ (Gd (Gk MD ⟨_,hoL,rfl⟩ Ls (yW L hoL hz (hs _ keep) hS fun out a1 a2=>⟨_,rfl,?_⟩) (args_list_sort _)));exact B_ ⟨_,rfl,h out a1 a2⟩
end
noncomputable def plt (p q:Int×Int):Bool:=decide (p.1<q.1)||(decide (p.1=q.1)&&decide (p.2<q.2))
def ple (p q:Int×Int):Prop:=p.1<q.1\/(p.1=q.1/\p.2<=q.2)
theorem bR {p q:Int×Int}:plt p q=false↔ple q p:=by
 unfold plt ple;rw [Bool.or_eq_false_iff,Bool.and_eq_false_iff,decide_eq_false_iff_not,decide_eq_false_iff_not,decide_eq_false_iff_not];omega
theorem fg {p q:Int×Int}:plt p q=true↔p.1<q.1\/(p.1=q.1/\p.2<q.2):=by
 unfold plt;rw [J0,FL,decide_eq_true_eq,decide_eq_true_eq,decide_eq_true_eq]
theorem rD (g:Δ->Int×Int):cz fun x y=>plt (g x.1) (g y.1):=by
 constructor
 ·intro x y h;have h:=fg.mp h;refine bR.mpr ?_;unfold ple;omega
 ·intro x y z h1 h2;have h1:=bR.mp h1;have h2:=bR.mp h2;refine bR.mpr ?_;unfold ple at h1 h2 ⊢;omega
section
variable {prog:ER} {w:E2} {s:A2}
theorem jy {M:JS} {A:E5} {E:Δ->A2->Prop} {s:A2} {κ:GR} {S:C_->Prop} {lt:C_->C_->Bool} (h:∀ x y,S x->S y->∀ (Q':Bool->A2->Prop) (E':Δ->A2->Prop),Q' (lt x y) s->EM M A (keyLt' κ x.1 y.1) Q' E' s):ik M A E s κ S lt:=by
 intro x y st Q hx hy hk q;rw [lt'_eq];refine EA (IW ?_);rw [hk];refine EA (J1 (Kw (h x y hx hy _ _ ⟨rfl,?_⟩)));exact EJ q
def aX (h:FD) (v:Δ) (p:Int×Int):Prop:=∃ b o t u n,v=.ref b/\h.get? b=some o/\o.cls=.type "tuple"/\o.data=.seq #[.int p.1 t,.int p.2 u] n
theorem qf {A:E5} {E:Δ->A2->Prop} {v u:Δ} {p q:Int×Int} {Q:Bool->A2->Prop} (hv:aX s.heap v p) (hu:aX s.heap u q) (h:Q (plt p q) s):EM (EZ prog w) A (keyLt' (KC true) v u) Q E s:=by
 obtain ⟨b,o,t1,t2,n,rfl,h1,_,d1⟩:=hv;obtain ⟨c,o2,t3,t4,m,rfl,h2,_,d2⟩:=hu;refine kat_lt h1 d1 h2 d2 ?_;refine kat_cons (Ir ?_);refine kat_go (fun e=>kat_yes ?_) (fun e=>kat_no ?_)
 ·have e1:p.1=q.1:=by simpa using e
  refine kat_cons (Ir ?_);refine kat_go (fun e=>kat_yes ?_) (fun e=>kat_no ?_)
  ·have e2:p.2=q.2:=by simpa using e
   refine kat_nil ?_;have:plt p q=false:=bR.mpr (by unfold ple; omega)
   rw [this] at h;exact h
  ·have e2:¬ p.2=q.2:=by simpa using e
   refine kat_one _ _ (wpAny_lt_int ?_)
   show Q _ _
   have:plt p q=decide (p.2<q.2):=by unfold plt; rw [e1]; simp
   rw [this] at h;exact h
 ·have e1:¬ p.1=q.1:=by simpa using e
  refine oneLt_int ?_;have:plt p q=decide (p.1<q.1):=by unfold plt; simp [e1]
  rw [this] at h;exact h
theorem qL {a:Ω} {vs:List Δ} {g:Δ->Int×Int} (hv:∀ v∈vs,aX s.heap v (g v)/\v≠.ref a):sV prog w s a vs (KC true) (fun x=>x∈(Gy vs).toList) (fun x y=>plt (g x.1) (g y.1)):=by
  intro A E h keep
  have hv':∀ v∈vs,aX h v (g v):=by
    intro v hm;obtain ⟨⟨b,o,t,u,n,rfl,h1,h2,h3⟩,hne⟩:=hv v hm;exact ⟨b,o,t,u,n,rfl,keep b o (fun e=>hne (by rw [e])) h1,h2,h3⟩
  refine ⟨fun h2 Q q=>?_,?_⟩
  · have key:∀ (us:List Δ),(∀ v∈us,aX h v (g v))->∃ fs,KatTups h us fs/\fs.length=us.length/\∀ f∈fs,∃ i t,f=.int i t:=by
      intro us
      induction us with
      | nil=>intro _; exact ⟨[],Ly,rfl,fun f hf=>nomatch hf⟩
      | cons v us ih =>
        intro hu;obtain ⟨fs,k1,k2,k3⟩:=ih fun v hv=>hu v (Θ _ hv);obtain ⟨b,o,t,u,n,e,h1,h2,h3⟩:=hu v θ;refine ⟨.int (g v).1 t::fs,?_,by rw [Ba,Ba,k2],fun f hf=>?_⟩
        · rw [e]
          rw [e] at h3;exact Li h1 h2 h3 rfl k1
        · rcases Bb.mp hf with rfl | hf
          · exact ⟨_,_,rfl⟩
          · exact k3 f hf
    obtain ⟨fs,k1,k2,k3⟩:=key vs hv';refine kat_kind (T:=.type "int") k1 (by omega) (fun f hf=>?_) (by decide) ?_
    · obtain ⟨i,t,rfl⟩:=k3 f hf
      exact Looks.of_pure rfl
    · have:(Fq "int" != Fq "tuple")=true:=by decide
      rw [this];exact q
  · refine jy fun x y hx hy Q' E' q=>?_
    rw [HY] at hx hy;exact qf (hv' _ (Hq hx).2) (hv' _ (Hq hy).2) q
theorem uZ:cz fun x y=>decide (KY x.1<KY y.1):=by
 constructor
 ·intro x y h;have h:=of_decide_eq_true h;exact decide_eq_false (by omega)
 ·intro x y z h1 h2;have h1:=of_decide_eq_false h1;have h2:=of_decide_eq_false h2;exact decide_eq_false (by omega)
theorem sC {a:Ω} {vs:List Δ} {ns:List Int} (hv:Ko vs ns):sV prog w s a vs oneType' (fun x=>x∈(Gy vs).toList) (fun x y=>decide (KY x.1<KY y.1)):=by
 intro A E h keep;refine ⟨fun h2 Q q=>?_,?_⟩
 ·match vs,hv,h2 with
  | v₁ :: v₂ :: dO, hv, _ => rw [keyKind_ints hv]; exact B_ q
  | [], _, h2 => simp at h2
  | [_], _, h2 => simp at h2
 ·refine jy fun x y hx hy Q' E' q=>?_;rw [HY] at hx hy;obtain ⟨i,t,e1⟩:=hv.all _ (Hq hx).2;obtain ⟨j,u,e2⟩:=hv.all _ (Hq hy).2;rw [e1,e2] at q ⊢;rw [keyLt'_oneType];exact oneLt_int q
end
end Ts
namespace L2
open PySem PySem.Spec PyProof.Rows
def PtV (H:Hp) (v:V) (p:Int×Int):Prop:=∃ b,v=.ref b/\H b=some (.tup [.int p.1,.int p.2])
def qt (K:W.Frag) (vs:List V) (H:Hp) (Q:VK):Prop:=∃ a xs,vs=[.ref a]/\SqL K H a xs /\
  ((∃ g:V->Int×Int,(∀ v∈xs,PtV H v (g v))/\∀ (l:Ω) (ys:List V),H l=none->ys.Perm xs->ys.Pairwise (fun x y=>Ts.ple (g x) (g y))->Q (.ref l) (upd H l (.lst ys))) \/
   (∃ ns:List Int,xs=ns.map V.int/\∀ (l:Ω) (ms:List Int),H l=none->ms.Perm ns->ms.Pairwise (·<=·)->Q (.ref l) (upd H l (.lst (ms.map V.int)))))
theorem dR {h:FD} {vs:List Δ} {out:Array Δ} {b:Ω} {o:HC} (q:h.get? b=some o):(Kh h vs out).get? b=some o:=by
 have hlt:b<h.objs.size:=EC q;have hsz:((h.push (E8 "list" #[] 0)).update h.objs.size (Er (·++vs.toArray))).objs.size=h.objs.size+1:=by rw [GV,IM]
 unfold Kh MC;rw [HL _ _ _ _ (EH (F3 hlt))];refine χ _ (χ _ ?_);rw [HL _ _ _ _ (EH (F3 hlt))];refine χ _ ?_;rw [HL _ _ _ _ (EH hlt)];exact χ _ q
theorem eV {h:FD} {vs:List Δ} {out:Array Δ}:∃ n,(Kh h vs out).get? (h.objs.size+1)=some { cls:=.type "list",data:=.seq out n }:=by
 have hsz:((h.push (E8 "list" #[] 0)).update h.objs.size (Er (·++vs.toArray))).objs.size=h.objs.size+1:=by rw [GV,IM]
 unfold Kh MC;have h1:(((h.push (E8 "list" #[] 0)).update h.objs.size (Er (·++vs.toArray))).push (E8 "list" vs.toArray 0)).get? (h.objs.size+1)=some (E8 "list" vs.toArray 0):=by rw [<- hsz]; exact EB _ rfl
 have h2:=Hv h1 (fun _=>#[]);exact ⟨_,Hv (χ _ (χ _ h2)) (fun _=>out)⟩
theorem Vals.intsAre:∀ {ns:List Int} {us:List Δ},Vals (ns.map V.int) us->Ko us ns
 | [],_,.nil=>.nil
 | n::ns,_,.cons ⟨t,e⟩ r=>by subst e; exact .cons n t (Vals.intsAre r)
theorem jr:∀ {ns:List Int} {us:List Δ},Ko us ns->Vals (ns.map V.int) us
 | _,_,.nil=>.nil
 | _,_,.cons n t h=>.cons ⟨t,rfl⟩ (jr h)
noncomputable def toV:Δ->V
 | .ref b=>.ref b
 | _=>.non
theorem Vals.refs:∀ {xs:List V} {us:List Δ},Vals xs us->(∀ v∈xs,∃ b,v=.ref b)->us.map toV=xs/\∀ u∈us,∃ b,u=.ref b
 | _,_,.nil,_=>⟨rfl,fun u hu=>nomatch hu⟩
 | v::xs,u::us,.cons r rs,h=>by
  obtain ⟨b,rfl⟩:=h v θ;have r:u=E3 b:=r;subst r;obtain ⟨h1,h2⟩:=Vals.refs rs fun v hv=>h v (Θ _ hv);refine ⟨by rw [EW,h1]; rfl,fun u hu=>?_⟩;rcases Bb.mp hu with rfl | hu
  ·exact ⟨b,rfl⟩
  ·exact h2 u hu
theorem gF:∀ {us:List Δ},(∀ u∈us,∃ b,u=.ref b)->Vals (us.map toV) us
 | [],_=>.nil
 | u::us,h=>by
  obtain ⟨b,rfl⟩:=h u θ;exact .cons rfl (gF fun u hu=>h u (Θ _ hu))
theorem cW {X:Cx} (K:W.Frag) (hK:X.K=K):bL X (.builtin "sorted") (qt K):=by
 subst hK;intro pins s σ H xs us Q I hv h;obtain ⟨a,ys,rfl,hl,h⟩:=h
 cases hv with
 | cons r hv =>
 cases hv
 cases r;obtain ⟨its,rv,pl,hz⟩:=I.list hl;have hlen:=rv.length;have hz':its.length<=sizeLine:=by omega
 rcases h with ⟨g,hg,h⟩ | ⟨ns,rfl,h⟩
 ·obtain ⟨em,hr⟩:=rv.refs fun v hv=>let ⟨b,e,_⟩:=hg v hv; ⟨b,e⟩
  have hp:∀ u∈its,∃ b,u=.ref b/\b<s.heap.objs.size/\Ts.aX s.heap u (g (toV u)):=by
   intro u hu;obtain ⟨b,rfl⟩:=hr u hu;have hm:V.ref b∈ys:=by rw [<- em]; exact EE.mpr ⟨_,hu,rfl⟩
   obtain ⟨b',e,hb⟩:=hg _ hm
   cases e;obtain ⟨_,its2,r2,o,ho,hc,n,hd⟩:=I.hok _ _ hb;refine ⟨b,rfl,EC ho,?_⟩
   cases r2 with
   | cons q1 r2 =>
   obtain ⟨t1,rfl⟩:=q1
   cases r2 with
   | cons q2 r2 =>
   obtain ⟨t2,rfl⟩:=q2
   cases r2;exact ⟨b,o,t1,t2,n,rfl,ho,hc,hd⟩
  refine Ts.kY (κ:=KC true) (S:=fun x=>x∈(Gy its).toList) (lt:=fun x y=>Ts.plt (g (toV x.1)) (g (toV y.1))) (Ts.rD fun u=>g (toV u)) pl.isList hz' (fun h' keep=>Ts.qL (g:=fun u=>g (toV u)) fun u hu=>?_) (fun x hx=>hx) fun out hperm hs=>?_
  ·obtain ⟨b,rfl,hlt,b',o,t1,t2,n,e,h1,h2,h3⟩:=hp u hu
   cases e;exact ⟨⟨b,o,t1,t2,n,rfl,keep _ _ h1,h2,h3⟩,fun e=>by injection e with e; rw [e] at hlt; exact absurd hlt (Ka.mpr (G3 _))⟩
  ·have hperm':out.toList.Perm (its.zip its):=by rw [<- HY]; exact GC.mp hperm
   have hmem:∀ p∈out.toList,p.1=p.2/\p.1∈its:=fun p hp'=>Hq (hperm'.mem_iff.mp hp');have e2:(out.map (·.2)).toList=out.toList.map (·.1):=by rw [JT]; exact GK fun p hp'=>(hmem p hp').1.symm
   have pm:(out.toList.map (·.1)).Perm its:=by
    have:=hperm'.map JV
    rw [K1 (A_ _)] at this;exact this
   have hn:H (s.heap.objs.size+1)=none:=I.hok.fresh (by omega);have q:=h (s.heap.objs.size+1) ((out.toList.map (·.1)).map toV) hn (by rw [<- em]; exact pm.map toV) (by
    rw [FP,FY];exact hs.imp fun {x y} hxy=>Ts.bR.mp hxy)
   obtain ⟨n,hnew⟩:=eV (h:=s.heap) (vs:=its) (out:=out.map (·.2));refine ⟨.ref _,_,I.laid (t':=s.toks) (o:=.lst ((out.toList.map (·.1)).map toV)) (fun b u q=>dR q) (by omega) ?_,rfl,q⟩;refine ⟨by rw [Aj,pm.length_eq]; exact hz',out.toList.map (·.1),n,gF fun u hu=>hr u (pm.mem_iff.mp hu),?_⟩;rw [hnew,<- e2,Ig]
 ·have hI:=Vals.intsAre rv;refine Ts.kY (κ:=oneType') (S:=fun x=>x∈(Gy its).toList) (lt:=fun x y=>decide (KY x.1<KY y.1)) Ts.uZ pl.isList hz' (fun h' keep=>Ts.sC hI) (fun x hx=>hx) fun out hperm hs=>?_;have hperm':out.toList.Perm (its.zip its):=by rw [<- HY]; exact GC.mp hperm
  have hmem:∀ p∈out.toList,p.1=p.2/\p.1∈its:=fun p hp'=>Hq (hperm'.mem_iff.mp hp');have e2:(out.map (·.2)).toList=out.toList.map (·.1):=by rw [JT]; exact GK fun p hp'=>(hmem p hp').1.symm
  have pm:(out.toList.map (·.1)).Perm its:=by
   have:=hperm'.map JV
   rw [K1 (A_ _)] at this;exact this
  have hn:H (s.heap.objs.size+1)=none:=I.hok.fresh (by omega);have hI2:=intsAre_map (out.toList.map (·.1)) fun v hv=>hI.all v (pm.mem_iff.mp hv);have q:=h (s.heap.objs.size+1) ((out.toList.map (·.1)).map KY) hn (by have:=pm.map KY; rw [hI.nums] at this; exact this) (by
   rw [FP,FY];exact hs.imp fun {x y} hxy=>by have:¬ KY y.1<KY x.1:=of_decide_eq_false hxy; show KY x.1<=KY y.1; omega)
  obtain ⟨n,hnew⟩:=eV (h:=s.heap) (vs:=its) (out:=out.map (·.2));refine ⟨.ref _,_,I.laid (t':=s.toks) (o:=.lst (((out.toList.map (·.1)).map KY).map V.int)) (fun b u q=>dR q) (by omega) ?_,rfl,q⟩;refine ⟨by rw [Aj,Aj,pm.length_eq]; exact hz',out.toList.map (·.1),n,jr hI2,?_⟩;rw [hnew,<- e2,Ig]
theorem qA {K:W.Frag} {a:Ω} {xs:List V} {H:Hp} {Q:VK} (g:V->Int×Int) (e:H a=some (.lst xs)) (hg:∀ v∈xs,PtV H v (g v)) (h:∀ (l:Ω) (ys:List V),H l=none->ys.Perm xs->ys.Pairwise (fun x y=>Ts.ple (g x) (g y))->Q (.ref l) (upd H l (.lst ys))):qt K [.ref a] H Q:=⟨a,xs,rfl,SqL.of e,.inl ⟨g,hg,h⟩⟩
theorem kH {K:W.Frag} {a:Ω} {ns:List Int} {H:Hp} {Q:VK} (e:H a=some (.lst (ns.map V.int))) (h:∀ (l:Ω) (ms:List Int),H l=none->ms.Perm ns->ms.Pairwise (·<=·)->Q (.ref l) (upd H l (.lst (ms.map V.int)))):qt K [.ref a] H Q:=⟨a,_,rfl,SqL.of e,.inr ⟨ns,rfl,h⟩⟩
end L2
namespace Sm
noncomputable abbrev Pnt:=Int×Int
structure Gr (nb:Pnt->List Pnt):Prop where
 nd:∀ a,(nb a).Nodup
 le2:∀ a,(nb a).length<=2
 sym:∀ {a b},b∈nb a->a∈nb b
 irr:∀ a,a∉nb a
noncomputable def oth (nb:Pnt->List Pnt) (a b:Pnt):List Pnt:=(nb b).filter fun c=>!decide (c=a)
def Go (nb:Pnt->List Pnt):Pnt->Pnt->List Pnt->Prop
 | _,_,[]=>True
 | a,b,c::l=>oth nb a b=[c]/\Go nb b c l
noncomputable def fin:Pnt->Pnt->List Pnt->Pnt×Pnt
 | a,b,[]=>(a,b)
 | _,b,c::l=>fin b c l
section
variable {nb:Pnt->List Pnt}
theorem aK {a b c:Pnt}:c∈oth nb a b↔c∈nb b/\c≠a:=by
 unfold oth;rw [FN,Bool.not_eq_true',decide_eq_false_iff_not]
theorem eY:∀ (a b:Pnt) (l:List Pnt) (c:Pnt),fin a b (l++[c])=((fin a b l).2,c)
 | a,b,[],c=>rfl
 | a,b,d::l,c=>eY b d l c
theorem cD:∀ {a b:Pnt} {l:List Pnt} {c:Pnt},Go nb a b (l++[c])↔Go nb a b l/\oth nb (fin a b l).1 (fin a b l).2=[c]
 | a,b,[],c=>⟨fun h=>⟨trivial,h.1⟩,fun h=>⟨h.2,trivial⟩⟩
 | a,b,d::l,c=>⟨fun h=>⟨⟨h.1,(cD.mp h.2).1⟩,(cD.mp h.2).2⟩,fun h=>⟨h.1.1,cD.mpr ⟨h.1.2,h.2⟩⟩⟩
theorem bP:∀ (a b:Pnt) (l:List Pnt),(fin a b l).2∈b::l/\(fin a b l).1∈a::b::l
 | a,b,[]=>⟨θ,θ⟩
 | a,b,c::l=>⟨Θ _ (bP b c l).1,Θ _ (bP b c l).2⟩
theorem eX:∀ (a b:Pnt) (l:List Pnt),(a::b::l).getLast?=some (fin a b l).2
 | a,b,[]=>rfl
 | a,b,c::l=>by rw [Ja]; exact eX b c l
theorem gy {a b c:Pnt} {l:List Pnt} (g:Go nb a b (c::l)):c∈nb b/\c≠a:=by
 have:c∈oth nb a b:=by rw [g.1]; exact Ξ.mpr rfl
 exact aK.mp this
theorem cM (G:Gr nb):∀ {a b:Pnt} {l:List Pnt},b∈nb a->Go nb a b l->(fin a b l).2∈nb (fin a b l).1
 | a,b,[],h,_=>h
 | a,b,c::l,h,g=>cM G (l:=l) (gy g).1 g.2
theorem two_of (G:Gr nb) {a x y z:Pnt} (hx:x∈nb a) (hy:y∈nb a) (hz:z∈nb a) (hxy:x≠y):z=x\/z=y:=by
 have h2:=G.le2 a;have hn:=G.nd a
 match hq:nb a,hx,hy,hz,h2,hn with
 | [],hx,_,_,_,_=>cases hx
 | [p],hx,hy,_,_,_=>exact absurd ((Ξ.mp hx).trans (Ξ.mp hy).symm) hxy
 | [p,q],hx,hy,hz,_,_ =>
  simp only [Bb,Ey,or_false] at hx hy hz;rcases hx with rfl | rfl<;>rcases hy with rfl | rfl<;>rcases hz with rfl | rfl<;>first | exact .inl rfl | exact .inr rfl | exact absurd rfl hxy
 | p::q::r::l,_,_,_,h2,_=>simp at h2
theorem hG (G:Gr nb) {a b:Pnt} (h:a∈nb b):oth nb a b=[]\/∃ c,oth nb a b=[c]:=by
 have hl:(oth nb a b).length<=1:=by
  match hq:oth nb a b with
  | [] => exact En _
  | [c] => exact A_ _
  | c :: d :: l =>
   have hn:(oth nb a b).Nodup:=Es (List.filter_sublist) (G.nd b);have hc:c∈oth nb a b:=by rw [hq]; exact θ
   have hd:d∈oth nb a b:=by rw [hq]; exact Θ _ θ
   have ne:c≠d:=by
    rw [hq] at hn;intro e;exact (EO.mp hn).1 (by rw [e]; exact θ)
   rcases two_of G (aK.mp hc).1 (aK.mp hd).1 h ne with e | e
   ·exact absurd e.symm (aK.mp hc).2
   ·exact absurd e.symm (aK.mp hd).2
 match hq:oth nb a b,hl with
 | [],_=>exact .inl rfl
 | [c],_=>exact .inr ⟨c,rfl⟩
 | c::d::l,hl=>simp at hl
theorem nO (G:Gr nb) {a b c:Pnt} (h:a∈nb b) (hc:c∈nb b) (hne:c≠a):oth nb a b=[c]:=by
 rcases hG G h with e | ⟨d,e⟩
 ·have:c∈oth nb a b:=aK.mpr ⟨hc,hne⟩
  rw [e] at this; cases this
 ·have:c∈oth nb a b:=aK.mpr ⟨hc,hne⟩
  rw [e] at this;rw [e,Ξ.mp this]
theorem xR (G:Gr nb) {a b c:Pnt} (h:a∈nb b) (e:oth nb a b=[c]):oth nb c b=[a]:=by
 have hc:c∈oth nb a b:=by rw [e]; exact Ξ.mpr rfl
 exact nO G (aK.mp hc).1 h fun z=>(aK.mp hc).2 z.symm
theorem cm (G:Gr nb) {a b:Pnt} (hb:b∈nb a):∀ (l:List Pnt),Go nb a b l->a∉l->(a::b::l).Nodup:=by
 intro l
 induction hl:l.length generalizing l with
 | zero =>
  intro _ _;have:l=[]:=FT hl
  subst this;exact EO.mpr ⟨fun h=>G.irr a (by rw [Ξ.mp h] at hb ⊢; exact hb),EO.mpr ⟨(fun h=>nomatch h),GD⟩⟩
 | succ n ih =>
  intro g ha;obtain ⟨m,z,rfl⟩:∃ m z,l=m++[z]:=⟨l.dropLast,l.getLast (fun e=>by rw [e] at hl; cases hl),(Ff _).symm⟩
  obtain ⟨g1,g2⟩:=cD.mp g;have hm:m.length=n:=by rw [Bd] at hl; simpa using hl
  have ham:a∉m:=fun h=>ha (E1 _ h);have nd:=ih m hm g1 ham;have hz:z∈oth nb (fin a b m).1 (fin a b m).2:=by rw [g2]; exact Ξ.mpr rfl
  have hz1:=(aK.mp hz).1;have hz2:=(aK.mp hz).2;have hza:z≠a:=fun e=>ha (by rw [e]; exact ED _ (Ξ.mpr rfl))
  -- z is none of the points before
  have key:∀ (a b:Pnt) (m:List Pnt),b∈nb a->Go nb a b m->(a::b::m).Nodup->z∈nb (fin a b m).2->z≠(fin a b m).1->z≠a->z∉b::m:=by
   intro a b m
   induction m generalizing a b with
   | nil =>
    intro hb _ _ hz1 hz2 hza hm;rw [Ξ.mp hm] at hz1;exact G.irr b hz1
   | cons c m ih2 =>
    intro hb g nd hz1 hz2 hza hm;have hc:c∈oth nb a b:=by rw [g.1]; exact Ξ.mpr rfl
    have nd2:=(EO.mp nd).2;rcases Bb.mp hm with e | hm
    ·-- z is b: its neighbours are a and c
     have hy:=G.sym hz1;rw [e] at hy;have hne:a≠c:=fun x=>(aK.mp hc).2 x.symm;rcases two_of G (G.sym hb) (aK.mp hc).1 hy hne with q | q
     ·have:=(bP b c m).1
      rw [show (fin a b (c::m))=fin b c m from rfl] at q;rw [q] at this;exact (EO.mp nd).1 (Θ _ this)
     ·rw [show (fin a b (c::m))=fin b c m from rfl] at q hz2
      match m,q,nd2,hz2 with
      | [],q,_,hz2=>exact hz2 e
      | d::m,q,nd2,_ =>
       have:=(bP c d m).1
       rw [show fin b c (d::m)=fin c d m from rfl] at q;rw [q] at this;exact (EO.mp (EO.mp nd2).2).1 this
    ·by_cases hzb:z=b
     ·rw [hzb] at hm;exact (EO.mp nd2).1 hm
     ·exact ih2 b c (aK.mp hc).1 g.2 nd2 hz1 hz2 hzb hm
  have hnot:=key a b m hb g1 nd hz1 hz2 hza
  show ((a::b::m)++[z]).Nodup
  rw [FZ];refine ⟨nd,EO.mpr ⟨(fun h=>nomatch h),GD⟩,fun x hx y hy e=>?_⟩;rw [Ξ.mp hy] at e;rw [e] at hx;rcases Bb.mp hx with q | q
  ·exact hza q
  ·exact hnot q
theorem jk:∀ {a b:Pnt} {l l':List Pnt},Go nb a b l->Go nb a b l'->oth nb (fin a b l).1 (fin a b l).2=[]->oth nb (fin a b l').1 (fin a b l').2=[]->l=l'
 | _,_,[],[],_,_,_,_=>rfl
 | a,b,[],c::l',_,g,e,_=>by have h:=g.1; have e:oth nb a b=[]:=e; rw [e] at h; cases h
 | a,b,c::l,[],g,_,_,e=>by have h:=g.1; have e:oth nb a b=[]:=e; rw [e] at h; cases h
 | _,_,c::l,c'::l',g,g',e,e'=>by
  have h:=g.1.symm.trans g'.1
  cases h;rw [jk g.2 g'.2 e e']
theorem iD {s:Pnt}:∀ {a b:Pnt} {l l':List Pnt},Go nb a b l->Go nb a b l'->s∉l->s∉l'->oth nb (fin a b l).1 (fin a b l).2=[s]->oth nb (fin a b l').1 (fin a b l').2=[s]->l=l'
 | _,_,[],[],_,_,_,_,_,_=>rfl
 | a,b,[],c::l',_,g,_,n,e,_=>by
  have h:=g.1;have e:oth nb a b=[s]:=e;rw [e] at h; cases h;exact absurd θ n
 | a,b,c::l,[],g,_,n,_,_,e=>by
  have h:=g.1;have e:oth nb a b=[s]:=e;rw [e] at h; cases h;exact absurd θ n
 | _,_,c::l,c'::l',g,g',n,n',e,e'=>by
  have h:=g.1.symm.trans g'.1
  cases h;rw [iD g.2 g'.2 (fun h=>n (Θ _ h)) (fun h=>n' (Θ _ h)) e e']
structure jt (nb:Pnt->List Pnt) (a b:Pnt) (l:List Pnt):Prop where
 adj:b∈nb a
 go:Go nb a b l
 one:(nb a).length=1
 stop:oth nb (fin a b l).1 (fin a b l).2=[]
 nd:(a::b::l).Nodup
structure Rnd (nb:Pnt->List Pnt) (a b:Pnt) (l:List Pnt):Prop where
 adj:b∈nb a
 go:Go nb a b l
 stop:oth nb (fin a b l).1 (fin a b l).2=[a]
 nd:(a::b::l).Nodup
def rg (nb:Pnt->List Pnt) (L:List Pnt):Prop:=∀ x∈L,∀ y∈nb x,y∈L
theorem kW (G:Gr nb):∀ {a b:Pnt} {l:List Pnt},b∈nb a->Go nb a b l->∀ x∈b::l,x≠(fin a b l).2\/oth nb (fin a b l).1 (fin a b l).2=[]->∀ y∈nb x,y∈a::b::l
 | a,b,[],hb,_,x,hx,h,y,hy=>by
  have e:=Ξ.mp hx;rcases h with h | h
  ·exact absurd e h
  ·rw [e] at hy;by_cases hya:y=a
   ·rw [hya]; exact θ
   ·have:y∈oth nb a b:=aK.mpr ⟨hy,hya⟩
    rw [show oth nb a b=[] from h] at this; cases this
 | a,b,c::l,hb,g,x,hx,h,y,hy=>by
  have hc:c∈oth nb a b:=by rw [g.1]; exact Ξ.mpr rfl
  rcases Bb.mp hx with e | hx
  ·rw [e] at hy;rcases two_of G (G.sym hb) (aK.mp hc).1 hy (fun x=>(aK.mp hc).2 x.symm) with q | q
   ·rw [q]; exact θ
   ·rw [q]; exact Θ _ (Θ _ θ)
  ·exact Θ _ (kW G (aK.mp hc).1 g.2 x hx h y hy)
theorem jt.shut (G:Gr nb) {a b:Pnt} {l:List Pnt} (h:jt nb a b l):rg nb (a::b::l):=by
 intro x hx y hy;rcases Bb.mp hx with e | hx
 ·rw [e] at hy;have h1:=h.one
  match hq:nb a,h1 with
  | [c], _ =>
   have e1:=h.adj;rw [hq] at hy e1;rw [Ξ.mp hy,<- Ξ.mp e1];exact Θ _ θ
 ·exact kW G h.adj h.go x hx (.inr h.stop) y hy
theorem Rnd.last (G:Gr nb) {a b:Pnt} {l:List Pnt} (h:Rnd nb a b l):(fin a b l).2∈nb a/\(fin a b l).2≠b:=by
 have ha:a∈oth nb (fin a b l).1 (fin a b l).2:=by rw [h.stop]; exact Ξ.mpr rfl
 refine ⟨G.sym (aK.mp ha).1,fun e=>?_⟩
 match l,h,ha,e with
 | [],h,ha,_=>exact (aK.mp ha).2 rfl
 | c::l,h,_,e =>
  have:=(bP b c l).1
  rw [show fin a b (c::l)=fin b c l from rfl] at e;rw [e] at this;exact (EO.mp (EO.mp h.nd).2).1 this
theorem Rnd.shut (G:Gr nb) {a b:Pnt} {l:List Pnt} (h:Rnd nb a b l):rg nb (a::b::l):=by
 intro x hx y hy;obtain ⟨h1,h2⟩:=h.last G;have hl:(fin a b l).2∈a::b::l:=Θ _ (bP a b l).1;rcases Bb.mp hx with e | hx
 ·rw [e] at hy;rcases two_of G h.adj h1 hy (GH h2) with q | q
  ·rw [q]; exact Θ _ θ
  ·rw [q]; exact hl
 ·by_cases hz:x=(fin a b l).2
  ·rw [hz] at hy;by_cases hyq:y=(fin a b l).1
   ·rw [hyq]; exact (bP a b l).2
   ·have:y∈oth nb (fin a b l).1 (fin a b l).2:=aK.mpr ⟨hy,hyq⟩
    rw [h.stop] at this;rw [Ξ.mp this]; exact θ
  ·exact kW G h.adj h.go x hx (.inl hz) y hy
theorem gS (G:Gr nb) {L:List Pnt} (hS:rg nb L):∀ {a b:Pnt} {l:List Pnt},b∈nb a->Go nb a b l->∀ q∈a::b::l,q∈L->∀ x∈a::b::l,x∈L
 | a,b,[],hb,_,q,hq,hqL,x,hx=>by
  have hab:a∈L/\b∈L:=by
   rcases Bb.mp hq with e | hq
   ·rw [e] at hqL; exact ⟨hqL,hS a hqL b hb⟩
   ·rw [Ξ.mp hq] at hqL; exact ⟨hS b hqL a (G.sym hb),hqL⟩
  rcases Bb.mp hx with e | hx
  ·rw [e]; exact hab.1
  ·rw [Ξ.mp hx]; exact hab.2
 | a,b,c::l,hb,g,q,hq,hqL,x,hx=>by
  have hc:c∈oth nb a b:=by rw [g.1]; exact Ξ.mpr rfl
  have hc:=(aK.mp hc).1;rcases Bb.mp hq with e | hq
  ·rw [e] at hqL;have hbL:=hS a hqL b hb;rcases Bb.mp hx with e | hx
   ·rw [e]; exact hqL
   ·exact gS G hS hc g.2 b θ hbL x hx
  ·rcases Bb.mp hx with e | hx
   ·have hbL:=gS G hS hc g.2 q hq hqL b θ;rw [e]; exact hS b hbL a (G.sym hb)
   ·exact gS G hS hc g.2 q hq hqL x hx
theorem Rnd.two (G:Gr nb) {a b:Pnt} {l:List Pnt} (h:Rnd nb a b l):∀ x∈a::b::l,(nb x).length=2:=by
 have two:∀ {x y z:Pnt},y∈nb x->z∈nb x->y≠z->(nb x).length=2:=by
  intro x y z hy hz hne;have h2:=G.le2 x
  match hq:nb x,hy,hz,h2 with
  | [], hy, _, _ => cases hy
  | [p], hy, hz, _ => exact absurd ((Ξ.mp hy).trans (Ξ.mp hz).symm) hne
  | [p, q], _, _, _ => rfl
  | p :: q :: r :: m, _, _, h2 => simp at h2
 obtain ⟨h1,h2⟩:=h.last G
 have mid:∀ {a b:Pnt} {l:List Pnt},b∈nb a->Go nb a b l->∀ x∈b::l,x≠(fin a b l).2->(nb x).length=2:=by
  intro a b l
  induction l generalizing a b with
  | nil => intro _ _ x hx hne; exact absurd (Ξ.mp hx) hne
  | cons c l ih =>
   intro hb g x hx hne;have hc:c∈oth nb a b:=by rw [g.1]; exact Ξ.mpr rfl
   rcases Bb.mp hx with e | hx
   ·rw [e]; exact two (G.sym hb) (aK.mp hc).1 fun z=>(aK.mp hc).2 z.symm
   ·exact ih (aK.mp hc).1 g.2 x hx hne
 intro x hx;rcases Bb.mp hx with e | hx
 ·rw [e]; exact two h.adj h1 (GH h2)
 ·by_cases hz:x=(fin a b l).2
  ·rw [hz];have ha:a∈oth nb (fin a b l).1 (fin a b l).2:=by rw [h.stop]; exact Ξ.mpr rfl
   exact two (G.sym (cM G h.adj h.go)) (aK.mp ha).1 fun z=>(aK.mp ha).2 z.symm
  ·exact mid h.adj h.go x hx hz
end
end Sm
namespace Sm
section
variable {nb:Pnt->List Pnt}
theorem two_len (G:Gr nb) {x y z:Pnt} (hy:y∈nb x) (hz:z∈nb x) (hne:y≠z):(nb x).length=2:=by
 have h2:=G.le2 x
 match hq:nb x,hy,hz,h2 with
 | [],hy,_,_=>cases hy
 | [p],hy,hz,_=>exact absurd ((Ξ.mp hy).trans (Ξ.mp hz).symm) hne
 | [p,q],_,_,_=>rfl
 | p::q::r::m,_,_,h2=>simp at h2
theorem B7 (G:Gr nb):∀ {a b:Pnt} {l:List Pnt},b∈nb a->Go nb a b l->∀ x∈b::l,x≠(fin a b l).2->(nb x).length=2:=by
 intro a b l
 induction l generalizing a b with
 | nil=>intro _ _ x hx hne; exact absurd (Ξ.mp hx) hne
 | cons c l ih =>
  intro hb g x hx hne;have hc:=gy g;rcases Bb.mp hx with e | hx
  ·rw [e]; exact two_len G (G.sym hb) hc.1 fun z=>hc.2 z.symm
  ·exact ih hc.1 g.2 x hx hne
theorem jt.lastOne (G:Gr nb) {a b:Pnt} {l:List Pnt} (h:jt nb a b l):nb (fin a b l).2=[(fin a b l).1]:=by
 have h1:=G.sym (cM G h.adj h.go);have hs:=h.stop;have all:∀ y∈nb (fin a b l).2,y=(fin a b l).1:=fun y hy=>by
  by_cases e:y=(fin a b l).1
  ·exact e
  ·have:y∈oth nb (fin a b l).1 (fin a b l).2:=aK.mpr ⟨hy,e⟩
   rw [hs] at this; cases this
 have hn:=G.nd (fin a b l).2
 match hq:nb (fin a b l).2,h1,all,hn with
 | [],h1,_,_=>cases h1
 | [p],_,all,_=>rw [all p θ]
 | p::q::r,_,all,hn=>exact absurd ((all p θ).trans (all q (Θ _ θ)).symm) fun e=>(EO.mp hn).1 (by rw [e]; exact θ)
theorem nX (G:Gr nb):∀ {a b:Pnt} {l:List Pnt},b∈nb a->Go nb a b l->∃ m,(a::b::l).reverse=(fin a b l).2::(fin a b l).1::m/\Go nb (fin a b l).2 (fin a b l).1 m/\fin (fin a b l).2 (fin a b l).1 m=(b,a)
 | a,b,[],hb,_=>⟨[],rfl,trivial,rfl⟩
 | a,b,c::l,hb,g=>by
  have hc:=gy g;obtain ⟨m,h1,h2,h3⟩:=nX G hc.1 g.2;refine ⟨m++[a],?_,?_,?_⟩
  ·rw [HD,h1]; rfl
  ·refine cD.mpr ⟨h2,?_⟩;rw [show fin a b (c::l)=fin b c l from rfl,h3];exact xR G (G.sym hb) g.1
  ·rw [eY,show fin a b (c::l)=fin b c l from rfl,h3]
theorem jt.rev (G:Gr nb) {a b:Pnt} {l:List Pnt} (h:jt nb a b l):∃ m,(a::b::l).reverse=(fin a b l).2::(fin a b l).1::m/\jt nb (fin a b l).2 (fin a b l).1 m/\(fin (fin a b l).2 (fin a b l).1 m).2=a:=by
 obtain ⟨m,h1,h2,h3⟩:=nX G h.adj h.go;have h4:=h.lastOne G;refine ⟨m,h1,⟨by rw [h4]; exact Ξ.mpr rfl,h2,by rw [h4]; rfl,?_,?_⟩,by rw [h3]⟩
 ·rw [h3];have h5:=h.one;have h6:=h.adj
  match hq:nb a,h5,h6 with
  | [c], _, h6 =>
   unfold oth;rw [hq,Ξ.mp h6];simp
 ·rw [<- h1]; exact (List.reverse_perm _).nodup_iff.mpr h.nd
structure bz (nb:Pnt->List Pnt) (f:Bool) (L:List Pnt):Prop where
 op:f=false->∃ a b l,L=a::b::l/\jt nb a b l/\Ts.plt a (fin a b l).2=true
 rd:f=true->∃ a b l,L=a::b::l/\Rnd nb a b l/\(∀ x∈L,Ts.ple a x)/\b=(a.1+1,a.2)
theorem bz.path {f:Bool} {L:List Pnt} (h:bz nb f L):∃ a b l,L=a::b::l/\b∈nb a/\Go nb a b l/\L.Nodup:=by
 cases f with
 | false=>obtain ⟨a,b,l,e,o,_⟩:=h.op rfl; exact ⟨a,b,l,e,o.adj,o.go,by rw [e]; exact o.nd⟩
 | true=>obtain ⟨a,b,l,e,o,_⟩:=h.rd rfl; exact ⟨a,b,l,e,o.adj,o.go,by rw [e]; exact o.nd⟩
theorem bz.shut (G:Gr nb) {f:Bool} {L:List Pnt} (h:bz nb f L):rg nb L:=by
 cases f with
 | false=>obtain ⟨a,b,l,rfl,o,_⟩:=h.op rfl; exact o.shut G
 | true=>obtain ⟨a,b,l,rfl,o,_⟩:=h.rd rfl; exact o.shut G
theorem bz.sub (G:Gr nb) {f f':Bool} {L L':List Pnt} (h:bz nb f L) (h':bz nb f' L') {q:Pnt} (hq:q∈L) (hq':q∈L'):∀ x∈L',x∈L:=by
 obtain ⟨a,b,l,rfl,hb,g,_⟩:=h'.path;exact gS G (h.shut G) hb g q hq' hq
theorem kB {p q:Pnt} (h1:Ts.ple p q) (h2:Ts.ple q p):p=q:=by
 unfold Ts.ple at h1 h2;exact Fg (by omega) (by omega)
theorem bz.uniq (G:Gr nb) {f f':Bool} {L L':List Pnt} (h:bz nb f L) (h':bz nb f' L') {q:Pnt} (hq:q∈L) (hq':q∈L'):f=f'/\L=L':=by
 have s1:=h.sub G h' hq hq';have s2:=h'.sub G h hq' hq
 cases f with
 | false =>
  obtain ⟨a,b,l,rfl,o,hlt⟩:=h.op rfl
  have ends:∀ x∈a::b::l,(nb x).length=1->x=a\/x=(fin a b l).2:=by
   intro x hx h1;rcases Bb.mp hx with e | hx
   ·exact .inl e
   ·by_cases e:x=(fin a b l).2
    ·exact .inr e
    ·have:=B7 G o.adj o.go x hx e
     omega
  cases f' with
  | false =>
   obtain ⟨a',b',l',rfl,o',hlt'⟩:=h'.op rfl;refine ⟨rfl,?_⟩;have hl':(fin a' b' l').2∈a'::b'::l':=Θ _ (bP a' b' l').1
   have ea:a'=a:=by
    rcases ends a' (s1 a' θ) o'.one with e | e
    ·exact e
    ·rcases ends (fin a' b' l').2 (s1 _ hl') (by rw [o'.lastOne G]; rfl) with e2 | e2
     ·rw [e2,e] at hlt';have h1:=Ts.fg.mp hlt;have h2:=Ts.fg.mp hlt';omega
     ·rw [<- e] at e2;have:=(bP a' b' l').1
      rw [e2] at this;exact absurd this (EO.mp o'.nd).1
   subst ea
   have eb:b'=b:=by
    have h1:=o.one;have h2:=o.adj;have h3:=o'.adj
    match hz:nb a',h1,h2,h3 with
    | [c],_,h2,h3=>rw [Ξ.mp h2,Ξ.mp h3]
   subst eb;rw [jk o.go o'.go o.stop o'.stop]
  | true =>
   obtain ⟨a',b',l',rfl,o',_⟩:=h'.rd rfl;have:=o'.two G a (s2 a θ)
   have:=o.one
   omega
 | true =>
  obtain ⟨a,b,l,rfl,o,hmin,hb⟩:=h.rd rfl
  cases f' with
  | false =>
   obtain ⟨a',b',l',rfl,o',hlt'⟩:=h'.op rfl;have:=o.two G a' (s1 a' θ)
   have:=o'.one
   omega
  | true =>
   obtain ⟨a',b',l',rfl,o',hmin',hb'⟩:=h'.rd rfl;refine ⟨rfl,?_⟩;have ea:a'=a:=kB (hmin' a (s2 a θ)) (hmin a' (s1 a' θ));subst ea;subst hb hb';have n1:=EO.mp o.nd;have n2:=EO.mp o'.nd;rw [iD o.go o'.go (fun z=>n1.1 (Θ _ z)) (fun z=>n2.1 (Θ _ z)) o.stop o'.stop]
structure Wlk (nb:Pnt->List Pnt) (a b:Pnt) (l:List Pnt):Prop where
 adj:b∈nb a
 go:Go nb a b l
 nd:(a::b::l).Nodup
 stop:oth nb (fin a b l).1 (fin a b l).2=[]\/oth nb (fin a b l).1 (fin a b l).2=[a]
theorem Wlk.open (G:Gr nb) {a b:Pnt} {l:List Pnt} (w:Wlk nb a b l) (h1:(nb a).length=1):jt nb a b l:=by
 refine ⟨w.adj,w.go,h1,?_,w.nd⟩;rcases w.stop with h | h
 ·exact h
 ·have r:Rnd nb a b l:=⟨w.adj,w.go,h,w.nd⟩
  have:=r.two G a θ
  omega
theorem Wlk.round (G:Gr nb) {a b:Pnt} {l:List Pnt} (w:Wlk nb a b l) {L:List Pnt} (hS:rg nb L) (h2:∀ x∈L,(nb x).length=2) (ha:a∈L):Rnd nb a b l:=by
 refine ⟨w.adj,w.go,?_,w.nd⟩;rcases w.stop with h | h
 ·exfalso
  have hl:(fin a b l).2∈L:=gS G hS w.adj w.go a θ ha _ (Θ _ (bP a b l).1);have h3:=h2 _ hl;have h1:=G.sym (cM G w.adj w.go);have hn:=G.nd (fin a b l).2
  match hq:nb (fin a b l).2,h3,hn with
  | [p, q], _, hn =>
   have ne:p≠q:=fun e=>(EO.mp hn).1 (by rw [e]; exact θ);have all:∀ y∈nb (fin a b l).2,y=(fin a b l).1:=fun y hy=>by
    by_cases e:y=(fin a b l).1
    ·exact e
    ·have:y∈oth nb (fin a b l).1 (fin a b l).2:=aK.mpr ⟨hy,e⟩
     rw [h] at this; cases this
   exact ne ((all p (by rw [hq]; exact θ)).trans (all q (by rw [hq]; exact Θ _ θ)).symm)
 ·exact h
theorem Wlk.ended (G:Gr nb) {a b:Pnt} {l:List Pnt} (w:Wlk nb a b l):((nb (fin a b l).2).length=1↔oth nb (fin a b l).1 (fin a b l).2=[]):=by
 have h1:=G.sym (cM G w.adj w.go);constructor
 ·intro h
  match hq:nb (fin a b l).2,h,h1 with
  | [p], _, h1 =>
   unfold oth;rw [hq,Ξ.mp h1];simp
 ·intro h;have all:∀ y∈nb (fin a b l).2,y=(fin a b l).1:=fun y hy=>by
   by_cases e:y=(fin a b l).1
   ·exact e
   ·have:y∈oth nb (fin a b l).1 (fin a b l).2:=aK.mpr ⟨hy,e⟩
    rw [h] at this; cases this
  have hn:=G.nd (fin a b l).2
  match hq:nb (fin a b l).2,h1,all,hn with
  | [], h1, _, _ => cases h1
  | [p], _, _, _ => rfl
  | p :: q :: r, _, all, hn => exact absurd ((all p θ).trans (all q (Θ _ θ)).symm) fun e => (EO.mp hn).1 (by rw [e]; exact θ)
theorem mG (G:Gr nb) {a b:Pnt} {l:List Pnt} (o:jt nb a b l):(Ts.plt (fin a b l).2 a=true->bz nb false (a::b::l).reverse)/\(Ts.plt (fin a b l).2 a=false->bz nb false (a::b::l)):=by
 constructor
 ·intro h;obtain ⟨m,e,o2,e2⟩:=o.rev G;refine ⟨fun _=>⟨_,_,m,e,o2,?_⟩,fun e=>by cases e⟩;rw [e2]; exact h
 ·intro h;refine ⟨fun _=>⟨a,b,l,rfl,o,?_⟩,fun e=>by cases e⟩;have hne:(fin a b l).2≠a:=fun e=>(EO.mp o.nd).1 (by rw [<- e]; exact (bP a b l).1);have h:=Ts.bR.mp h;refine Ts.fg.mpr ?_;unfold Ts.ple at h;rcases h with h | ⟨h,h'⟩
  ·exact .inl h
  ·refine .inr ⟨h,?_⟩;rcases Int.lt_or_eq_of_le h' with q | q
   ·exact q
   ·exact absurd (Fg h q).symm hne
end
end Sm
namespace Ts
open PySem PyProof.Rows PySem.W
section
variable {prog:ER} {w:E2} {A:E5} {E:Δ->A2->Prop} {s:A2}
theorem aX.ty {v:Δ} {p:Int×Int} (h:aX s.heap v p):s.TypeIs v "tuple":=by
 obtain ⟨b,o,t,u,n,rfl,h1,h2,_⟩:=h;exact ⟨o,h1,h2⟩
theorem df {v u:Δ} {p q:Int×Int} {Q:Δ->A2->Prop} (hu:A.units<HH) (hv:aX s.heap v p) (hw:aX s.heap u q) (h:Q (.bool (plt p q)) s):EM (EZ prog w) A (richCompare .Lt v u) Q E s:=by
 refine wpAny_richCompare_same_room hv.ty hw.ty F.slot_tuple_lt (Gk F.slot_tuple_lt hv.ty F.entry_tuple_lt ?_ (F.args_tuple_lt_2 _ _)) hu;obtain ⟨b,o,t1,t2,n,rfl,h1,c1,d1⟩:=hv;obtain ⟨c,o2,t3,t4,m,rfl,h2,c2,d2⟩:=hw;unfold IK.«tuple.__lt__»;refine ξ (B_ ?_);dsimp only;refine ξ (LZ (T:="tuple") (b:=true) ⟨o2,h2,c2⟩ (by rw [isSubtype_type]; kernel_rfl) ?_);rw [if_neg (by decide)];refine ξ (wpAny_tupleItemsOf h1 d1 (ξ (wpAny_tupleItemsOf h2 d2 ?_)))
 show EM (EZ prog w) A.in1 (forIn [(IT p.1 t1,IT q.1 t3),(IT p.2 t2,IT q.2 t4)] _ _ >>= _) _ E s
 have nn:∀ b:Bool,KI b≠Value.notImplemented:=fun b e=>nomatch e
 refine ξ ?_;rw [Io];refine ξ (ξ (Ir ?_));by_cases e1:p.1=q.1
 ·have e1':(p.1==q.1)=true:=by rw [e1]; exact beq_self_eq_true _
  rw [e1',if_neg (by decide)];refine B_ ?_;dsimp only;rw [Io];refine ξ (ξ (Ir ?_));by_cases e2:p.2=q.2
  ·have e2':(p.2==q.2)=true:=by rw [e2]; exact beq_self_eq_true _
   rw [e2',if_neg (by decide)];refine B_ ?_;dsimp only;rw [LU];refine B_ ?_;have:plt p q=false:=bR.mpr (by unfold ple; omega)
   rw [this] at h;exact B_ ⟨_,rfl,nn _,h⟩
  ·have e2':(p.2==q.2)=false:=by simpa using e2
   rw [e2',if_pos (by decide)];refine ξ (GX ?_);refine ξ (wpAny_lt_int ?_);refine ξ (B_ (B_ ?_));dsimp only;refine B_ ?_;have:plt p q=decide (p.2<q.2):=by unfold plt; rw [e1]; simp
   rw [this] at h;exact B_ ⟨_,rfl,nn _,h⟩
 ·have e1':(p.1==q.1)=false:=by simpa using e1
  rw [e1',if_pos (by decide)];refine ξ (GX ?_);refine ξ (wpAny_lt_int ?_);refine ξ (B_ (B_ ?_));dsimp only;refine B_ ?_;have:plt p q=decide (p.1<q.1):=by unfold plt; simp [e1]
  rw [this] at h;exact B_ ⟨_,rfl,nn _,h⟩
def dE (h:FD) (vs:List Δ) (g:Δ->Int×Int) (I S:Ω):Prop:=∀ v∈vs,aX h v (g v)/\v≠.ref I/\v≠.ref S
theorem dE.keep {h h':FD} {vs:List Δ} {g:Δ->Int×Int} {I S:Ω} (a:dE h vs g I S) (k:∀ b o,b≠I->b≠S->h.get? b=some o->h'.get? b=some o):dE h' vs g I S:=by
 intro v hv;obtain ⟨⟨b,o,t,u,n,rfl,h1,h2,h3⟩,n1,n2⟩:=a v hv;exact ⟨⟨b,o,t,u,n,rfl,k b o (fun e=>n1 (by rw [e])) (fun e=>n2 (by rw [e])) h1,h2,h3⟩,n1,n2⟩
theorem mB {p q r:Int×Int} (h:ple p q) (h':ple q r):ple p r:=by unfold ple at *; omega
theorem qp (p:Int×Int):ple p p:=by unfold ple; omega
theorem Cm {R:Result->A2->Prop} {I l S:Ω} {vs:List Δ} {g:Δ->Int×Int} (hu:A.units+8<HH) (hh:A.in1.handled=none) (hl:l≠I) (hSI:S≠I) (hSl:S≠l) :
  ∀ (k j:Nat) (s:A2) (vb:Δ) (c:Nat),vs.length - (j+1)=k->j+1<=vs.length->s.heap.IsListIter I l (j+1)->s.heap.IsList l vs.toArray->dE s.heap vs g I S->vb∈vs->(∀ i v,i<=j->vs[i]?=some v->ple (g vb) (g v)) ->
  s.heap.get? S=some { cls:=.type "list",dict:=none,data:=.seq #[vb,vb] c,slots:=#[] } ->
  (∀ v h' tk,v∈vs->(∀ u∈vs,ple (g v) (g u))->(∀ b o,b≠I->b≠S->s.heap.get? b=some o->h'.get? b=some o)->R (.ok (.ret v)) { s with heap:=h',toks:=tk }) ->
  IY (EZ prog w) A (.builtin "min.loop" ⟨[.ref I,.none,.ref S],[]⟩) R s:=by
 have W:=LK (prog:=prog) (w:=w) hh I l hl vs.toArray;have nm:(toString "min"++toString ".loop":String)="min.loop":=by decide
 have sz:vs.toArray.size=vs.length:=by simp
 intro k
 induction k with
 | zero =>
  intro j s vb c hk hj hit hls hap hvb hmin hS hR
  (refine JF LL ?_; rw [Ht HU _]; show EM _ A.in1 (Lb (.ref S) >>= _) _ _ s; refine ξ (Ge hS rfl ?_))
  (show EM _ A.in1 (tryCatch (KW (.ref I)) _ >>= _) _ _ s; refine ξ (KR (W.done s _ _ ⟨by rw [sz,show vs.length=j+1 by omega]; exact hit,hls⟩ fun h' tk hk'=>?_)))
  have hS':=hk' S _ (by simp [hSI]) hS
  (show EM _ A.in1 (updateSeq S (fun _=>#[]) >>= _) _ _ _; refine ξ ?_; refine KD hS' rfl (ξ (IQ (B_ ?_))))
  refine hR vb _ tk hvb (fun u hu'=>?_) fun b o hI hbS e=>(E9 _ _ (GH hbS)).trans (hk' b o (by simp [hI]) e);obtain ⟨i,hi⟩:=Fy.mp hu';exact hmin i u (by have:=(Bc.mp hi).1; omega) hi
 | succ k ih =>
  intro j s vb c hk hj hit hls hap hvb hmin hS hR
  (refine JF LL ?_; rw [Ht HU _]; show EM _ A.in1 (Lb (.ref S) >>= _) _ _ s; refine ξ (Ge hS rfl ?_))
  (show EM _ A.in1 (tryCatch (KW (.ref I)) _ >>= _) _ _ s; refine ξ (KR (W.item (j+1) s _ _ (by omega) ⟨hit,hls⟩ fun v h' tk hP hst' hk'=>?_)))
  have hS':=hk' S _ (by simp [hSI]) hS;have hap':dE h' vs g I S:=hap.keep fun b o hI _ e=>hk' b o (by simp [hI]) e;have hv:vs[j+1]?=some v:=by rw [<- hP]; simp
  have hvm:v∈vs:=ES hv
  (show EM _ A.in1 (tryCatch (Lz [v,v] (richCompare .Lt v vb >>= _)) _ >>= _) _ _ _; refine ξ (KR (Gd (ξ (df (s:={ s with heap:=h',toks:=tk }) (by show A.units+1<HH; omega) (hap' v hvm).1 (hap' vb hvb).1 ?_)))))
  (refine ξ (Gd (GA ?_)); refine ξ (IQ (B_ ?_)))
  cases hb:plt (g v) (g vb) with
  | true =>
   simp only [if_true]
   (refine ξ ?_; refine KD hS' rfl (ξ (IQ ?_)); rw [nm])
   have kp:∀ b o,b≠S->h'.get? b=some o->(h'.update S (Er fun _=>#[v,v])).get? b=some o:=fun b o hbS e=>(E9 _ _ (GH hbS)).trans e;refine B_ ⟨IF HU _,ih (j+1) _ v _ (by omega) (by omega) (hst'.1.at fun o e=>kp I o (GH hSI) e) (hst'.2.at fun o e=>kp l o (GH hSl) e) (hap'.keep fun b o _ hbS e=>kp b o hbS e) hvm (fun i u hi hu'=>?_) (G6 _ hS' rfl) fun v' h'' tk'' hm hmi hk''=>?_⟩
   ·have hlt:=fg.mp hb;have:ple (g v) (g vb):=by unfold ple; omega
    by_cases hij:i<=j
    ·exact mB this (hmin i u hij hu')
    ·have:i=j+1:=by omega
     subst this;rw [hv] at hu'; cases hu';exact qp _
   ·exact hR v' h'' tk'' hm hmi fun b o hI hbS e=>hk'' b o hI hbS (kp b o hbS (hk' b o (by simp [hI]) e))
  | false =>
   simp only [FJ,if_false]
   (refine ξ (IQ ?_); rw [nm])
   refine B_ ⟨IF HU _,ih (j+1) _ vb c (by omega) (by omega) hst'.1 hst'.2 hap' hvb (fun i u hi hu'=>?_) hS' fun v' h'' tk'' hm hmi hk''=>?_⟩
   ·by_cases hij:i<=j
    ·exact hmin i u hij hu'
    ·have:i=j+1:=by omega
     subst this;rw [hv] at hu'; cases hu';exact bR.mp hb
   ·exact hR v' h'' tk'' hm hmi fun b o hI hbS e=>hk'' b o hI hbS (hk' b o (by simp [hI]) e)
theorem u6 {l:Ω} {vs:List Δ} {g:Δ->Int×Int} {Q:Δ->A2->Prop} (hu:A.units+16<HH) (hh:A.handled=none) (hl:s.heap.IsList l vs.toArray) (hne:vs≠[]) (hp:∀ v∈vs,aX s.heap v (g v))
  (h:∀ v h' tk,v∈vs->(∀ u∈vs,ple (g v) (g u))->(∀ b o,s.heap.get? b=some o->h'.get? b=some o)->Q v { s with heap:=h',toks:=tk }):EM (EZ prog w) A (call (.builtin "min") [.ref l]) Q E s:=by
 have nm:(toString "min"++toString ".loop":String)="min.loop":=by decide
 have hlt:l<s.heap.objs.size:=by obtain ⟨o,e,_⟩:=hl; exact EC e
 (refine call_function_tree F.kind_min F.plain_min F.entry_min (F.args_min1 _) ?_; show EM _ A.in1 (J8 "min" ["key","default"] 0 ⟨[],[]⟩ >>= _) _ _ s)
 (refine ξ (wpAny_of_eq (show J8 "min" ["key","default"] 0 ⟨[],[]⟩=pure [none,none] from rfl) ?_); refine ξ (B_ ?_))
 (refine ξ (Jh hl ?_); refine ξ (Gw ?_); rw [nm])
 generalize hI:s.heap.objs.size=I;have hS:(s.heap.push { cls:=.type "list_iterator",data:=.fields #[.ref l,.int 0 0] }).objs.size=I+1:=by rw [GF,hI]
 have kp:∀ b o,s.heap.get? b=some o->((s.heap.push { cls:=.type "list_iterator",data:=.fields #[.ref l,.int 0 0] }).push { cls:=.type "list",data:=.seq #[] }).get? b=some o:=fun b o e=>χ _ (χ _ e);have hSI:I+1≠I:=Nat.succ_ne_self I;have hlI:l≠I:=by rw [<- hI]; exact EH hlt
 have hSl:I+1≠l:=by rw [<- hI]; exact Jw (F3 hlt)
 have hap:dE ((s.heap.push { cls:=.type "list_iterator",data:=.fields #[.ref l,.int 0 0] }).push { cls:=.type "list",data:=.seq #[] }) vs g I (I+1):=by
  intro v hv;obtain ⟨b,o,t,u,n,rfl,h1,h2,h3⟩:=hp v hv;have hb:=EC h1;rw [hI] at hb;refine ⟨⟨b,o,t,u,n,rfl,kp _ _ h1,h2,h3⟩,(fun e=>?_),(fun e=>?_)⟩
  ·injection e with e; rw [e] at hb; exact Gj _ hb
  ·injection e with e; rw [e] at hb; exact absurd hb (Ka.mpr (G3 _))
 have it0:((s.heap.push { cls:=.type "list_iterator",data:=.fields #[.ref l,.int 0 0] }).push { cls:=.type "list",data:=.seq #[] }).IsListIter I l 0:=⟨_,χ _ (by rw [<- hI]; exact EB _ rfl),rfl,rfl⟩
 have hl2:((s.heap.push { cls:=.type "list_iterator",data:=.fields #[.ref l,.int 0 0] }).push { cls:=.type "list",data:=.seq #[] }).IsList l vs.toArray:=hl.at fun o e=>kp l o e;have hS0:((s.heap.push { cls:=.type "list_iterator",data:=.fields #[.ref l,.int 0 0] }).push { cls:=.type "list",data:=.seq #[] }).get? (I+1)=some { cls:=.type "list",dict:=none,data:=.seq #[] 0,slots:=#[] }:=by rw [<- hS]; exact EB _ rfl
 show EM _ _ (pure (Fin.again (.builtin "min.loop" ⟨[.ref I,.none,.ref (s.heap.push { cls:=.type "list_iterator",data:=.fields #[.ref l,.int 0 0] }).objs.size],[]⟩))) _ _ { s with heap:=(s.heap.push { cls:=.type "list_iterator",data:=.fields #[.ref l,.int 0 0] }).push { cls:=.type "list",data:=.seq #[] } }
 rw [hS];generalize (s.heap.push { cls:=.type "list_iterator",data:=.fields #[.ref l,.int 0 0] }).push { cls:=.type "list",data:=.seq #[] }=h2 at kp hap it0 hl2 hS0 ⊢;have W:=LK (prog:=prog) (w:=w) (A:=A.in1) hh I l hlI vs.toArray;have sz:vs.toArray.size=vs.length:=by simp
 have pos:0<vs.length:=MX.mpr hne;refine B_ ⟨IF HU _,?_⟩
 (refine JF LL ?_; rw [Ht HU _]; show EM _ A.in1 (Lb (.ref (I+1)) >>= _) _ _ _; refine ξ (Ge hS0 rfl ?_))
 (show EM _ A.in1 (tryCatch (KW (.ref I)) _ >>= _) _ _ _; refine ξ (KR (W.item 0 { s with heap:=h2 } _ _ (by omega) ⟨it0,hl2⟩ fun v h' tk hP hst' hk'=>?_)))
 have hS':=hk' (I+1) _ (by simp) hS0;have hap':dE h' vs g I (I+1):=hap.keep fun b o hI _ e=>hk' b o (by simp [hI]) e;have hv:vs[0]?=some v:=by rw [<- hP]; simp
 (show EM _ A.in1 (updateSeq (I+1) (fun _=>#[v,v]) >>= _) _ _ _; refine ξ ?_; refine KD hS' rfl ?_; rw [nm])
 have kp2:∀ b o,b≠I+1->h'.get? b=some o->(h'.update (I+1) (Er fun _=>#[v,v])).get? b=some o:=fun b o hbS e=>(E9 _ _ (GH hbS)).trans e;refine B_ ⟨IF HU _,Cm (g:=g) (by omega) hh hlI hSI hSl _ 0 _ v _ rfl (by omega) (hst'.1.at fun o e=>kp2 I o (GH hSI) e) (hst'.2.at fun o e=>kp2 l o (GH hSl) e) (hap'.keep fun b o _ hbS e=>kp2 b o hbS e) (ES hv) (fun i u hi hu'=>?_) (G6 _ hS' rfl) fun v' h'' tk'' hm hmi hk''=>?_⟩
 ·have:i=0:=by omega
  subst this;rw [hv] at hu'; cases hu';exact qp _
 ·refine h v' h'' tk'' hm hmi fun b o e=>?_;have hb:=EC e;rw [hI] at hb;have n1:b≠I:=EH hb;have n2:b≠I+1:=EH (F3 hb);exact hk'' b o n1 n2 (kp2 b o n2 (hk' b o (by simp [n1]) (kp b o e)))
end
end Ts
namespace L2
open PySem PySem.Spec PyProof.Rows
def BD (K:W.Frag) (vs:List V) (H:Hp) (Q:VK):Prop:=∃ a xs,vs=[.ref a]/\SqL K H a xs/\xs≠[]/\∃ g:V->Int×Int,(∀ v∈xs,PtV H v (g v))/\∀ v∈xs,(∀ u∈xs,Ts.ple (g v) (g u))->Q v H
theorem gA {X:Cx} {pins:List (Ω×HC)} {σ:St} {H:Hp} {s:A2} (I:Inv X pins σ H s) {v:V} {u:Δ} {p:Int×Int} (h:PtV H v p) (r:aU v u):Ts.aX s.heap u p:=by
 obtain ⟨b,rfl,hb⟩:=h;have r:u=.ref b:=r;subst r;obtain ⟨_,its2,r2,o,ho,hc,n,hd⟩:=I.hok _ _ hb
 cases r2 with
 | cons q1 r2 =>
 obtain ⟨t1,rfl⟩:=q1
 cases r2 with
 | cons q2 r2 =>
 obtain ⟨t2,rfl⟩:=q2
 cases r2;exact ⟨b,o,t1,t2,n,rfl,ho,hc,hd⟩
theorem o9 {X:Cx} (K:W.Frag) (hK:X.K=K) (hc:X.calm=true) (hu:X.A.units+64<HH):bL X (.builtin "min") (BD K):=by
 subst hK;intro pins s σ H xs us Q I hv h;obtain ⟨a,ys,rfl,hl,hne,g,hg,h⟩:=h
 cases hv with
 | cons r hv =>
 cases hv
 cases r;obtain ⟨its,rv,pl,hz⟩:=I.list hl;obtain ⟨em,hr⟩:=rv.refs fun v hv=>let ⟨b,e,_⟩:=hg v hv; ⟨b,e⟩;have hb:∀ u∈its,∃ b,u=E3 b/\V.ref b∈ys:=fun u hu=>by
  obtain ⟨b,rfl⟩:=hr u hu;exact ⟨b,rfl,by rw [<- em]; exact EE.mpr ⟨_,hu,rfl⟩⟩
 refine Ts.u6 (g:=fun u=>g (toV u)) (by omega) (I.ok.hd hc) pl.isList (fun e=>hne (by rw [<- em,e]; rfl)) (fun u hu=>?_) fun v h' tk hm hmin hk=>?_
 ·obtain ⟨b,rfl,hm⟩:=hb u hu;exact gA I (hg _ hm) rfl
 ·obtain ⟨b,rfl,hm'⟩:=hb v hm;refine ⟨.ref b,H,I.kept hk,rfl,h _ hm' fun u hu=>?_⟩;rw [<- em] at hu;obtain ⟨w,hw,rfl⟩:=EE.mp hu;exact hmin w hw
theorem ue {K:W.Frag} {a:Ω} {xs:List V} {H:Hp} {Q:VK} (g:V->Int×Int) (e:H a=some (.lst xs)) (hne:xs≠[]) (hg:∀ v∈xs,PtV H v (g v)) (h:∀ v∈xs,(∀ u∈xs,Ts.ple (g v) (g u))->Q v H):BD K [.ref a] H Q:=⟨a,xs,rfl,SqL.of e,hne,g,hg,h⟩
def DE:R2:=fun x y H Q=>∃ p q,PtV H x p/\PtV H y q/\Q (.bl (Ts.plt p q)) H
theorem xQ {X:Cx} (hu:X.A.units+64<HH):OpR X (GQ .Lt) DE:=by
 intro pins s σ H x y v u Q I rx ry h;obtain ⟨p,q,h1,h2,k⟩:=h;exact Ts.df (by omega) (gA I h1 rx) (gA I h2 ry) ⟨.bl _,H,I,rfl,k⟩
theorem yv {H:Hp} {Q:VK} {x y:V} {p q:Int×Int} (hx:PtV H x p) (hy:PtV H y q) (k:Q (.bl (Ts.plt p q)) H):DE x y H Q:=⟨p,q,hx,hy,k⟩
section
variable {K:W.Frag} {σ:St} {H:Hp} {Q:VK} {te:TE} {tt:TT} {cap:List (Option Nat)} {l:Ω}
theorem fu {a:Ω} {xs:List V} (F:V->V) (p:V->Bool) (hs:SqL K H a xs) (hz:xs.length<=5000) (hl:H l=none)
    (test:∀ x o H' (Q':Bool->Hp->Prop),x∈xs->ah H H'->(∀ H5,ah H' H5->Q' (p x) H5)->tt (((eQ (none::cap) σ).set 0 o).set 0 (some x)) H' Q')
    (step:∀ x o H' (Q':VK),x∈xs->p x=true->ah H H'->(∀ H5,ah H' H5->Q' (F x) H5)->te (((eQ (none::cap) σ).set 0 o).set 0 (some x)) H' Q')
    (fin:∀ H',ah H H'->H' l=some (.lst ((xs.filter p).map F))->Q (.ref l) H'):gO (Itl K a) (cT 0) tt te (none::cap) l σ H Q:=by
  refine ⟨xs.length,fun i ys σ' H'=>ys=((xs.take i).filter p).map F/\(∃ o,σ'=(eQ (none::cap) σ).set 0 o)/\ah H H'/\H' l=some (.lst ys),⟨rfl,⟨none,rfl⟩,ah.new hl,af⟩,?_,?_⟩
  · rintro i ys σ' H' hi ⟨rfl,⟨o,rfl⟩,s,e⟩
    refine ⟨⟨xs,xs[i],s.seq hs,by simp [hi]⟩,fun x H2 y=>?_⟩;obtain ⟨e2,y⟩:=y;subst e2;have hx:=y xs (s.seq hs)
    have tk:((xs.take (i+1)).filter p).map F=((xs.take i).filter p).map F++(if p x=true then [F x] else []):=by
      rw [Gn,hx,KQ,FO]
      congr 1
      cases hp:p x<;>simp [hp]
    refine b9 (test x o H2 _ (ES hx) s fun H5 s5=>?_);by_cases hp:p x=true
    · rw [if_pos hp]
      rw [if_pos hp] at tk;refine step x o H5 _ (ES hx) hp (s.trans s5) fun H6 s6=>⟨s6 _ _ (s5 _ _ e),?_,?_⟩
      · have:(((xs.take i).filter p).map F).length<=xs.length:=by
          rw [Aj];exact FA (MJ _ _) (by rw [E7]; omega)
        exact E_ (FA this hz) (by decide)
      · exact ⟨tk.symm,⟨_,Iz ..⟩,((s.trans s5).trans s6).later hl,af⟩
    · rw [if_neg hp]
      rw [if_neg hp,ET] at tk;exact ⟨tk.symm,⟨_,Iz ..⟩,s.trans s5,s5 _ _ e⟩
  · rintro ys σ' H' ⟨rfl,_,s,e⟩
    rw [EN (A_ _)] at e;exact ⟨⟨xs,s.seq hs,A_ _⟩,fin H' s e⟩
end
end L2
namespace Ts
open PySem PyProof.Rows PySem.W
theorem zX (g:C_->Int×Int):cz fun x y=>plt (g x) (g y):=by
 constructor
 ·intro x y h;have h:=fg.mp h;refine bR.mpr ?_;unfold ple;omega
 ·intro x y z h1 h2;have h1:=bR.mp h1;have h2:=bR.mp h2;refine bR.mpr ?_;unfold ple at h1 h2 ⊢;omega
end Ts
namespace L2
open PySem PySem.Spec PyProof.Rows PySem.W
theorem Bn {α β:Type} {R:α×β->α×β->Prop} {a:List α} {b:List β} (h:b.length<2):(a.zip b).Pairwise R:=by
 cases b with
 | nil=>rw [Mm]; exact GP
 | cons v b =>
  cases b with
  | nil =>
   cases a with
   | nil=>exact GP
   | cons u a=>rw [List.zip_cons_cons,Mm]; exact JY _ _
  | cons v b => simp at h; omega
section
variable {X:Cx} {pins:List (Ω×HC)} {σ:St} {H H1 H2:Hp} {s0 s s':A2}
structure fM (X:Cx) (H:Hp) (s0:A2) (H1:Hp) (s:A2):Prop where
 os:s.os=s0.os
 un:Un (frs X.stack) [] H H1 s0.heap s.heap
 hok:HOk X.prog X.w H1 s.heap
 bare:JK s.gens
theorem fM.inv (a:fM X H s0 H1 s) (I:Inv X pins σ H s0):Inv X pins σ H1 s:=I.call' a.os a.un a.hok a.bare (fun b hb=>nomatch hb)
theorem fM.start (I:Inv X pins σ H s0):fM X H s0 H s0:=⟨rfl,Un.refl,I.hok,I.bare⟩
theorem fM.heap {h':FD} (a:fM X H s0 H1 s) (k:∀ b o,b<s0.heap.objs.size\/H1 b≠none->s.heap.get? b=some o->h'.get? b=some o):fM X H s0 H1 { s with heap:=h' }:=by
 have lt:∀ {b o},s0.heap.get? b=some o->b<s0.heap.objs.size:=fun e=>EC e;refine ⟨a.os,⟨fun b o e n hb hx=>k b o (.inl (lt e)) (a.un.keep b o e n hb hx),fun b o e n hb hx=>?_,a.un.free,fun b o e hx=>?_,a.un.tups,a.un.frzs,a.un.tbls⟩,fun b o e=>?_,a.bare⟩
 ·obtain ⟨sl,q⟩:=a.un.slot b o e n hb hx;exact ⟨sl,k b _ (.inl (lt e)) q⟩
 ·obtain ⟨o',q⟩:=a.un.there b o e hx;exact ⟨o',k b _ (.inl (lt e)) q⟩
 ·refine (a.hok b o e).stay (fun c v hc q=>k c v (.inr ?_) q) (fun _ q=>q) fun _ _ q=>q;rcases hc with z | z
  ·rw [z,e]; exact fun z=>nomatch z
  ·rw [z]; exact fun z=>nomatch z
theorem fM.track {c:Ω} {o:HO} (a:fM X H s0 H1 s) (hc:s0.heap.objs.size<=c) (hn:H1 c=none) (I:Inv X pins σ H s0) (new:bg X.prog X.w (upd H1 c o) s.heap c o):fM X H s0 (upd H1 c o) s:=by
 have ne:∀ {b o},s0.heap.get? b=some o->b≠c:=fun e z=>by have:=EC e; rw [z] at this; exact absurd this (Ka.mpr hc)
 have ne1:∀ {b o},H1 b=some o->b≠c:=fun e z=>by rw [z,hn] at e; cases e
 refine ⟨a.os,⟨a.un.keep,a.un.slot,fun b o e n hx=>by rw [aj (ne e)]; exact a.un.free b o e n hx,a.un.there,fun b xs e=>?_,fun b o u e=>?_,fun b ps e=>?_⟩,fun b u e=>?_,a.bare⟩
 ·have:=a.un.tups b xs e
  rw [aj (ne1 this)]; exact this
 ·have:=a.un.frzs b o u e
  rw [aj (ne1 this)]; exact this
 ·obtain ⟨more,q⟩:=a.un.tbls b ps e;exact ⟨more,by rw [aj (ne1 q)]; exact q⟩
 ·by_cases hb:b=c
  ·subst hb; rw [af] at e; cases e; exact new
  ·rw [aj hb] at e;exact (a.hok b u e).stay (fun c v _ q=>q) (fun c q=>by rw [aj (ne1 q)]; exact q) fun c xs q=>by rw [aj (ne1 q)]; exact q
theorem fM.call {A:E5} {k:Nat} {f:Ω} {fd:GB} {ps:List Str} {sp:Sp} {us:List Δ} {vs:List V} {Q:VK} {E:Δ->A2->Prop} (a:fM X H s0 H1 s) (I:Inv X pins σ H s0) (F:aP X.prog X.w X.K X.mg X.base CX0 k f fd ps sp) (hr:bT k A) (hA:A.frames=X.A.frames)
  (hb:aH X.K fd ps []) (r:Vals vs us) (h:sp vs H1 Q E0) {R:Δ->A2->Prop} (q:∀ v u H2 s2,fM X H s0 H2 s2->aU v u->Q v H2->(∀ b o,s.heap.get? b=some o->H1 b=none->b∉frs X.stack->s2.heap.get? b=some o/\H2 b=none)->R u s2):EM (EZ X.prog X.w) A (Je (.ref f) us) R E s:=by
 have J:=a.inv I;have hl:(us++([]:List Δ)).length=ps.length:=by rw [ET,<- r.length]; exact F.len _ _ _ _ h
 have e0:=J.env0;have bt:=hb s us J.kIn hl;rw [ET] at bt;refine wpAny_call (IX (F.run A X.stack s H1 ⟨us,[]⟩ us vs Q E0 hr ⟨hA.trans e0.frames,e0.mod,e0.bs,e0.bsz,e0.funs,e0.frf,e0.hok,e0.bare⟩ bt r h) fun r s2 hq=>?_)
 cases r with
 | error e=>exact GJ hq
 | ok fl =>
  cases fl with
  | ret u =>
   obtain ⟨v,H2,os,bare,un,hok,rv,qq⟩:=hq;exact q v u H2 s2 ⟨os.trans a.os,a.un.trans un,hok,bare⟩ rv qq fun b o e n hb=>⟨un.keep b o e n hb (fun z=>nomatch z),un.free b o e n (fun z=>nomatch z)⟩
  | next => exact GJ hq
  | brk => exact GJ hq
  | cont => exact GJ hq
def rL (K:W.Frag) (sp:Sp) (x:V) (H:Hp) (Q:VK):Prop:=∃ (a:Ω) (xs:List V) (g:V->Int×Int),x=.ref a/\SqL K H a xs/\(∀ v∈xs,∃ b,v=.ref b) /\
 (∀ v∈xs,∀ (H1:Hp) (Q1:VK),ah H H1->(∀ u H2,ah H1 H2->PtV H2 u (g v)->Q1 u H2)->sp [v] H1 Q1 E0) /\
 ∀ (l:Ω) (ys:List V) (H':Hp),ah H H'->H l=none->H' l=some (.lst ys)->ys.Perm xs->ys.Pairwise (fun x y=>Ts.ple (g x) (g y))->Q (.ref l) H'
theorem PtV.mono {v:V} {p:Int×Int} (s:ah H H1) (h:PtV H v p):PtV H1 v p:=by
 obtain ⟨b,e,q⟩:=h;exact ⟨b,e,s _ _ q⟩
theorem wq {xs:List V} {us:List Δ} {v:V} {u:Δ} (h:Vals xs us) (r:aU v u):Vals (xs++[v]) (us++[u]):=h.append (.cons r .nil)
theorem xu {A:E5} {E:Δ->A2->Prop} {h:FD} (us:List Δ) (gs:Δ->Int×Int) (hv:∀ u∈us,Ts.aX h u (gs u)) (h2:2<=us.length) {M:JS} {s:A2} (hs:s.heap=h) {Q:GR->A2->Prop} (q:Q (KC true) s):EM M A (keyKind' us.toArray) Q E s:=by
 have key:∀ (us:List Δ),(∀ v∈us,Ts.aX h v (gs v))->∃ fs,KatTups h us fs/\fs.length=us.length/\∀ f∈fs,∃ i t,f=.int i t:=by
  intro us
  induction us with
  | nil => intro _; exact ⟨[], Ly, rfl, (fun f hf => nomatch hf)⟩
  | cons v us ih =>
   intro hu;obtain ⟨fs,k1,k2,k3⟩:=ih fun v hv=>hu v (Θ _ hv);obtain ⟨b,o,t,u,n,e,h1,h2,h3⟩:=hu v θ;refine ⟨.int (gs v).1 t::fs,?_,by rw [Ba,Ba,k2],fun f hf=>?_⟩
   ·rw [e];rw [e] at h3;exact Li h1 h2 h3 rfl k1
   ·rcases Bb.mp hf with rfl | hf
    ·exact ⟨_,_,rfl⟩
    ·exact k3 f hf
 obtain ⟨fs,k1,k2,k3⟩:=key us hv;subst hs;refine kat_kind (T:=.type "int") k1 (by omega) (fun f hf=>?_) (by decide) ?_
 ·obtain ⟨i,t,rfl⟩:=k3 f hf;exact Looks.of_pure rfl
 ·have:(Fq "int" != Fq "tuple")=true:=by decide
  rw [this];exact q
theorem vT {k:Nat} {f:Ω} {fd:GB} {ps:List Str} {sp:Sp} {x:V} {u:Δ} {Q:VK} (F:aP X.prog X.w X.K X.mg X.base CX0 k f fd ps sp) (hr:bT (k+3) X.A) (hb:aH X.K fd ps []) (I:Inv X pins σ H s0) (rx:aU x u) (h:rL X.K sp x H Q) :
    EM (EZ X.prog X.w) X.A (Je (.builtin "sorted") [u] [(HE "key",.ref f)]) (EP X pins σ Q) X.xe s0:=by
  obtain ⟨a,xs,g,rfl,hl,hrf,hkey,hend⟩:=h
  cases rx;obtain ⟨its,rv,pl,hz⟩:=I.list hl;have hlen:=rv.length;have hz':its.length<=sizeLine:=by omega
  obtain ⟨em,hri⟩:=rv.refs hrf;refine call_function_entry_kw kind_sorted plain_sorted entry_sorted (ksk_s1 _ _) ?_;unfold IK.«sorted»;refine ξ (m:=checkCount "sorted" 1 1 _) (B_ ?_);refine ξ (collect_list pl.isList ?_ hz');refine ξ (Iv ?_ hz');generalize hS0:s0.heap.objs.size=n0;have hsz:((s0.heap.push (E8 "list" #[] 0)).update n0 (Er (·++its.toArray))).objs.size=n0+1:=by rw [GV,IM,hS0]
  have hoL:(((s0.heap.push (E8 "list" #[] 0)).update n0 (Er (·++its.toArray))).push (E8 "list" its.toArray 0)).get? (n0+1)=some (E8 "list" its.toArray 0):=by rw [<- hsz]; exact EB _ rfl
  have keep:∀ b o,s0.heap.get? b=some o->(((s0.heap.push (E8 "list" #[] 0)).update n0 (Er (·++its.toArray))).push (E8 "list" its.toArray 0)).get? b=some o:=fun b o q=>by
    have hlt:b<n0:=by rw [<- hS0]; exact EC q
    refine χ _ ?_;rw [HL _ _ _ _ (EH hlt)];exact χ _ q
  have hs2:(((s0.heap.push (E8 "list" #[] 0)).update n0 (Er (·++its.toArray))).push (E8 "list" its.toArray 0)).objs.size=n0+2:=by rw [IM,hsz]
  show EM _ _ (Lz [.ref ((s0.heap.push (E8 "list" #[] 0)).update n0 (Er (·++its.toArray))).objs.size] (Je (.builtin "list.sort") [.ref ((s0.heap.push (E8 "list" #[] 0)).update n0 (Er (·++its.toArray))).objs.size] [(HE "key",.ref f)]) >>= fun _=>ret (.ref ((s0.heap.push (E8 "list" #[] 0)).update n0 (Er (·++its.toArray))).objs.size)) _ _ { s0 with heap:=((s0.heap.push (E8 "list" #[] 0)).update n0 (Er (·++its.toArray))).push (E8 "list" its.toArray 0) }
  rw [hsz];generalize ((s0.heap.push (E8 "list" #[] 0)).update n0 (Er (·++its.toArray))).push (E8 "list" its.toArray 0)=h1 at hoL keep hs2 ⊢;generalize hD:n0+1=D at hoL ⊢;have am0:fM X H s0 H { s0 with heap:=h1 }:=(fM.start I).heap fun b o _ q=>keep b o q;refine ξ (Gd (wpAny_call_entry_kw MD ⟨_,hoL,rfl⟩ Ls ?_ (ksk_l1 _ _)))
  show EM (EZ X.prog X.w) X.A.in1.in1 (IK.«list.sort» ⟨[.ref D],[(HE "key",.ref f)]⟩) _ _ _
  rw [ksk_t1];unfold ksk_tree;refine ξ (LF hoL rfl ?_);refine ξ (G7 hoL rfl ?_ (by rw [EK]; exact hz') (En _));obtain ⟨e1,ho1⟩:∃ e1,(h1.update D (Er fun _=>#[])).get? D=some (E8 "list" #[] e1):=⟨_,Hv hoL (fun _=>#[])⟩
  refine ξ (IS ho1 rfl ?_);refine ξ (KS ?_ (by first | exact hz' | (simp; exact hz')));refine ξ (Iv ?_);refine Gd ?_
  show EM _ _ (ksk_rest D (.ref f) false its.toArray e1 (.ref ((h1.update D (Er fun _=>#[])).push (E8 "tuple" its.toArray 0)).objs.size)) _ _ { s0 with heap:=((h1.update D (Er fun _=>#[])).push (E8 "tuple" its.toArray 0)).push (E8 "list" #[] 0) }
  have hsk:((h1.update D (Er fun _=>#[])).push (E8 "tuple" its.toArray 0)).objs.size=n0+3:=by rw [IM,GV,hs2]
  have hK:(((h1.update D (Er fun _=>#[])).push (E8 "tuple" its.toArray 0)).push (E8 "list" #[] 0)).get? (n0+3)=some (E8 "list" #[] 0):=by rw [<- hsk]; exact EB _ rfl
  have hDo:(((h1.update D (Er fun _=>#[])).push (E8 "tuple" its.toArray 0)).push (E8 "list" #[] 0)).get? D=some (E8 "list" #[] e1):=χ _ (χ _ ho1);rw [hsk];have hDn:n0<=D:=by rw [<- hD]; exact G3 _
  have am1:fM X H s0 H { s0 with heap:=((h1.update D (Er fun _=>#[])).push (E8 "tuple" its.toArray 0)).push (E8 "list" #[] 0) }:=am0.heap (s:={ s0 with heap:=h1 }) fun b o hb q=>by
    have hne:b≠D:=by
      rcases hb with hb | hb
      · rw [hS0] at hb; exact EH (EU hb hDn)
      · intro e
        exact hb (I.hok.fresh (by rw [hS0,e]; exact hDn))
    exact χ _ (χ _ ((E9 _ _ (GH hne)).trans q))
  generalize ((h1.update D (Er fun _=>#[])).push (E8 "tuple" its.toArray 0)).push (E8 "list" #[] 0)=h2 at hK hDo am1 ⊢;generalize hkS:n0+3=kS at hK ⊢;have hKn:n0<=kS:=by rw [<- hkS]; omega
  have hDK:D≠kS:=by rw [<- hD,<- hkS]; exact EH (by omega)
  have nfr:∀ {c:Ω},n0<=c->c∉frs X.stack:=fun {c} hc hb=>by
    rcases Bb.mp (I.stkSub c hb) with e | hb
    · have:=I.lt
      rw [<- e,hS0] at this;exact absurd this (Ka.mpr hc)
    · exact I.nofs (by rw [hS0]; exact hc) hb
  unfold ksk_rest;refine ξ (GX ?_);have roomK:bT k X.A.in1.in1:=(hr.mono (by omega:k+2<=k+3)).in1.in1;rw [<- Array.forIn_toList,List.toList_toArray];refine ξ (ksk_fold (I:=fun i s=>∃ (H1:Hp) (ks:List Δ) (kvs:List V) (c:Nat),fM X H s0 H1 s/\ah H H1/\s.heap.get? D=some (E8 "list" #[] e1)/\H1 D=none/\s.heap.get? kS=some (E8 "list" ks.toArray c)/\H1 kS=none/\Vals kvs ks/\ks.length=i/\∀ (j:Nat) v u,kvs[j]?=some u->xs[j]?=some v->PtV H1 u (g v))
    its 0 _ ⟨H,[],[],0,am1,ah.refl _,hDo,I.hok.fresh (by rw [hS0]; exact hDn),hK,I.hok.fresh (by rw [hS0]; exact hKn),.nil,rfl,fun j v u e=>by simp at e⟩ ?_ ?_)
  · rintro j x s hx ⟨H1,ks,kvs,c,am,sm,qD,nD,qK,nK,vk,lk,pk⟩
    have hxv:xs[j]?=some (toV x):=by rw [<- em,EX,hx]; rfl
    obtain ⟨b,rfl⟩:=hri x (ES hx);have jlt:j<its.length:=(Bc.mp hx).1;refine ξ (Kw (am.call (vs:=[.ref b]) I F roomK rfl hb (.cons rfl .nil) (hkey (.ref b) (ES hxv) H1 (fun v H2=>ah H1 H2/\PtV H2 v (g (.ref b))) sm fun u H2 s2 p2=>⟨s2,p2⟩) fun v u H2 s2 am2 ru q2 kp=>?_));obtain ⟨s12,p2⟩:=q2;obtain ⟨qD2,nD2⟩:=kp D _ qD nD (nfr hDn);obtain ⟨qK2,nK2⟩:=kp kS _ qK nK (nfr hKn);dsimp only;refine ξ (G7 qK2 rfl ?_ (by rw [EK]; omega) (by rw [Array.size_push,EK]; omega));have qK3:=Hv qK2 (fun x=>x.push u);refine B_ ⟨rfl,H2,ks++[u],kvs++[v],_,am2.heap fun b o hb q=>?_,sm.trans s12,?_,nD2,by rw [qK3]; congr 2; simp,nK2,wq vk ru,by rw [Bd,EL]; omega,fun i v' u' hu hv'=>?_⟩
    · have hne:b≠kS:=by
        rcases hb with hb | hb
        · rw [hS0] at hb; exact EH (EU hb hKn)
        · intro e; rw [e] at hb; exact hb nK2
      exact (E9 _ _ (GH hne)).trans q
    · exact (E9 _ _ (GH hDK)).trans qD2
    · have lkv:kvs.length=ks.length:=vk.length
      by_cases hi:i<kvs.length
      · rw [GI hi] at hu
        exact (pk i v' u' hu hv').mono s12
      · rw [FQ (by omega)] at hu
        have hh:=(Bc.mp hu).1;rw [EL] at hh;have:i=j:=by omega
        subst this;rw [show i - kvs.length=0 by omega] at hu;simp only [Fj,F7] at hu;rw [hxv] at hv'
        cases hv';rw [<- hu];exact p2
  · rintro s ⟨H1,ks,kvs,c,am,sm,qD,nD,qK,nK,vk,lk,pk⟩
    have lk:ks.length=its.length:=by omega
    refine ξ (LF qK rfl ?_);unfold ksk_end;dsimp only;rw [if_neg (by decide)];have J:=am.inv I
    -- each key and its item
    have hpair:∀ p∈ks.zip its,Ts.aX s.heap p.1 (g (toV p.2))/\p.2∈its:=by
      intro p hp;obtain ⟨i,hi⟩:=Fy.mp hp;have hz2:=JG.mp hi;have hk1:i<kvs.length:=by rw [vk.length]; exact (Bc.mp hz2.1).1
      obtain ⟨u,hu,ru⟩:=vk.get (ς hk1);rw [hz2.1] at hu
      cases hu;have hx:xs[i]?=some (toV p.2):=by rw [<- em,EX,hz2.2]; rfl
      exact ⟨gA J (pk i _ _ (ς hk1) hx) ru,ES hz2.2⟩
    have fin:∀ (st:FU),(EY st).toList.Perm (ks.zip its)->Gu st=none->(EY st).toList.Pairwise (Ts.Le fun x y=>Ts.plt (g (toV x.2)) (g (toV y.2))) ->
        EM (EZ X.prog X.w) X.A.in1.in1 (ksk_tail D false e1 (.ref kS) st) (fun fin s'=>∃ v,fin=Fin.done (Flow.ret v)/\EM (EZ X.prog X.w) X.A.in1 (ret (E3 D)) (fun fin s'=>∃ v,fin=Fin.done (Flow.ret v)/\EP X pins σ Q v s') X.xe s') X.xe s:=by
      intro st hp hf hw;unfold ksk_tail;dsimp only;have lst:(EY st).size=its.length:=by rw [<- Eo,hp.length_eq,List.length_zip,lk,Nat.min_self]
      refine ξ (G7 qK rfl ?_ (by rw [EK]; omega) (En _));refine ξ (IQ ?_);have qD2:(s.heap.update kS (Er fun _=>#[])).get? D=some (E8 "list" #[] e1):=(E9 _ _ (GH hDK)).trans qD;refine ξ (IS qD2 rfl ?_);refine ξ (G7 qD2 rfl ?_ (by simp) (by rw [if_neg (by decide),JA,lst]; omega));rw [hf];simp only [bne_self_eq_false,FJ,if_false];refine B_ ⟨_,rfl,?_⟩;have am2:fM X H s0 H1 { s with heap:=(s.heap.update kS (Er fun _=>#[])).update D (Er fun _=>(EY st).map (·.2)) }:=am.heap fun b o hb q=>by
        have n1:b≠kS:=by
          rcases hb with hb | hb
          · rw [hS0] at hb; exact EH (EU hb hKn)
          · intro e; rw [e] at hb; exact hb nK
        have n2:b≠D:=by
          rcases hb with hb | hb
          · rw [hS0] at hb; exact EH (EU hb hDn)
          · intro e; rw [e] at hb; exact hb nD
        exact (E9 _ _ (GH n2)).trans ((E9 _ _ (GH n1)).trans q)
      have qD3:=Hv qD2 (fun _=>(EY st).map (·.2))
      have pm:((EY st).toList.map (·.2)).Perm its:=by
        have:=hp.map MQ
        rw [List.map_snd_zip (by omega)] at this;exact this
      have am3:=am2.track (o:=.lst (((EY st).toList.map (·.2)).map toV)) (c:=D) (by rw [hS0]; exact hDn) nD I ⟨by rw [Aj,pm.length_eq]; exact hz',(EY st).toList.map (·.2),_,gF fun u hu=>hri u (pm.mem_iff.mp hu),by rw [qD3]; congr 2; rw [<- JT,Ig]⟩;refine B_ ⟨_,rfl,.ref D,_,am3.inv I,rfl,?_⟩;have nH:H D=none:=I.hok.fresh (by rw [hS0]; exact hDn);refine hend D _ _ (sm.later nH) nH af (by rw [<- em]; exact pm.map toV) ?_;rw [FP,FY];exact hw.imp fun {x y} hxy=>Ts.bR.mp hxy
    have zsz:(ks.toArray.zip its.toArray).toList=ks.zip its:=by simp
    by_cases h2:its.toArray.size<2
    · rw [if_pos h2,if_pos h2]
      refine ξ (B_ ?_);rw [Kz];refine ξ (B_ ?_);dsimp only;refine fin _ (by show (ks.toArray.zip its.toArray).toList.Perm _; rw [zsz]) rfl ?_
      show (ks.toArray.zip its.toArray).toList.Pairwise _
      rw [zsz];rw [EK] at h2;exact Bn h2
    · rw [if_neg h2,if_neg h2]
      rw [EK] at h2
      have hks:∀ u∈ks,∃ p,Ts.aX s.heap u p:=by
        intro u hu;obtain ⟨i,hi⟩:=Fy.mp hu;have hlt:=(Bc.mp hi).1;exact ⟨_,(hpair (u,its[i]) (Fy.mpr ⟨i,JG.mpr ⟨hi,ς (by omega)⟩⟩)).1⟩
      classical
      refine ξ (xu ks (fun u=>if hu:∃ p,Ts.aX s.heap u p then hu.choose else (0,0)) (fun u hu=>by rw [dif_pos (hks u hu)]; exact (hks u hu).choose_spec) (by omega) rfl ?_);have asks:Ts.ik (EZ X.prog X.w) X.A.in1.in1 X.xe s (KC true) (fun x=>x∈ks.zip its) (fun x y=>Ts.plt (g (toV x.2)) (g (toV y.2))):=Ts.jy fun x y hx hy Q' E' q=>Ts.qf (hpair x hx).1 (hpair y hy).1 q;refine ξ (GO (Ts.lC (E:=X.xe) (s:=s) (A:=X.A.in1.in1) (Ts.zX fun x=>g (toV x.2)) asks (st:=K9 (KC true) (ks.toArray.zip its.toArray) #[] 7 none)
        (Q:=fun _ st'=>(EY st').Perm (ks.toArray.zip its.toArray)/\Gu st'=none/\(EY st').toList.Pairwise (Ts.Le fun x y=>Ts.plt (g (toV x.2)) (g (toV y.2)))) rfl rfl rfl (fun x hx=>by rw [<- zsz]; exact hx) fun st' a1 a2 a3=>⟨a1,a2,a3⟩) ?_ fun _ _ e=>e)
      rintro ⟨⟨⟩,st'⟩ s' ⟨rfl,hp,hf,hs⟩;dsimp only;exact fin st' (by rw [<- zsz]; exact GC.mp hp) hf hs
def zk (K:W.Frag) (sp:Sp) (te:TE):TE:=fun σ H Q=>te σ H fun x H1=>rL K sp x H1 Q
theorem xV {e:Fo} {te:TE} {x:Str} {p pk kp pos:Il} {k:Nat} {f:Ω} {fd:GB} {ps:List Str} {sp:Sp} (K:W.Frag) (hK:X.K=K) (F:aP X.prog X.w X.K X.mg X.base CX0 k f fd ps sp) (hr:bT (k+3) X.A) (hg:Gl X "sorted") (hm:X.mg "sorted"=none) (hgx:Gl X x) (hmx:X.mg x=some (.ref f)) (hb:aH X.K fd ps []) (ha:PE X e te)
  (hd:(x==("__debug__":Str))=false:=by decide) (he:HB pos (Ew [e] X.env)=(false,Gf e X.env)::HB pos (Ew [] X.env):=by rfl) (hpl:(HB pos (Ew [e] X.env)).any (·.1)=false:=by rfl):PE X (.Call (.Name "sorted" p) [e] [⟨some "key",.Name x pk,kp⟩] pos) (zk K sp te):=by
 subst hK;intro pins s σ H Q I h;refine G_ (eR I hg hm (by rfl) ?_ (by decide) (by decide));refine callWith_kw ?_ he hpl;rw [he];refine HV (thn (ha pins s σ H _ I h) fun v s1 ⟨y,H1,I1,r1,q1⟩=>IJ ?_);refine kws_cons (iG I1 hgx hmx ?_ hd);refine kws_nil ?_;exact vT F hr hb I1 r1 q1
theorem vJ {K:W.Frag} {sp:Sp} {te:TE} {σ:St} {H:Hp} {Q:VK} (h:te σ H fun x H1=>rL K sp x H1 Q):zk K sp te σ H Q:=h
end
end L2
namespace Sm
section
variable {nb:Pnt->List Pnt}
theorem xi:∀ {a b:Pnt} {l:List Pnt},b∈nb a->Go nb a b l->∀ (i:Nat) (p q:Pnt),(a::b::l)[i]?=some p->(a::b::l)[i+1]?=some q->q∈nb p
 | a,b,l,hb,_,0,p,q,hp,hq=>by
  simp only [Fj,Fl,F7] at hp hq;rw [<- hp,<- hq]; exact hb
 | a,b,[],_,_,i+1,p,q,_,hq=>by simp at hq
 | a,b,c::l,_,g,i+1,p,q,hp,hq=>by
  rw [Fl] at hp hq;exact xi (gy g).1 g.2 i p q hp hq
noncomputable def bef (L:List Pnt) (i:Nat):Nat:=if i=0 then L.length - 1 else i - 1
theorem bz.nd {f:Bool} {L:List Pnt} (h:bz nb f L):L.Nodup:=by
 obtain ⟨a,b,l,e,_,_,n⟩:=h.path;exact n
theorem zW {a b:Pnt} {l:List Pnt}:(a::b::l)[(a::b::l).length - 1]?=some (fin a b l).2:=by rw [<- List.getLast?_eq_getElem?]; exact eX a b l
theorem bz.step (G:Gr nb) {f:Bool} {L:List Pnt} (h:bz nb f L) {i:Nat} (hi:i<L.length) (h0:i≠0\/f=true):∃ p q,L[bef L i]?=some p/\L[i]?=some q/\q∈nb p:=by
 by_cases hz:i=0
 ·have hf:f=true:=h0.resolve_left fun z=>z hz;obtain ⟨a,b,l,rfl,o,_⟩:=h.rd hf;refine ⟨(fin a b l).2,a,?_,by rw [hz]; rfl,G.sym (o.last G).1⟩;unfold bef;rw [if_pos hz]; exact zW
 ·obtain ⟨a,b,l,rfl,hb,g,_⟩:=h.path;have h1:i - 1<(a::b::l).length:=by omega
  refine ⟨_,_,?_,ς hi,xi hb g (i - 1) _ _ (ς h1) ?_⟩
  ·unfold bef; rw [if_neg hz]; exact ς h1
  ·rw [show i - 1+1=i by omega]; exact ς hi
end
end Sm
namespace L2
open PySem PySem.Spec PyProof.Rows PySem.W
section
variable {X:Cx} (K:W.Frag) (hK:X.K=K) (hc:X.calm=true)
include hK hc
end
end L2
namespace NR
noncomputable def El (n m:Nat) (F:Int×Int->Int):Int:=sm n fun x=>sm m fun y=>F ((x:Int),(y:Int))
end NR
namespace Sm
end Sm
namespace L2
open PySem PySem.Spec PyProof.Rows PySem.W
end L2
namespace Sm
theorem nt {α:Type} [DecidableEq α] {c:α->Bool} {le:α->α->Prop} {L L':List α} (n:L.Nodup) (n':L'.Nodup) (p:L.Pairwise le) (p':L'.Pairwise le) (as:∀ a∈L,∀ b∈L,le a b->le b a->a=b)
  (h:∀ e,c e=true->(e∈L↔e∈L')):L.filter c=L'.filter c:=by
 have pm:(L.filter c).Perm (L'.filter c):=by
  rw [LR (n.filter c) (n'.filter c)];intro e;rw [FN,FN];exact ⟨fun ⟨h1,h2⟩=>⟨(h e h2).mp h1,h2⟩,fun ⟨h1,h2⟩=>⟨(h e h2).mpr h1,h2⟩⟩
 exact pm.eq_of_pairwise (fun a b ha hb h1 h2=>as a (FN.mp ha |>.1) b (FN.mp (pm.mem_iff.mpr hb) |>.1) h1 h2) (p.filter c) (p'.filter c)
end Sm
namespace L2
open PySem PySem.Spec PyProof.Rows
theorem rk {K:W.Frag} {σ:St} {H:Hp} {Q:VK} {te:TE} {l a b:Ω} {xs ys:List V} (F:Nat->V) (hx:H a=some (.lst xs)) (hy:H b=some (.lst ys)) (he:xs.length=ys.length) (hz:xs.length<=5000) (hl:H l=none)
  (step:∀ (i:Nat) x y H' (Q':VK),xs[i]?=some x->ys[i]?=some y->ah H H'->(∀ H5,ah H' H5->Q' (F i) H5)->te [some x,some y] H' Q')
  (fin:∀ H',ah H H'->H' l=some (.lst ((FG xs.length).map F))->Q (.ref l) H'):gO (Itz K a b) (rA K 2 (gR (cT 0) (gR (cT 1) uP))) gU te [none,none] l σ H Q:=by
 refine ⟨xs.length,fun i zs σ' H'=>zs=(FG i).map F/\(∃ o o',σ'=[o,o'])/\ah H H'/\H' l=some (.lst zs),⟨rfl,⟨none,none,rfl⟩,ah.new hl,af⟩,?_,?_⟩
 ·rintro i zs σ' H' hi ⟨rfl,⟨o,o',rfl⟩,s,e⟩;refine ⟨⟨xs,ys,xs[i],ys[i]'(by omega),SqL.of (s _ _ hx),SqL.of (s _ _ hy),by simp [hi],by simp⟩,fun v H2 z=>?_⟩;obtain ⟨T,rfl,hT,z⟩:=z;obtain ⟨x,y,ex,ey,rfl⟩:=z xs ys (SqL.of (s _ _ hx)) (SqL.of (s _ _ hy));have sT:=ah.new (o:=HO.tup [x,y]) hT;refine iR af rfl (cP (b9 (cP (b9 (iQ (dA (lF ?_)))))));refine step i x y _ _ ex ey (s.trans sT) fun H5 s5=>⟨s5 _ _ (sT _ _ e),?_,?_⟩
  ·rw [Aj,GL];exact EU (by omega:i<6000) (by decide)
  ·refine ⟨?_,⟨_,_,rfl⟩,((s.trans sT).trans s5).later hl,af⟩;rw [HZ,FO];rfl
 ·rintro zs σ' H' ⟨rfl,_,s,e⟩;exact ⟨⟨xs,ys,SqL.of (s _ _ hx),SqL.of (s _ _ hy),.inl (A_ _)⟩,fin H' s e⟩
theorem pD {K:W.Frag} {σ:St} {H:Hp} {Q:VK} {te:TE} {l a b:Ω} {xs ys:List V} (F:Nat->V) (hx:H a=some (.tup xs)) (hy:H b=some (.tup ys)) (he:xs.length=ys.length) (hz:xs.length<=5000) (hl:H l=none)
  (step:∀ (i:Nat) x y H' (Q':VK),xs[i]?=some x->ys[i]?=some y->ah H H'->(∀ H5,ah H' H5->Q' (F i) H5)->te [some x,some y] H' Q')
  (fin:∀ H',ah H H'->H' l=some (.lst ((FG xs.length).map F))->Q (.ref l) H'):gO (zz K a b) (rA K 2 (gR (cT 0) (gR (cT 1) uP))) gU te [none,none] l σ H Q:=by
 refine ⟨xs.length,fun i zs σ' H'=>zs=(FG i).map F/\(∃ o o',σ'=[o,o'])/\ah H H'/\H' l=some (.lst zs),⟨rfl,⟨none,none,rfl⟩,ah.new hl,af⟩,?_,?_⟩
 ·rintro i zs σ' H' hi ⟨rfl,⟨o,o',rfl⟩,s,e⟩;refine ⟨⟨xs,ys,xs[i],ys[i]'(by omega),SqT.of (s _ _ hx),SqT.of (s _ _ hy),by simp [hi],by simp⟩,fun v H2 z=>?_⟩;obtain ⟨T,rfl,hT,z⟩:=z;obtain ⟨x,y,ex,ey,rfl⟩:=z xs ys (SqT.of (s _ _ hx)) (SqT.of (s _ _ hy));have sT:=ah.new (o:=HO.tup [x,y]) hT;refine iR af rfl (cP (b9 (cP (b9 (iQ (dA (lF ?_)))))));refine step i x y _ _ ex ey (s.trans sT) fun H5 s5=>⟨s5 _ _ (sT _ _ e),?_,?_⟩
  ·rw [Aj,GL];exact EU (by omega:i<6000) (by decide)
  ·refine ⟨?_,⟨_,_,rfl⟩,((s.trans sT).trans s5).later hl,af⟩;rw [HZ,FO];rfl
 ·rintro zs σ' H' ⟨rfl,_,s,e⟩;exact ⟨⟨xs,ys,SqT.of (s _ _ hx),SqT.of (s _ _ hy),A_ _⟩,fin H' s e⟩
end L2
namespace Sm
section
variable {nb:Pnt->List Pnt}
theorem Rnd.rot1 (G:Gr nb) {a b:Pnt} {l:List Pnt} (h:Rnd nb a b l):∃ c m,l=c::m/\Rnd nb b c (m++[a]):=by
 cases l with
 | nil=>exact absurd rfl (h.last G).2
 | cons c m =>
  obtain ⟨l1,l2⟩:=h.last G;have hc:=gy h.go;refine ⟨c,m,rfl,⟨hc.1,?_,?_,?_⟩⟩
  ·rw [cD];exact ⟨h.go.2,h.stop⟩
  ·rw [eY];exact nO G l1 h.adj (fun z=>l2 z.symm)
  ·have:=h.nd
   have e:(b::c::(m++[a]))=(b::c::m)++[a]:=rfl;rw [e,FZ];rw [EO] at this;refine ⟨this.2,by simp,fun x hx y hy z=>?_⟩;rw [Ξ.mp hy] at z;rw [z] at hx;exact this.1 hx
theorem Rnd.rot (G:Gr nb) {L:List Pnt}:∀ (k:Nat),k<=L.length->(∃ a b l,L=a::b::l/\Rnd nb a b l)->∃ a b l,L.drop k++L.take k=a::b::l/\Rnd nb a b l
 | 0,_,h=>by simpa using h
 | k+1,hk,h=>by
  obtain ⟨a,b,l,e,r⟩:=Rnd.rot G k (by omega) h;obtain ⟨c,m,rfl,r'⟩:=r.rot1 G;refine ⟨b,c,m++[a],?_,r'⟩;have hk':k<L.length:=by omega
  rw [FH hk',GU] at e;injection e with e1 e2;rw [Gn,ς hk',<- EI,e2,<- e1];rfl
theorem Rnd.rev (G:Gr nb) {a b:Pnt} {l:List Pnt} (h:Rnd nb a b l):∃ m,(a::b::l).reverse=(fin a b l).2::(fin a b l).1::m/\Rnd nb (fin a b l).2 (fin a b l).1 m:=by
 obtain ⟨m,h1,h2,h3⟩:=nX G h.adj h.go;obtain ⟨l1,l2⟩:=h.last G;refine ⟨m,h1,⟨G.sym (cM G h.adj h.go),h2,?_,?_⟩⟩
 ·rw [h3];exact nO G h.adj l1 l2
 ·rw [<- h1];exact (List.reverse_perm _).nodup_iff.mpr h.nd
theorem Rnd.back (G:Gr nb) {a b:Pnt} {l:List Pnt} (h:Rnd nb a b l):∃ m,a::(b::l).reverse=a::(fin a b l).2::m/\Rnd nb a (fin a b l).2 m:=by
 obtain ⟨m,e,r⟩:=h.rev G;obtain ⟨x,y,k,e2,r2⟩:=Rnd.rot G (L:=(a::b::l).reverse) (l.length+1) (by simp) ⟨_,_,m,e,r⟩;have e3:(a::b::l).reverse=(b::l).reverse++[a]:=by rw [HD]
 have hl:(b::l).reverse.length=l.length+1:=by simp
 rw [e3,<- hl,List.drop_left,List.take_left] at e2;have hne:b::l≠[]:=by simp
 have e4:(b::l).reverse.head?=some (fin a b l).2:=by
  rw [List.head?_reverse];have:=eX a b l
  rwa [Ja] at this
 have e5:a::(b::l).reverse=x::y::k:=e2;injection e5 with e6 e7;rw [e7,List.head?_cons] at e4
 cases Ez e4
 subst e6;exact ⟨k,by rw [e7],r2⟩
theorem ml:∀ {a b:Pnt} {l m:List Pnt},Go nb a b l->Go nb (fin a b l).1 (fin a b l).2 m->Go nb a b (l++m)
 | _,_,[],_,_,h=>h
 | a,b,c::l,m,g,h=>⟨g.1,ml (a:=b) (b:=c) (l:=l) g.2 h⟩
theorem jV:∀ (a b:Pnt) (l m:List Pnt),fin a b (l++m)=fin (fin a b l).1 (fin a b l).2 m
 | _,_,[],_=>rfl
 | a,b,c::l,m=>jV b c l m
theorem tE (G:Gr nb) {a b:Pnt} (h1:(nb a).length=1) (hb:b∈nb a):∀ (n:Nat) (l:List Pnt),l.length=n->Go nb a b l->a∉l
 | 0,l,hl,_=>by rw [FT hl]; simp
 | n+1,l,hl,g=>by
  have hne:l≠[]:=fun z=>by rw [z] at hl; simp at hl
  obtain ⟨m,x,rfl⟩:∃ m x,l=m++[x]:=⟨l.dropLast,l.getLast hne,(Ff hne).symm⟩
  rw [Bd,EL] at hl;obtain ⟨g1,g2⟩:=cD.mp g;have ih:=tE G h1 hb n m (by omega) g1;intro hm;rcases EG.mp hm with z | z
  ·exact ih z
  ·have z:=Ξ.mp z;subst z;have hx:a∈oth nb (fin a b m).1 (fin a b m).2:=by rw [g2]; exact Ξ.mpr rfl
   obtain ⟨x1,x2⟩:=aK.mp hx;have nd:=cm G hb m g1 ih;have hf:=G.sym x1
   have hfb:(fin a b m).2=b:=by
    match hq:nb a,h1,hb,hf with
    | [p],_,hb,hf=>exact (Ξ.mp hf).trans (Ξ.mp hb).symm
   cases m with
   | nil=>exact x2 rfl
   | cons c m =>
    have:=(bP b c m).1
    have e:(fin a b (c::m)).2=(fin b c m).2:=rfl;rw [<- e,hfb] at this;rw [EO,EO] at nd;exact nd.2.1 this
theorem vm (G:Gr nb) {q y y2:Pnt} {m m2:List Pnt} (hy:y∈nb q) (hy2:y2∈nb q) (hne:y≠y2) (g:Go nb q y m) (g2:Go nb q y2 m2) (s1:oth nb (fin q y m).1 (fin q y m).2=[]) (s2:oth nb (fin q y2 m2).1 (fin q y2 m2).2=[]) :
    ∃ a b l,(y2::m2).reverse++q::y::m=a::b::l/\jt nb a b l/\(fin a b l).2=(fin q y m).2:=by
  obtain ⟨k,e,gk,fk⟩:=nX G hy2 g2;have hadj:=G.sym (cM G hy2 g2);have e2:(y2::m2).reverse++q::y::m=(q::y2::m2).reverse++(y::m):=by rw [HD (a:=q)]; simp
  have h1:nb (fin q y2 m2).2=[(fin q y2 m2).1]:=by
    rcases hG G hadj with h | ⟨c,h⟩
    · have all:∀ x∈nb (fin q y2 m2).2,x=(fin q y2 m2).1:=fun x hx=>by
        by_cases z:x=(fin q y2 m2).1
        · exact z
        · have:x∈oth nb (fin q y2 m2).1 (fin q y2 m2).2:=aK.mpr ⟨hx,z⟩
          rw [h] at this; cases this
      match hq:nb (fin q y2 m2).2,hadj,all,G.nd (fin q y2 m2).2 with
      | [p],_,all,_=>rw [all p θ]
      | p::r::t,_,all,nd =>
        have a1:=all p θ;have a2:=all r (Θ _ θ);rw [a1,a2] at nd;simp at nd
    · rw [s2] at h; cases h
  have gg:Go nb (fin q y2 m2).2 (fin q y2 m2).1 (k++y::m):=by
    refine ml gk ?_;rw [fk];exact ⟨nO G hy2 hy hne,g⟩
  have hb:(fin q y2 m2).1∈nb (fin q y2 m2).2:=hadj;have hone:(nb (fin q y2 m2).2).length=1:=by rw [h1]; rfl
  have hf:fin (fin q y2 m2).2 (fin q y2 m2).1 (k++y::m)=fin q y m:=by rw [jV,fk]; rfl
  refine ⟨_,_,k++y::m,by rw [e2,e]; rfl,⟨hb,gg,hone,by rw [hf]; exact s1,cm G hb _ gg (tE G hone hb _ _ rfl gg)⟩,by rw [hf]⟩
end
end Sm
namespace L2
open PySem PySem.Spec PyProof.Rows PySem.W
def Au:V->List V->Hp->VK->Prop:=fun x vs H Q=>∃ (l:Ω) (xs:List V) (ds:List GS) (d:GS) (y:V) (j:Nat) (dj:GS),x=.ref l/\vs=[y]/\H l=some (.lst xs)/\RepL H ds xs/\Rep H d y/\G9 ds=true/\d.canLay0=true/\d.depth<=60 /\
 ds[j]?=some dj/\Fz dj d=true/\(∀ m dm,m<j->ds[m]?=some dm->Fz dm d=false)/\Q (.int (j:Nat)) H
theorem u9 {X:Cx} (hu:X.A.units+64<HH):MtM X "list.index" Au:=by
 intro pins s σ H x vs v us Q I rx rv h;obtain ⟨l,xs,ds,d,y,j,dj,rfl,rfl,hH,hr,hd,cl,cd,dd,hj,hit,hno,q⟩:=h
 cases rx;obtain ⟨u,rfl,ru⟩:=rv.one;obtain ⟨z,its,n,r,hl,e⟩:=I.lstM hH;obtain ⟨as,r1⟩:=RepL.reads I hr r;obtain ⟨bs,r2⟩:=hd.reads I ru;have em:=SeqAt.readsAll_map ds _ _ cl r1;have at':∀ (m:Nat) (hm:m<its.toArray.size),ds[m]?=some (SeqAt.readOf s.heap its.toArray[m]):=fun m hm=>by
  rw [<- em,EX,ς (by simpa using hm)];simp
 have hjl:j<its.toArray.size:=by
  have h1:=(Bc.mp hj).1;rw [<- em,Aj] at h1
  simpa using h1
 have hz:its.length<=sizeLine:=by omega
 refine MF F.slot_list_index ⟨_,e,rfl⟩ F.entry_list_index (F.args_list_index_2 _ _) (SeqAt.list_indexAt l its.toArray n none #[] u (fun y=>Fz (SeqAt.readOf s.heap y) d) j hjl ?_ ?_ ?_) ⟨e,SeqAt.items_eqAt (by simpa using r1) r2 cl cd ?_,⟨.int (j:Nat),H,I.tok _,⟨_,rfl⟩,q⟩⟩
 ·have h1:j<its.length:=by simpa using hjl
  rw [KU] at hz;omega
 ·have:=at' j hjl
  rw [hj] at this;rw [<- Ez this]; exact hit
 ·intro m hm hlt;exact hno m _ hlt (at' m hm)
 ·have:=Nat.min_le_right (Gm ds) d.depth
  omega
theorem wY {α β:Type} {f:α->Option β} {g:α->β}:∀ {l:List α},(∀ k∈l,f k=some (g k))->l.filterMap f=l.map g
 | [],_=>rfl
 | a::l,h=>by rw [HJ,h a θ,EW,wY fun k hk=>h k (Θ _ hk)]
theorem Dy {items:List Δ} (hne:items≠[]):Mc items.toArray none (some 0) (some (-1))=(items.drop 1).reverse.toArray:=by
  have hp:0<items.length:=MX.mpr hne;unfold Mc
  have eb:IC none (some 0) (some (-1)) items.toArray.size=((items.length:Int) - 1,0,-1):=by
    simp only [IC,EK];simp
    omega
  rw [eb]
  have er:sliceRange ((items.length:Int) - 1) 0 (-1)=(FG (items.length - 1)).map fun k=>items.length - 1 - k:=by
    unfold sliceRange;have h1:¬ ((-1:Int) > 0):=by decide
    by_cases h:(items.length:Int) - 1 > 0
    · have e:((items.length:Int) - 1 - 0 - -1 - 1) / (- -1)=((items.length - 1:Nat):Int):=by
        rw [show (- -1:Int)=1 by decide,Int.ediv_one]; omega
      simp only [h1,if_false,h,if_true,e,Gb];refine GK fun k hk=>?_;have:=FE.mp hk
      omega
    · have e:items.length - 1=0:=by omega
      rw [e];simp only [h1,if_false,h];rfl
  dsimp only;rw [er,Mp]
  congr 1
  rw [wY (g:=fun k=>items.getD (items.length - 1 - k) .none) (fun k hk=>?_)]
  · refine List.ext_getElem (by simp) fun k h1 h2=>?_
    rw [Aj,GL] at h1;rw [List.getElem_map,List.getElem_range,List.getElem_reverse,JH,Ex,ς (by omega)];simp only [Km,Fb]
    congr 1
    omega
  · have hk:=FE.mp hk
    show items.toArray[items.length - 1 - k]?=_
    rw [List.getElem?_toArray,Ex,ς (by omega)];rfl
def yi (K:W.Frag) (x:V) (H:Hp) (Q:VK):Prop:=∃ p ys,x=.ref p/\SqL K H p ys/\ys≠[]/\∀ l,H l=none->Q (.ref l) (upd H l (.lst (ys.drop 1).reverse))
def BR (K:W.Frag) (te:TE) (tu ts:TO):TE:=fun σ H Q=>te σ H fun x H1=>tu σ H1 fun u H2=>ts σ H2 fun k H3=>u=some 0/\k=some (-1)/\yi K x H3 Q
theorem uh {K:W.Frag} {te:TE} {tu ts:TO} {σ:St} {H:Hp} {Q:VK} (h:te σ H fun x H1=>tu σ H1 fun u H2=>ts σ H2 fun k H3=>u=some 0/\k=some (-1)/\yi K x H3 Q):BR K te tu ts σ H Q:=h
theorem uf {K:W.Frag} {a:Ω} {ys:List V} {H:Hp} {Q:VK} (e:H a=some (.lst ys)) (hne:ys≠[]) (h:∀ l,H l=none->Q (.ref l) (upd H l (.lst (ys.drop 1).reverse))):yi K (.ref a) H Q:=⟨a,ys,rfl,SqL.of e,hne,h⟩
theorem kq {X:Cx} {e:Fo} {te:TE} {up st:Fo} {tu ts:TO} {p2 pos:Il} (K:W.Frag) (hK:X.K=K) (he:PE X e te) (hup:PO X (some up) tu) (hst:PO X (some st) ts):PE X (.Subscript e (.Slice none (some up) (some st) p2) pos) (BR K te tu ts):=by
 subst hK;intro pins s σ H Q I h;refine MH (thn (he pins s σ H _ I h) fun v s1 ⟨x,H1,I1,r1,q1⟩=>?_);refine wpAny_Slice ?_
 (rw [Ky]; refine B_ ?_)
 refine thn (hup pins s1 σ H1 _ I1 q1) fun vu s2 ⟨ku,H2,I2,pu,q2⟩=>?_;refine thn (hst pins s2 σ H2 _ I2 q2) fun vs s3 ⟨k,H3,I3,pk,hu,hk,p,ys,hx,hl,hne,q3⟩=>?_;subst hk hx hu
 cases r1;have I4:Inv X pins σ H3 { s3 with heap:=s3.heap.push { cls:=.type "slice",data:=.fields #[.none,vu,vs] } }:=I3.kept (t':=s3.toks) fun b ob q=>χ _ q;obtain ⟨its,r,ht,hz⟩:=I4.list hl;have hlen:=r.length;have hni:its≠[]:=fun z=>hne (FT (by rw [hlen,z]; rfl))
 show EM (EZ X.prog X.w) X.A (Kx e (.Slice none (some up) (some st) p2) (.ref p) (.ref s3.heap.objs.size)) (EP X pins σ Q) X.xe { s3 with heap:=s3.heap.push { cls:=.type "slice",data:=.fields #[.none,vu,vs] } }
 refine tail_any (ops:=[.ref p,.ref s3.heap.objs.size]) ht.isList.typeIs Jj.lookup ?_ (by with_unfolding_all rfl);refine Js ht.isList (Jc ..) .none pu pk (by simp) ?_ (by rw [EK]<;>omega);rw [Dy hni]
 have rv:Vals (ys.drop 1).reverse (its.drop 1).reverse:=by
  refine Vals.rev ?_
  cases r with
  | nil => exact .nil
  | cons _ t => exact t
 refine ⟨.ref _,_,I4.laid (t':=s3.toks) (o:=.lst (ys.drop 1).reverse) (fun b ob q=>χ _ q) (A_ _) ?_,rfl,q3 _ (I4.hok.fresh (A_ _))⟩;exact ⟨by rw [F0,Fb]; omega,_,0,rv,EB _ rfl⟩
def wC (T:String) (v d:Ω) (h:FD):Prop:=∃ o,h.get? v=some o/\o.cls=.type T/\o.data=.fields #[.ref d]
noncomputable def iy (T:String) (v d:Ω):HO:=.ext (wC T v d)
theorem Bj {P:ER} {w:E2} {H:Hp} {h:FD} {T:String} {d:Ω}:bg P w H (h.push { cls:=.type T,data:=.fields #[.ref d] }) h.objs.size (iy T h.objs.size d) :=
 ⟨⟨_,EB _ rfl,rfl,rfl⟩,⟨_,EB _ rfl⟩,fun h1 h2 ⟨o,e,r⟩ k=>⟨o,k o e,r⟩⟩
def BF (T:String):V->List V->Hp->VK->Prop:=fun x xs H Q=>∃ d kvs,x=.ref d/\xs=[]/\H d=some (.dK kvs)/\∀ v,H v=none->Q (.ref v) (upd H v (iy T v d))
section
variable {X:Cx}
theorem xF:MtR X "dict.items" (BF "dict_items"):=by
 intro pins s σ H x xs v us Q I rx rs h;obtain ⟨d,kvs,rfl,rfl,hd,q⟩:=h
 cases (show v=E3 d from rx)
 cases rs;obtain ⟨_,lo,vs,_,dd⟩:=tq I.hok hd;exact call_meetsIn LO dd.typeIs PySem.F.entry_dict_items (PySem.F.args_dict_items_1 _) (meets_dict_items (bJ X.prog X.w) d lo)
  ⟨⟨vs,dd⟩,.ref s.heap.objs.size,_,I.laid (a:=s.heap.objs.size) (o:=iy "dict_items" s.heap.objs.size d) (t':=s.toks) (fun b u e=>χ _ e) (A_ _) Bj,rfl,q _ (I.hok.fresh (A_ _))⟩
end
theorem xw {κ:Type}:∀ {kvs:List (κ×V)} {vs:List (κ×Δ)} {i:Nat} {k:κ} {u:Δ},KV kvs vs->vs[i]?=some (k,u)->∃ x,kvs[i]?=some (k,x)/\aU x u
 | _,_,_,_,_,.nil,e=>by simp at e
 | _,_,0,k,u,.cons (a:=p) r t,e=>by
  (simp only [Fj,F7] at e; subst e)
  exact ⟨p.2,congrArg some (Fg r.1 rfl),r.2⟩
 | _,_,i+1,k,u,.cons r t,e=>by
  obtain ⟨x,h1,h2⟩:=xw (i:=i) t (by simpa using e);exact ⟨x,by simpa using h1,h2⟩
theorem zV {P:ER} {w:E2} {k:Key} {u:Δ} (h:(bJ P w).is k u=true):aU (kV k) u:=by
 rcases bD (show j0 k u=true from h) with ⟨i,t,rfl,rfl⟩ | ⟨x,t,rfl,rfl⟩
 ·exact ⟨t,rfl⟩
 ·exact ⟨t,rfl⟩
theorem yF {H:Hp} {Q:VK} {T:String} {d:Ω} {kvs:List (Key×V)} (hd:H d=some (.dK kvs)) (q:∀ v,H v=none->Q (.ref v) (upd H v (iy T v d))):BF T (.ref d) [] H Q:=⟨d,kvs,rfl,rfl,hd,q⟩
theorem CN {K:W.Frag} {H:Hp} {d:Ω} {kvs:List (Key×V)} {q:Prop} (hd:H d=some (.dK kvs)) (hq:q):rBM K "dict" (.ref d) H q:=⟨.inr (.inr (.inl ⟨rfl,.inl ⟨kvs,hd⟩⟩)),hq⟩
end L2
namespace Fm
noncomputable abbrev jR:=List L2.Key
noncomputable abbrev Tie:=jR×jR×Int
inductive Con (F:List Tie):jR->jR->Prop
 | refl (a:jR):Con F a a
 | fwd {a b c:jR} {w:Int}:Con F a b->(b,c,w)∈F->Con F a c
 | bwd {a b c:jR} {w:Int}:Con F a b->(c,b,w)∈F->Con F a c
end Fm
namespace L2
open PySem PySem.Spec PyProof.Rows PySem.W
theorem ym {σ:St} {H:Hp} {Q:VK} (h:∀ p,H p=none->Q (.ref p) (upd H p (.dK []))):zh σ H Q:=h
def DC (x:V) (H:Hp) (q:Ω->Prop):Prop:=∃ a,x=.ref a/\IsD H a/\q a
theorem AG {H:Hp} {a:Ω} {kvs:List (Key×V)} {q:Ω->Prop} (h:H a=some (.dK kvs)) (k:q a):DC (.ref a) H q:=⟨a,rfl,.inl ⟨kvs,.inl h⟩,k⟩
noncomputable def sx (i:Int):List Key:=[.inr "x",.inl i]
noncomputable def sy (i:Int):List Key:=[.inr "y",.inl i]
theorem qS {κ:Type} [DecidableEq κ] {kvs:List (κ×V)} {k:κ}:(bG kvs k).isSome=true↔k∈kvs.map (·.1):=by
 rw [<- dW,List.any_eq_true];constructor
 ·rintro ⟨p,hp,e⟩; exact EE.mpr ⟨p,hp,of_decide_eq_true e⟩
 ·intro h;obtain ⟨p,hp,e⟩:=EE.mp h;exact ⟨p,hp,decide_eq_true e⟩
def gV (S:List Ω) (H H':Hp):Prop:=∀ b o,H b=some o->b∉S->H' b=some o
theorem gV.refl (S:List Ω) (H:Hp):gV S H H:=fun _ _ e _=>e
theorem ah.butL {H H':Hp} (s:ah H H') (S:List Ω):gV S H H':=fun b o e _=>s b o e
theorem gV.trans {S:List Ω} {H H1 H2:Hp} (a:gV S H H1) (b:gV S H1 H2):gV S H H2:=fun c o e n=>b c o (a c o e n) n
theorem gV.upd {S:List Ω} {H H1:Hp} {p:Ω} {o:HO} (a:gV S H H1) (h:p∈S):gV S H (L2.upd H1 p o):=fun c o' e n=>by
 rw [aj (fun z=>n (by rw [z]; exact h))]; exact a c o' e n
end L2
namespace L2
open PySem PySem.Spec PyProof.Rows
end L2
namespace L2
open PySem PySem.Spec PyProof.Rows PySem.W
def zy (P:ER) (w:E2) (d:Ω) (kvs:List (Key×V)) (vs:List (Key×Δ)) (ep:Nat) (h:FD):Prop:=kvs.length<=EF/\(d==G2)=false/\KV kvs vs/\h.DictAt (bJ P w) d vs ep
noncomputable def FzO (P:ER) (w:E2) (d:Ω) (kvs:List (Key×V)) (vs:List (Key×Δ)) (ep:Nat):HO:=.ext (zy P w d kvs vs ep)
def uD (P:ER) (w:E2) (d:Ω) (kvs:List (Key×V)) (F:HO):Prop:=∃ vs ep,F=FzO P w d kvs vs ep
theorem uD.ext {P:ER} {w:E2} {d:Ω} {kvs:List (Key×V)} {F:HO} (h:uD P w d kvs F):∃ φ,F=.ext φ:=let ⟨_,_,e⟩:=h; ⟨_,e⟩
section
variable {X:Cx} {pins:List (Ω×HC)} {σ:St} {H:Hp} {s:A2} {d:Ω} {kvs:List (Key×V)} {vs:List (Key×Δ)} {ep:Nat}
theorem Inv.freeze (I:Inv X pins σ H s) (hd:H d=some (.dK kvs)):∃ vs ep,Inv X pins σ (upd H d (FzO X.prog X.w d kvs vs ep)) s/\s.heap.DictAt (bJ X.prog X.w) d vs ep:=by
 obtain ⟨z,lo,vs,rel,dd⟩:=tq I.hok hd;obtain ⟨ep,at'⟩:=dd.dictAt;obtain ⟨o,es,ho,r⟩:=id at';exact ⟨vs,ep,I.write (e:=d) (t':=s.toks) (h':=s.heap) (by rw [hd]; trivial) (.inl rfl) (fun _ _ _ q=>q) ⟨o,ho⟩ ⟨⟨z,lo,rel,at'⟩,⟨o,ho⟩,fun h1 h2 ⟨a1,a2,a3,a4⟩ k=>⟨a1,a2,a3,a4.at' k⟩⟩,at'⟩
theorem Inv.thaw {F:HO} (I:Inv X pins σ H s) (hF:uD X.prog X.w d kvs F) (hd:H d=some F):Inv X pins σ (upd H d (.dK kvs)) s:=by
 obtain ⟨vs,ep,rfl⟩:=hF;obtain ⟨⟨z,lo,rel,at'⟩,⟨o,ho⟩,_⟩:=(show bg X.prog X.w H s.heap d (.ext (zy X.prog X.w d kvs vs ep)) from I.hok d _ hd)
 exact I.write (e:=d) (t':=s.toks) (h':=s.heap) (by rw [hd]; trivial) (.inl rfl) (fun _ _ _ q=>q) ⟨o,ho⟩ ⟨z,lo,vs,rel,at'.dictOf⟩
end
def Di (P:ER) (w:E2) (H1 H2:Hp):Prop:=∃ d kvs F,uD P w d kvs F/\H1 d=some F/\H2=upd H1 d (.dK kvs)
def zm (P:ER) (w:E2) (ts:TS):TS:=fun D σ H=>ts { D with nx:=fun σ1 H1=>∃ H2,Di P w H1 H2/\D.nx σ1 H2 } σ H
theorem Ao {X:Cx} {st:Jd} {ts:TS} (h:PS X st ts):PS X st (zm X.prog X.w ts):=by
 intro pins s σ H D I q;refine GO (h pins s σ H _ I q) (fun f s1 q1=>?_) fun _ _ z=>z
 cases f with
 | next =>
  obtain ⟨σ',H',I',H2,⟨d,kvs,F,hF,hd,rfl⟩,q2⟩:=q1;exact ⟨σ',_,I'.thaw hF hd,q2⟩
 | brk=>exact q1
 | cont=>exact q1
 | ret u=>exact q1
theorem yE {P:ER} {w:E2} {ts:TS} {D:dn} {σ:St} {H:Hp} (h:ts { D with nx:=fun σ1 H1=>∃ H2,Di P w H1 H2/\D.nx σ1 H2 } σ H):zm P w ts D σ H:=h
noncomputable def Iti (d:Ω) (F:HO) (kvs:List (Key×V)):It :=
 ⟨fun i H=>H d=some F/\i<kvs.length,fun i H x H'=>∃ b k v,kvs[i]?=some (k,v)/\x=.ref b/\H b=none/\H'=upd H b (.tup [kV k,v]),fun i H=>H d=some F/\kvs.length<=i⟩
theorem sN {P:ER} {w:E2} {K:W.Frag} {elts:List Fo} {kt:Nat} {pt:Il} (d it:Ω) (kvs:List (Key×V)) (vs:List (Key×Δ)) (ep:Nat) :
    oY P w K (.Tuple elts kt pt) (Iti d (FzO P w d kvs vs ep) kvs) [it] it (fun i h=>∃ ok ov,IsItemIter h it d i vs.length ep ok ov) where
  mem:=by simp
  obj:=fun i h st b hb=>by
    have e:b=it:=by simpa using hb
    subst e;obtain ⟨ok,ov,e⟩:=st;exact ⟨_,e,fun v z=>by cases z⟩
  keep:=fun i h h' ⟨ok,ov,e⟩ k=>⟨ok,ov,k it (by simp) _ e⟩
  item:=by
    intro X hP hw hK hc i pins s σ H E I hf st hg;subst hP hw hK;obtain ⟨hd,hi⟩:=hg;obtain ⟨ok,ov,st⟩:=st;obtain ⟨⟨z,lo,rel,at'⟩,_,_⟩:=(show bg X.prog X.w H s.heap d (.ext (zy X.prog X.w d kvs vs ep)) from I.hok d _ hd)
    have hl:i<vs.length:=by rw [<- rel.length]; exact hi
    obtain ⟨⟨k,u⟩,hu⟩:∃ q,vs[i]?=some q:=⟨_,ς hl⟩
    obtain ⟨x,hx,ru⟩:=xw rel hu;have lti:it<s.heap.objs.size:=EC st;refine wpAny_pyNext_items_item st at' hu fun key h' hkey ho hT hsz hk=>?_;refine ⟨_,rfl,wpAny_letOwnedTupleGo_items (s:={ s with heap:=h' }) ho fun h2 he2 hs=>?_⟩;have kk:∀ c o,c∉[it]->s.heap.get? c=some o->h2.get? c=some o:=fun c o hc e=>by
      rw [Ξ] at hc;exact hs.extBut c o hc (hk c o hc e)
    have qT:=hs.extBut _ _ (GH (EH lti)) hT;have I1:Inv X pins σ (upd H s.heap.objs.size (.tup [kV k,x])) { s with heap:=h2 }:=I.turnedL (t':=s.toks) (ch:=[it]) kk hf (fun c hc=>by
        rw [Ξ] at hc;subst hc;exact ⟨_,he2⟩) (A_ _) ⟨by show 2<=EF; decide,[key,u],.cons (zV hkey) (.cons ru .nil),_,qT,rfl,_,rfl⟩
    refine ⟨.ref s.heap.objs.size,_,I1,rfl,⟨_,k,x,hx,rfl,I.hok.fresh (A_ _),rfl⟩,⟨_,_,he2⟩,fun c hc=>?_⟩;have ec:=Ξ.mp hc;subst ec;rw [aj (EH lti)];exact (hf c hc).1
  done:=by
    intro X hP hw hK hc i pins s σ H E I hf st hg;subst hP hw hK;obtain ⟨hd,hi⟩:=hg;obtain ⟨ok,ov,st⟩:=st;obtain ⟨⟨z,lo,rel,at'⟩,_,_⟩:=(show bg X.prog X.w H s.heap d (.ext (zy X.prog X.w d kvs vs ep)) from I.hok d _ hd)
    obtain ⟨f0,f1,f2,f3,f4,f5⟩:=hf it (by simp);exact wpAny_pyNext_items_end (I.ok.hd hc) st at' (Gg (by rw [<- rel.length]; exact hi)) fun h' eb=>⟨rfl,I.turned (t':=s.toks) (fun b o hb e=>eb b o hb e) f0 f1 f3 f4 f5⟩
  self:=fun _ _ _ _ _ ⟨_,_,st⟩ h=>kcp_self st h
def xk (P:ER) (w:E2) (tl:TE):TI:=fun σ H R=>tl σ H fun x H1=>∃ v d kvs,x=.ref v/\H1 v=some (iy "dict_items" v d)/\H1 d=some (.dK kvs)/\∀ F,uD P w d kvs F->R (Iti d F kvs) (upd H1 d F)
theorem xW {X:Cx} {elts:List Fo} {kt:Nat} {pt:Il} {l:Fo} {tl:TE} (hl:PE X l tl):PI X (.Tuple elts kt pt) l (xk X.prog X.w tl):=by
 intro pins s σ H R I h;refine thn (hl pins s σ H _ I h) fun v s1 ⟨x,H1,I1,r1,q1⟩=>?_;obtain ⟨vw,d,kvs,e,hv,hd,q⟩:=q1;subst e
 cases r1;obtain ⟨vs,ep,I2,at'⟩:=I1.freeze hd;have vv:s1.heap.IsItemsView vw d:=(show bg X.prog X.w H1 s1.heap vw (.ext (wC "dict_items" vw d)) from I1.hok vw _ hv).1;refine wpAny_pyIter_items vv at' ?_;refine ⟨s1.heap.objs.size,[s1.heap.objs.size],_,_,_,rfl,I2.kept (t':=s1.toks) fun b o e=>χ _ e,sN d _ kvs vs ep,⟨_,_,EB _ rfl⟩,fun b hb=>?_,q _ ⟨vs,ep,rfl⟩⟩;have e:b=s1.heap.objs.size:=by simpa using hb
 subst e;exact I2.fpOk (A_ _) (I2.hok.fresh (A_ _))
theorem vH {P:ER} {w:E2} {tl:TE} {σ:St} {H:Hp} {R:It->Hp->Prop} (h:tl σ H fun x H1=>∃ v d kvs,x=.ref v/\H1 v=some (iy "dict_items" v d)/\H1 d=some (.dK kvs)/\∀ F,uD P w d kvs F->R (Iti d F kvs) (upd H1 d F)):xk P w tl σ H R:=h
theorem rq {σ:St} {H:Hp} {d:Ω} {F:HO} {kvs:List (Key×V)} {g:TG} {tb:TS} {D:dn} (Pv:Nat->St->Hp->Prop) (h0:Pv 0 σ H) (hl:∀ i σ H,i<=kvs.length->Pv i σ H->H d=some F)
  (hs:∀ i k v b σ H,kvs[i]?=some (k,v)->Pv i σ H->H b=none->g (.ref b) σ (upd H b (.tup [kV k,v])) fun σ2 H2=>tb { D with nx:=Pv (i+1),ct:=Pv (i+1),bk:=D.nx } σ2 H2) (hd:∀ σ H,Pv kvs.length σ H->D.nx σ H):uB (Iti d F kvs) g tb D σ H:=by
 refine ⟨fun i m σ H=>m=kvs.length - i/\i<=kvs.length/\Pv i σ H,⟨kvs.length,by simp,En _,h0⟩,?_⟩;rintro i m σ H ⟨rfl,hi,p⟩;have q:=hl i σ H hi p;by_cases hlt:i<kvs.length
 ·refine .inr ⟨⟨q,hlt⟩,Pv (i+1),fun σ' H' p'=>⟨kvs.length - (i+1),by omega,rfl,hlt,p'⟩,fun x H' y=>?_⟩;obtain ⟨b,k,v,hk,rfl,hb,rfl⟩:=y;exact hs i k v b σ _ hk p hb
 ·have e:i=kvs.length:=by omega
  subst e;exact .inl ⟨⟨q,A_ _⟩,hd σ H p⟩
section
variable {K:W.Frag} {σ:St} {H:Hp} {Q:VK} {te:TE} {tt:TT} {cap:List (Option Nat)} {l:Ω}
theorem jg {a:Ω} {xs:List V} (ys:List V) (hy:ys.length=xs.length) (hs:SqL K H a xs) (hz:xs.length<=1000) (hl:H l=none)
  (step:∀ (i:Nat) x y o H' (Q':VK),xs[i]?=some x->ys[i]?=some y->ah H H'->(∀ H5,ah H' H5->Q' y H5)->te (((eQ (none::cap) σ).set 0 o).set 0 (some x)) H' Q')
  (fin:∀ H',ah H H'->H' l=some (.lst ys)->Q (.ref l) H'):gO (Itl K a) (cT 0) gU te (none::cap) l σ H Q:=by
 refine ⟨xs.length,fun i zs σ' H'=>zs=ys.take i/\(∃ o,σ'=(eQ (none::cap) σ).set 0 o)/\ah H H'/\H' l=some (.lst zs),⟨rfl,⟨none,rfl⟩,ah.new hl,af⟩,?_,?_⟩
 ·rintro i zs σ' H' hi ⟨rfl,⟨o,rfl⟩,s,e⟩;refine ⟨⟨xs,xs[i],s.seq hs,by simp [hi]⟩,fun x H2 y=>?_⟩;obtain ⟨e2,y⟩:=y;subst e2;have hx:=y xs (s.seq hs);have hyi:i<ys.length:=by omega
  refine b9 (dA (lF ?_));refine step i x ys[i] o H2 _ hx (ς hyi) s fun H5 s5=>⟨s5 _ _ e,?_,?_⟩
  ·rw [E7];exact fm (by omega)
  ·exact ⟨Ll hyi,⟨_,Iz ..⟩,(s.trans s5).later hl,af⟩
 ·rintro zs σ' H' ⟨rfl,_,s,e⟩;rw [EN (by omega)] at e;exact ⟨⟨xs,s.seq hs,A_ _⟩,fin H' s e⟩
end
theorem AU {σ:St} {H:Hp} {ta:TA} {R:It->Hp->Prop} (h:ta σ H fun vs H1=>∃ i j:Int,vs=[.int i,.int j]/\(-(2 ^ 62)<=i/\i<2 ^ 62/\-(2 ^ 62)<=j/\j<2 ^ 62)/\R (Itr i (j - i).toNat) H1):Bs ta σ H R:=h
end L2
namespace PySem
end PySem
namespace PyProof.Rows
open PySem PySem.Spec
end PyProof.Rows
namespace PySem
open PySem.Spec PyProof.Rows
end PySem
namespace L2
open PySem PySem.Spec PyProof.Rows PySem.W
end L2
namespace L2
open PySem PySem.Spec PyProof.Rows
section
variable {K:W.Frag} {x qual:Str} {st:Jd} {f:Ω} {fd:GB}
theorem Fun.b1 {p0:Str} (F:Fun K x qual st f fd) (h:∀ (kV doc pm:Δ) (an:Option Ω) (cdv ct a0:Δ),J4 (W.fnOf x qual (c8 st) (cC st) (ak st) .none kV doc pm an cdv ct) ⟨[a0],[]⟩=pure [(p0,a0)]):aH K fd [p0] [] :=
 F.binds fun kV doc pm an cdv ct us hl=>by obtain ⟨a0,rfl⟩:=Ed hl; exact h kV doc pm an cdv ct a0
theorem Fun.b2 {p0 p1:Str} (F:Fun K x qual st f fd) (h:∀ (kV doc pm:Δ) (an:Option Ω) (cdv ct a0 a1:Δ),J4 (W.fnOf x qual (c8 st) (cC st) (ak st) .none kV doc pm an cdv ct) ⟨[a0,a1],[]⟩=pure [(p0,a0),(p1,a1)]):aH K fd [p0,p1] [] :=
 F.binds fun kV doc pm an cdv ct us hl=>by obtain ⟨a0,a1,rfl⟩:=Ee hl; exact h kV doc pm an cdv ct a0 a1
theorem Fun.b3 {p0 p1 p2:Str} (F:Fun K x qual st f fd) (h:∀ (kV doc pm:Δ) (an:Option Ω) (cdv ct a0 a1 a2:Δ),J4 (W.fnOf x qual (c8 st) (cC st) (ak st) .none kV doc pm an cdv ct) ⟨[a0,a1,a2],[]⟩=pure [(p0,a0),(p1,a1),(p2,a2)]):aH K fd [p0,p1,p2] [] :=
 F.binds fun kV doc pm an cdv ct us hl=>by obtain ⟨a0,a1,a2,rfl⟩:=Ef hl; exact h kV doc pm an cdv ct a0 a1 a2
theorem Fun.b4 {p0 p1 p2 p3:Str} (F:Fun K x qual st f fd) (h:∀ (kV doc pm:Δ) (an:Option Ω) (cdv ct a0 a1 a2 a3:Δ),J4 (W.fnOf x qual (c8 st) (cC st) (ak st) .none kV doc pm an cdv ct) ⟨[a0,a1,a2,a3],[]⟩=pure [(p0,a0),(p1,a1),(p2,a2),(p3,a3)]):aH K fd [p0,p1,p2,p3] [] :=
 F.binds fun kV doc pm an cdv ct us hl=>by obtain ⟨a0,a1,a2,a3,rfl⟩:=Eg hl; exact h kV doc pm an cdv ct a0 a1 a2 a3
theorem Fun.b5 {p0 p1 p2 p3 p4:Str} (F:Fun K x qual st f fd) (h:∀ (kV doc pm:Δ) (an:Option Ω) (cdv ct a0 a1 a2 a3 a4:Δ),J4 (W.fnOf x qual (c8 st) (cC st) (ak st) .none kV doc pm an cdv ct) ⟨[a0,a1,a2,a3,a4],[]⟩=pure [(p0,a0),(p1,a1),(p2,a2),(p3,a3),(p4,a4)]):aH K fd [p0,p1,p2,p3,p4] [] :=
 F.binds fun kV doc pm an cdv ct us hl=>by obtain ⟨a0,a1,a2,a3,a4,rfl⟩:=Eh hl; exact h kV doc pm an cdv ct a0 a1 a2 a3 a4
theorem Fun.bl {p:Str} (F:Fun K x qual st f fd) (h:∀ (kV doc pm:Δ) (an:Option Ω) (cdv ct a:Δ),J4 (W.fnOf x qual (c8 st) (cC st) (ak st) .none kV doc pm an cdv ct) ⟨[a],[]⟩=pure [(p,a)]) (s:A2) (v:Δ):MB s fd ⟨[v],[]⟩ [(p,v)]:=by
 obtain ⟨_,_,kV,doc,pm,an,cdv,ct,_,rfl,_,_⟩:=F.ex;exact .of_eq (h kV doc pm an cdv ct v)
end
theorem aw.by {N P:List Str} {sc:Jl} (h1:sc.kind=.function:=by rfl) (h2:sc.isCoroutine=false:=by rfl) (h3:sc.isGenerator=false:=by rfl) (h4:N.Nodup:=by decide +kernel) (h5:N.take P.length=P:=by rfl) (h6:∀ x∈P,sc.names.lookup x=some .local\/sc.names.lookup x=some .cell:=by decide +kernel) (h7:∀ y∈sc.names,y.2≠.free:=by decide +kernel):aw N P sc:=⟨h1,h2,h3,h4,h5,h6,h7⟩
end L2
namespace L2
open PySem PySem.Spec PyProof.Rows PySem.W
section
variable {prog:ER} {w:E2} {κ:Type} [DecidableEq κ] {knd:KeyKind prog w κ} {A:E5} {E:Δ->A2->Prop} {s:A2} {d:Ω} {kvs:List (κ×Δ)} {k:κ} {key v:Δ}
theorem A3 {Q:Δ->A2->Prop} (hkey:knd.is k key=true) (hm:s.heap.DictOf knd d kvs) (hz:kvs.length<=EF) (no:k∉kvs.map (·.1))
  (q:∀ h',h'.DictOf knd d (kvs++[(k,v)])->G0 d s.heap h'->Q v { s with heap:=h',toks:=s.toks+1 }):EM (EZ prog w) A (ME d key v) Q E s:=by
 obtain ⟨o,es,ep,ho,hc,hd,hk,hp,hn⟩:=hm
 have se:es.size<=sizeLine:=by
  have:=hp.length
  rw [Eo] at this;omega
 have nf:(es.findIdx? fun e=>knd.is k e.key)=none:=by
  have e1:(es.toList.findIdx? fun e=>knd.is k e.key)=kvs.findIdx? fun kv=>decide (kv.1=k):=hp.findIdx k;have e2:(es.findIdx? fun e=>knd.is k e.key)=es.toList.findIdx? fun e=>knd.is k e.key:=by obtain ⟨l⟩:=es; simp
  rw [e2,e1,List.findIdx?_eq_none_iff];intro kv hkv;exact decide_eq_false fun z=>no (EE.mpr ⟨kv,hkv,z⟩)
 unfold ME
 (try with_reducible refine Gd ?_)
 refine ξ (knd.pyHash hkey (ξ (wpAny_dictFind_of (s:={ s with toks:=s.toks+1 }) hkey ho hd hk ?_)));rw [nf];refine ξ (GX (ξ (wpAny_updateDictKeys (hz:=se) (s:={ s with toks:=s.toks+1 }) ho hd (B_ (q _ ⟨_,_,ep+1,G6 _ ho (Obj.isFreed_of_dict (MW hd _)),hc.mapDictKeys _,MW hd _,hk.push hkey _,?_,?_⟩ (Jb ..))))))
 ·obtain ⟨l⟩:=es;simp only [List.push_toArray];exact hp.append hkey _ v
 ·rw [FO,FZ];exact ⟨hn,by simp,fun x hx y hy z=>no (by rw [KP,Ξ] at hy; rw [<- (show y=k from hy),<- z]; exact hx)⟩
theorem vR (hkey : knd.is k key = true) (hd : (d == G2) = false) : MeetsIn prog w (IK.«dict.setdefault» ⟨[.ref d, key, v], []⟩) (fun _ R s => ∃ kvs, s.heap.DictOf knd d kvs /\ kvs.length <= EF /\
      (∀ u,Ji kvs k=some u->R (.ok (.ret u)) { s with toks:=s.toks+1 }) /\
      (k∉kvs.map (·.1)->∀ h',h'.DictOf knd d (kvs++[(k,v)])->G0 d s.heap h'->R (.ok (.ret v)) { s with heap:=h',toks:=s.toks+1 })) :=
  .of_wp fun A R s ⟨kvs,hm,hz,h1,h2⟩=>by
    have ti:=hm.typeIs;unfold IK.«dict.setdefault» Builtin.Dict.keyAndDefault
    (refine ξ (ξ (wpAny_notOrdered_dict ti ?_)); show EM _ _ (pure (d,key,some v)) _ _ s; refine B_ ?_)
    (show EM _ _ (if (d==G2)=true then _ else (ME d key v >>= _)) _ _ s; rw [if_neg (by rw [hd]; exact E4)])
    by_cases hk:k∈kvs.map (·.1)
    · have hz':s.heap.DictLe d sizeLine:=by
        obtain ⟨o,es,ep,ho,_,hdd,_,hp,_⟩:=id hm;intro o' es' ep' ho' hd';rw [ho] at ho'
        cases ho';rw [hdd] at hd'
        cases hd';have:=hp.length
        rw [Eo] at this;omega
      refine ξ (wpAny_dictSetDefault_of (hz:=hz') hkey hm.mapOf (fun u hu=>B_ ⟨u,rfl,h1 u hu⟩) fun hn=>?_);exfalso
      unfold Ji at hn;rw [Option.map_eq_none_iff,List.find?_eq_none] at hn;obtain ⟨kv,hkv,e⟩:=EE.mp hk;exact hn kv hkv (decide_eq_true e)
    · exact ξ (A3 hkey hm hz hk fun h' hm' hs'=>B_ ⟨v,rfl,h2 hk h' hm' hs'⟩)
end
theorem tP {κ:Type} {k:κ} {z:V} {r:Δ} (rz:aU z r):∀ {kvs:List (κ×V)} {vs:List (κ×Δ)},KV kvs vs->KV (kvs++[(k,z)]) (vs++[(k,r)])
 | _,_,.nil=>.cons ⟨rfl,rz⟩ .nil
 | _,_,.cons a t=>.cons a (tP rz t)
section
variable {X:Cx} {pins:List (Ω×HC)} {σ:St} {H:Hp} {s:A2} {a:Ω} {z:V} {r u:Δ} {A:E5} {E:Δ->A2->Prop} {kvs:List (Key×V)} {k:Key}
theorem zJ {Q:Δ->A2->Prop} (I:Inv X pins σ H s) (e:H a=some (.dK kvs)) (ry:aU (kV k) u) (hl:kvs.length<EF) (rz:aU z r)
    (h1:∀ v,bG kvs k=some v->∀ w' s',Inv X pins σ H s'->aU v w'->Q w' s') (h2:bG kvs k=none->∀ s',Inv X pins σ (upd H a (.dK (cS kvs k z))) s'->Q r s') :
    EM (EZ X.prog X.w) A (call (.builtin "dict.setdefault") [.ref a,u,r]) Q E s:=by
  obtain ⟨zl,hd,vs,rel,dd⟩:=tq I.hok e;have hl':(cS kvs k z).length<=sizeLine:=by have:=d8 kvs k z; omega
  have rv:=rel.val k;refine call_meetsIn Ks dd.typeIs PySem.F.entry_dict_setdefault (PySem.F.args_dict_setdefault_3 _ _ _) (vR (knd:=bJ X.prog X.w) (pM ry) hd)
    ⟨vs,dd,by rw [<- rel.length]; exact zl,fun p hp=>?_,fun hp h' dd' hs=>?_⟩
  · rw [hp] at rv
    cases hv:bG kvs k with
    | none=>rw [hv] at rv; exact absurd rv (by intro z; cases z)
    | some v =>
      rw [hv] at rv;exact h1 v hv _ _ (I.tok _) rv
  · have hv:bG kvs k=none:=by
      cases hv:bG kvs k with
      | none=>rfl
      | some v =>
        exfalso
        rw [hv] at rv
        cases hq:Ji vs k with
        | none=>rw [hq] at rv; exact rv
        | some q =>
          unfold Ji at hq;obtain ⟨kv,h3,_⟩:=JX.mp hq;have h4:=List.find?_some h3;exact hp (EE.mpr ⟨kv,List.mem_of_find?_eq_some h3,of_decide_eq_true h4⟩)
    have he:∃ q,h'.get? a=some q:=let ⟨q,_,_,hq,_⟩:=dd'; ⟨q,hq⟩;have es:cS kvs k z=kvs++[(k,z)]:=kE z hv;refine h2 hv _ (m7 I (by rw [e]; exact HG) hs he (wU hl' hd ?_ dd'));rw [es];exact tP rz rel
end
def ur (td ty tx:TE):TE:=fun σ H Q=>td σ H fun x H1=>∃ a,x=.ref a/\IsD H1 a/\ty σ H1 fun y H2=>tx σ H2 fun z H3=>∃ kvs k,y=kV k/\H3 a=some (.dK kvs)/\kvs.length<EF /\
 (∀ v,bG kvs k=some v->Q v H3)/\(bG kvs k=none->Q z (upd H3 a (.dK (cS kvs k z))))
theorem vq {X:Cx} {o e f:Fo} {apos cpos:Il} {td ty tx:TE} (ho:PE X o td) (he:PE X e ty) (hf:PE X f tx) (m:M2 X o "setdefault" apos e f cpos):PE X (.Call (.Attribute o "setdefault" apos) [e,f] [] cpos) (ur td ty tx):=by
 intro pins s σ H Q I h;refine wpAny_Call_method m.base m.few m.line LP Ks PySem.F.type_dict_setdefault (thn (ho pins s σ H _ I h) fun u s1 ⟨x,H1,I1,rx,a,ex,d,q1⟩=>?_);subst ex;obtain rfl:u=E3 a:=rx
 obtain ⟨t1,t2,_⟩:=B8 I1 d;refine ⟨t1,t2,?_⟩;rw [m.trees];refine Jg rfl (J7 (HV (thn (he pins s1 σ H1 _ I1 q1) fun iv s2 ⟨y,H2,I2,ry,q2⟩ =>
  HV (thn (hf pins s2 σ H2 _ I2 q2) fun fv s3 ⟨z,H3,I3,rz,kvs,k,ey,e3,hl,k1,k2⟩=>IJ ?_))))
 subst ey;exact zJ I3 e3 ry hl rz (fun v hv w' s4 I4 rw'=>⟨v,H3,I4,rw',k1 v hv⟩) fun hv s4 I4=>⟨z,_,I4,rz,k2 hv⟩
theorem vF {td ty tx:TE} {σ:St} {H:Hp} {Q:VK} (h:td σ H fun x H1=>DC x H1 fun a=>ty σ H1 fun y H2=>tx σ H2 fun z H3=>∃ kvs k,y=kV k/\H3 a=some (.dK kvs)/\kvs.length<EF /\
 (∀ v,bG kvs k=some v->Q v H3)/\(bG kvs k=none->Q z (upd H3 a (.dK (cS kvs k z))))):ur td ty tx σ H Q:=h
theorem uz {κ:Type} [DecidableEq κ]:∀ {kvs:List (κ×V)} {i:Nat} {k:κ} {v:V},(kvs.map (·.1)).Nodup->kvs[i]?=some (k,v)->bG kvs k=some v
 | [],i,k,v,_,h=>by simp at h
 | (k',v')::r,0,k,v,_,h=>by
  simp only [Fj,F7,J9] at h;obtain ⟨rfl,rfl⟩:=h;exact b6 rfl
 | (k',v')::r,i+1,k,v,nd,h=>by
  rw [EW,EO] at nd;have h:r[i]?=some (k,v):=by simpa using h
  rw [b0 (fun z=>nd.1 (by rw [z]; exact EE.mpr ⟨_,ES h,rfl⟩))];exact uz nd.2 h
end L2
namespace Wn
noncomputable abbrev Pnt:=Int×Int
noncomputable def gt (M:List Pnt) (k:Nat):Pnt:=M.getD k (0,0)
noncomputable def pv (n k:Nat):Nat:=if k=0 then n - 1 else k - 1
noncomputable def vw (p q:Pnt):Option Pnt:=if p.1=q.1 then some (p.1,if q.2<p.2 then q.2 else p.2) else none
noncomputable def W (M:List Pnt):List Pnt:=(FG M.length).filterMap fun k=>vw (gt M (pv M.length k)) (gt M k)
noncomputable def rw (M:List Pnt) (y:Int):List Int:=((W M).filter fun p=>decide (p.2=y)).map (·.1)
noncomputable def ins (M:List Pnt) (q:Pnt):Bool:=decide (((rw M q.2).filter fun x=>decide (x<=q.1)).length%2=1)
def Adj (p q:Pnt):Prop:=(p.1=q.1/\(q.2=p.2+1\/p.2=q.2+1))\/(p.2=q.2/\(q.1=p.1+1\/p.1=q.1+1))
structure Cyc (M:List Pnt):Prop where
 nd:M.Nodup
 len:3<=M.length
 adj:∀ k,k<M.length->Adj (gt M (pv M.length k)) (gt M k)
theorem gt_eq {M:List Pnt} {k:Nat} {p:Pnt} (h:M[k]?=some p):gt M k=p:=by unfold gt; rw [Ex,h]; rfl
theorem gt_inj {M:List Pnt} (nd:M.Nodup) {i j:Nat} (hi:i<M.length) (hj:j<M.length) (h:gt M i=gt M j):i=j:=by
 rw [gt_eq (ς hi),gt_eq (ς hj)] at h;exact (List.getElem_inj nd).mp h
theorem pv_lt {n k:Nat} (h:k<n):pv n k<n:=by unfold pv; split<;>omega
theorem vw_some {p q:Pnt} {x y:Int} (a:Adj p q) (h:vw p q=some (x,y)):(p=(x,y)/\q=(x,y+1))\/(p=(x,y+1)/\q=(x,y)):=by
 unfold vw at h;obtain ⟨p1,p2⟩:=p;obtain ⟨q1,q2⟩:=q;unfold Adj at a;dsimp only at a h;by_cases e:p1=q1
 ·rw [if_pos e] at h;simp only [F7,J9] at h;obtain ⟨h1,h2⟩:=h;simp only [J9];by_cases c:q2<p2
  ·rw [if_pos c] at h2; omega
  ·rw [if_neg c] at h2; omega
 ·rw [if_neg e] at h; cases h
theorem Cyc.wnd {M:List Pnt} (c:Cyc M):(W M).Nodup:=by
 unfold W Jq;rw [List.pairwise_filterMap];refine Kc (R:=fun a b=>a<b) (fun {i j} hi hj hij=>?_) Jm;rw [FE] at hi hj;rintro ⟨x,y⟩ h1 ⟨x',y'⟩ h2 e
 cases e;have li:=pv_lt hi;have lj:=pv_lt hj;have l3:=c.len;have di:pv M.length i=if i=0 then M.length - 1 else i - 1:=rfl
 have dj:pv M.length j=if j=0 then M.length - 1 else j - 1:=rfl
 rcases vw_some (c.adj i hi) h1 with ⟨a1,a2⟩ | ⟨a1,a2⟩<;>rcases vw_some (c.adj j hj) h2 with ⟨b1,b2⟩ | ⟨b1,b2⟩
 ·have:=gt_inj c.nd hi hj (a2.trans b2.symm); omega
 ·have e1:=gt_inj c.nd li hj (a1.trans b2.symm);have e2:=gt_inj c.nd hi lj (a2.trans b1.symm);rw [di] at e1; rw [dj] at e2
  split at e1<;>split at e2<;>omega
 ·have e1:=gt_inj c.nd li hj (a1.trans b2.symm);have e2:=gt_inj c.nd hi lj (a2.trans b1.symm);rw [di] at e1; rw [dj] at e2
  split at e1<;>split at e2<;>omega
 ·have:=gt_inj c.nd hi hj (a2.trans b2.symm); omega
theorem Cyc.rnd {M:List Pnt} (c:Cyc M) (y:Int):(rw M y).Nodup:=by
 unfold rw Jq;rw [FY];refine Kc (R:=fun a b=>a≠b) (fun {a b} ha hb h e=>h ?_) (K7 _ c.wnd);have h1:=of_decide_eq_true (FN.mp ha).2;have h2:=of_decide_eq_true (FN.mp hb).2;exact Fg e (h1.trans h2.symm)
theorem z9 (f:Nat->Bool) (m:Nat):((FG m).filter fun k=>f k != f (k+1)).length%2=if f 0=f m then 0 else 1:=by
 induction m with
 | zero=>rw [if_pos rfl]; rfl
 | succ m ih =>
  rw [HZ,KQ,Bd]
  cases h0:f 0<;>cases h1:f m<;>cases h2:f (m+1)<;>simp only [h0,h1,h2,F2,List.filter_nil,bne_self_eq_false,Bool.true_bne,Bool.false_bne,Bool.not_true,Bool.not_false] at ih ⊢<;>simp at ih ⊢<;>omega
theorem zH (f:Nat->Bool) {n:Nat} (hn:1<=n):((FG n).filter fun k=>f (pv n k) != f k).length%2=0:=by
 obtain ⟨m,rfl⟩:∃ m,n=m+1:=⟨n - 1,by omega⟩
 have h:=z9 f m;rw [List.range_succ_eq_map,F2,Ip,<- Aj (f:=id)]
 have e:((FG m).filter ((fun k=>f (pv (m+1) k) != f k)∘Nat.succ))=(FG m).filter fun k=>f k != f (k+1):=by
  refine List.filter_congr fun k _=>?_
  show (f (pv (m+1) (k+1)) != f (k+1))=_
  have:pv (m+1) (k+1)=k:=by unfold pv; rw [if_neg (by omega)]; omega
  rw [this]
 have e0:pv (m+1) 0=m:=by unfold pv; rw [if_pos rfl]; omega
 rw [e,e0];by_cases c:f 0=f m
 ·rw [if_pos c] at h;rw [if_neg (by rw [c]; simp)];simp only [HS,Aj];exact h
 ·rw [if_neg c] at h;rw [if_pos (by rw [bne_iff_ne]; exact fun z=>c z.symm)];simp only [HS,Aj,Ba];omega
theorem wZ {α β:Type} (g:α->Option β) (p:β->Bool):∀ l:List α,((l.filterMap g).filter p).length=(l.filter fun k=>(g k).any p).length
 | []=>rfl
 | a::l=>by
  have ih:=wZ g p l;rw [HJ,F2]
  cases h:g a with
  | none => simp only [Option.any_none]; exact ih
  | some b =>
   simp only [Option.any_some];rw [F2];by_cases hp:p b=true
   ·rw [if_pos hp,if_pos hp,Ba,Ba,ih]
   ·rw [if_neg hp,if_neg hp,ih]
theorem Cyc.even {M:List Pnt} (c:Cyc M) (y:Int):(rw M y).length%2=0:=by
 unfold rw W;rw [Aj,wZ];have h:=zH (fun k=>decide ((gt M k).2<=y)) (n:=M.length) (by have:=c.len; omega);rw [<- h]
 congr 2
 refine List.filter_congr fun k hk=>?_;rw [FE] at hk;have a:=c.adj k hk;generalize gt M (pv M.length k)=p at a;generalize gt M k=q at a;obtain ⟨p1,p2⟩:=p;obtain ⟨q1,q2⟩:=q;unfold Adj at a;unfold vw;dsimp only at a ⊢;by_cases e:p1=q1
 ·rw [if_pos e,Option.any_some,Hh,bne_iff_ne,decide_eq_true_eq,ne_eq,decide_eq_decide];dsimp only;by_cases d:q2<p2
  ·rw [if_pos d]; omega
  ·rw [if_neg d]; omega
 ·rw [if_neg e,Option.any_none];have:p2=q2:=by omega
  rw [this]; simp
noncomputable def fL:List Int->Int->Bool
 | a::b::t,x=>(decide (a<=x)&&decide (x<b))||fL t x
 | _,_=>false
theorem pB {x:Int}:∀ {l:List Int},(∀ z∈l,x<z)->(l.filter fun z=>decide (z<=x)).length=0
 | [],_=>rfl
 | a::l,h=>by
  rw [F2,if_neg (by rw [decide_eq_true_eq]; have:=h a θ; omega)];exact pB fun z hz=>h z (Θ _ hz)
theorem lu:∀ {ms:List Int},ms.Pairwise (·<·)->ms.length%2=0->∀ x,fL ms x=decide ((ms.filter fun z=>decide (z<=x)).length%2=1)
 | [],_,_,x=>rfl
 | [a],_,h,x=>by simp at h
 | a::b::t,h,hl,x=>by
  rw [Fe,Fe] at h;obtain ⟨h1,h2,h3⟩:=h;have ih:=lu h3 (by rw [Ba,Ba] at hl; omega) x;have hab:=h1 b θ;unfold fL;rw [ih,F2,F2];by_cases c1:a<=x
  ·rw [if_pos (decide_eq_true c1)];by_cases c2:b<=x
   ·rw [if_pos (decide_eq_true c2),decide_eq_false (show ¬ x<b by omega),KA,KN,Ba,Ba];exact decide_eq_decide.mpr (by omega)
   ·rw [if_neg (by rw [decide_eq_true_eq]; exact c2),decide_eq_true c1,decide_eq_true (show x<b by omega),Ba,pB fun z hz=>by have:=h2 z hz; omega];rfl
  ·rw [if_neg (by rw [decide_eq_true_eq]; exact c1),if_neg (by rw [decide_eq_true_eq]; omega),decide_eq_false c1,LX,KN]
noncomputable def span (a b:Int) (y:Int):List Pnt:=(FG (b - a).toNat).map fun i=>(a+((i:Nat):Int),y)
noncomputable def cl (y:Int):List Int->List Pnt
 | a::b::t=>span a b y++cl y t
 | _=>[]
theorem pR {a b y:Int} {q:Pnt}:q∈span a b y↔q.2=y/\a<=q.1/\q.1<b:=by
 unfold span;rw [EE];constructor
 ·rintro ⟨i,hi,rfl⟩;rw [FE] at hi;exact ⟨rfl,by show a<=a+_; omega,by show a+((i:Nat):Int)<b; omega⟩
 ·rintro ⟨h1,h2,h3⟩;exact ⟨(q.1 - a).toNat,FE.mpr (by omega),Fg (by show a+(((q.1 - a).toNat:Nat):Int)=q.1; omega) h1.symm⟩
theorem rG {y:Int} {q:Pnt}:∀ {ms:List Int},q∈cl y ms↔q.2=y/\fL ms q.1=true
 | []=>by simp [cl,fL]
 | [a]=>by simp [cl,fL]
 | a::b::t=>by
  unfold cl fL;rw [EG,pR,rG (ms:=t),J0,FL,decide_eq_true_eq,decide_eq_true_eq];constructor
  ·rintro (⟨h1,h2⟩ | ⟨h1,h2⟩)
   ·exact ⟨h1,.inl h2⟩
   ·exact ⟨h1,.inr h2⟩
  ·rintro ⟨h1,h2 | h2⟩
   ·exact .inl ⟨h1,h2⟩
   ·exact .inr ⟨h1,h2⟩
theorem mK {x:Int}:∀ {ms:List Int} {a:Int},(∀ z∈ms,a<z)->fL ms x=true->a<x
 | [],_,_,h=>by cases h
 | [_],_,_,h=>by cases h
 | b::c::t,a,h,hw=>by
  unfold fL at hw;rw [J0,FL,decide_eq_true_eq,decide_eq_true_eq] at hw;rcases hw with ⟨h1,_⟩ | h1
  ·have:=h b θ; omega
  ·exact mK (fun z hz=>h z (Θ _ (Θ _ hz))) h1
theorem Be (a b y:Int):(span a b y).Nodup:=by
 unfold span Jq;rw [FY];refine Jy (fun {i j} (h:i<j) e=>?_) Jm;have:a+((i:Nat):Int)=a+((j:Nat):Int):=congrArg JV e
 omega
theorem cl_nd (y:Int):∀ {ms:List Int},ms.Pairwise (·<·)->(cl y ms).Nodup
 | [],_=>GD
 | [_],_=>GD
 | a::b::t,h=>by
  rw [Fe,Fe] at h;unfold cl;rw [FZ];refine ⟨Be a b y,cl_nd y h.2.2,fun p hp q hq e=>?_⟩;subst e;have h1:=pR.mp hp;have h2:=mK h.2.1 (rG.mp hq).2;omega
theorem cl_take (y:Int):∀ (j:Nat) {ms:List Int} {a b:Int},ms[2*j]?=some a->ms[2*j+1]?=some b->cl y (ms.take (2*(j+1)))=cl y (ms.take (2*j))++span a b y
 | 0,c::d::t,a,b,h1,h2=>by
  simp only [Nat.mul_zero,Fj,F7,Nat.zero_add,Fl] at h1 h2;subst h1 h2
  show span c d y++cl y (t.take 0)=[]++span c d y
  simp [cl]
 | 0,[c],a,b,h1,h2=>by simp at h2
 | 0,[],a,b,h1,h2=>by simp at h1
 | j+1,c::d::t,a,b,h1,h2=>by
  have e1:2*(j+1)=2*j+1+1:=by omega
  rw [e1,Fl,Fl] at h1;rw [show 2*(j+1)+1=2*j+1+1+1 by omega,Fl,Fl] at h2;have ih:=cl_take y j h1 h2;rw [show 2*(j+1+1)=2*(j+1)+1+1 by omega,Gv,Gv,e1,Gv,Gv]
  show span c d y++cl y (t.take (2*(j+1)))=(span c d y++cl y (t.take (2*j)))++span a b y
  rw [ih,EI]
 | j+1,[c],a,b,h1,h2=>by simp at h1
 | j+1,[],a,b,h1,h2=>by simp at h1
theorem cl_pre (y:Int):∀ (j:Nat) (ms:List Int),∃ r,cl y ms=cl y (ms.take (2*j))++r
 | 0,ms=>⟨cl y ms,by simp [cl]⟩
 | j+1,[]=>⟨[],by simp [cl]⟩
 | j+1,[a]=>⟨[],by rw [show 2*(j+1)=2*j+1+1 by omega]; simp [cl]⟩
 | j+1,a::b::t=>by
  obtain ⟨r,e⟩:=cl_pre y j t;refine ⟨r,?_⟩;rw [show 2*(j+1)=2*j+1+1 by omega,Gv,Gv]
  show span a b y++cl y t=(span a b y++cl y (t.take (2*j)))++r
  rw [e,EI]
theorem Cyc.row {M:List Pnt} (c:Cyc M) {y:Int} {ms:List Int} (pm:ms.Perm (rw M y)) (pw:ms.Pairwise (·<=·)):ms.Pairwise (·<·)/\ms.length%2=0/\∀ q:Pnt,q∈cl y ms↔q.2=y/\ins M q=true:=by
 have nd:ms.Nodup:=pm.nodup_iff.mpr (c.rnd y)
 have lt:ms.Pairwise (·<·):=by
  have:=List.pairwise_and_iff.mpr ⟨pw,nd⟩
  exact Jy (fun {a b} (h:a<=b/\a≠b)=>by omega) this
 have ev:ms.length%2=0:=by rw [pm.length_eq]; exact c.even y
 refine ⟨lt,ev,fun q=>?_⟩;rw [rG];refine and_congr_right fun e=>?_;rw [lu lt ev];unfold ins;rw [e,(pm.filter _).length_eq]
noncomputable def Wk (M:List Pnt) (k:Nat):List Pnt:=(FG k).filterMap fun k=>vw (gt M (pv M.length k)) (gt M k)
noncomputable def rwk (M:List Pnt) (k:Nat) (y:Int):List Int:=((Wk M k).filter fun p=>decide (p.2=y)).map (·.1)
theorem rwk_all (M:List Pnt):rwk M M.length=rw M:=rfl
theorem zB {M:List Pnt} {k:Nat} (h:vw (gt M (pv M.length k)) (gt M k)=none):Wk M (k+1)=Wk M k:=by
 unfold Wk;rw [HZ,ML];simp [h]
theorem zC {M:List Pnt} {k:Nat} {q:Pnt} (h:vw (gt M (pv M.length k)) (gt M k)=some q):Wk M (k+1)=Wk M k++[q]:=by
 unfold Wk;rw [HZ,ML];simp [h]
theorem rwk_none {M:List Pnt} {k:Nat} (h:vw (gt M (pv M.length k)) (gt M k)=none):rwk M (k+1)=rwk M k:=by
 funext y; unfold rwk; rw [zB h]
theorem rwk_some {M:List Pnt} {k:Nat} {x y:Int} (h:vw (gt M (pv M.length k)) (gt M k)=some (x,y)):rwk M (k+1)=fun z=>if z=y then rwk M k z++[x] else rwk M k z:=by
 funext z
 unfold rwk;rw [zC h,KQ,FO,F2];by_cases e:z=y
 ·rw [if_pos e,if_pos (by subst e; exact decide_eq_true rfl)]; rfl
 ·rw [if_neg e,if_neg (by rw [decide_eq_true_eq]; exact fun q=>e q.symm)]; simp
theorem BX (M:List Pnt) (k:Nat):(Wk M k).length<=k:=by
 unfold Wk;exact FA (List.length_filterMap_le _ _) (by rw [GL]; exact A_ _)
theorem rwk_len (M:List Pnt) (k:Nat) (y:Int):(rwk M k y).length<=k:=by
 unfold rwk;rw [Aj];exact FA (MJ _ _) (BX M k)
theorem Cyc.ends {M:List Pnt} (c:Cyc M) {x y:Int} (h:(x,y)∈W M):(x,y)∈M/\(x,y+1)∈M:=by
 unfold W at h;obtain ⟨k,hk,e⟩:=IE.mp h;rw [FE] at hk;have m:∀ {i:Nat},i<M.length->gt M i∈M:=fun {i} hi=>by rw [gt_eq (ς hi)]; exact HN hi
 have m1:=m hk;have m2:=m (pv_lt hk);rcases vw_some (c.adj k hk) e with ⟨a,b⟩ | ⟨a,b⟩
 ·rw [a] at m2; rw [b] at m1; exact ⟨m2,m1⟩
 ·rw [a] at m2; rw [b] at m1; exact ⟨m1,m2⟩
theorem mem_rw {M:List Pnt} {x y:Int}:x∈rw M y↔(x,y)∈W M:=by
 unfold rw;rw [EE];constructor
 ·rintro ⟨p,hp,rfl⟩;rw [FN,decide_eq_true_eq] at hp;obtain ⟨h1,rfl⟩:=hp;exact h1
 ·intro h;exact ⟨(x,y),FN.mpr ⟨h,decide_eq_true rfl⟩,rfl⟩
theorem cnt_split {x:Int} (l:List Int):(l.filter fun z=>decide (z<=x)).length+(l.filter fun z=>decide (x<z)).length=l.length:=by
 induction l with
 | nil=>rfl
 | cons a l ih =>
  rw [F2,F2,Ba];by_cases h:a<=x
  ·rw [if_pos (decide_eq_true h),if_neg (by rw [decide_eq_true_eq]; omega),Ba]; omega
  ·rw [if_neg (by rw [decide_eq_true_eq]; exact h),if_pos (decide_eq_true (by omega)),Ba]; omega
theorem Cyc.between {M:List Pnt} (c:Cyc M) {q:Pnt} (h:ins M q=true):∃ a b,(a,q.2)∈W M/\(b,q.2)∈W M/\a<=q.1/\q.1<b:=by
 unfold ins at h;have h:=of_decide_eq_true h;have e:=c.even q.2;have sp:=cnt_split (x:=q.1) (rw M q.2);obtain ⟨a,ha⟩:=K6 (l:=(rw M q.2).filter fun z=>decide (z<=q.1)) (by omega);obtain ⟨b,hb⟩:=K6 (l:=(rw M q.2).filter fun z=>decide (q.1<z)) (by omega);rw [FN,decide_eq_true_eq] at ha hb;exact ⟨a,b,mem_rw.mp ha.1,mem_rw.mp hb.1,ha.2,hb.2⟩
noncomputable def vL (M:List Pnt) (y a:Int) (n:Nat):List Pnt:=((FG n).map fun i=>(a+((i:Nat):Int),y)).filter (ins M)
theorem j6 {M:List Pnt} {y a:Int} {n:Nat} {q:Pnt}:q∈vL M y a n↔q.2=y/\a<=q.1/\q.1<a+((n:Nat):Int)/\ins M q=true:=by
 unfold vL;rw [FN,EE];constructor
 ·rintro ⟨⟨i,hi,rfl⟩,h⟩;rw [FE] at hi;exact ⟨rfl,by show a<=a+_; omega,by show a+_<_; omega,h⟩
 ·rintro ⟨h1,h2,h3,h4⟩;exact ⟨⟨(q.1 - a).toNat,FE.mpr (by omega),Fg (by show a+(((q.1 - a).toNat:Nat):Int)=q.1; omega) h1.symm⟩,h4⟩
theorem A1 (M:List Pnt) (y a:Int) (n:Nat):(vL M y a n).Nodup:=by
 unfold vL;refine K7 _ ?_;rw [FY];refine Jy (fun {i j} (h:i<j) e=>?_) Jm;have:a+((i:Nat):Int)=a+((j:Nat):Int):=congrArg JV e
 omega
noncomputable def patc (M:List Pnt) (b a:Int) (w h:Nat):List Pnt:=(FG h).flatMap fun j=>vL M (b+((j:Nat):Int)) a w
theorem vn (M:List Pnt) (b a:Int) (w h:Nat):patc M b a w (h+1)=patc M b a w h++vL M (b+((h:Nat):Int)) a w:=by
 unfold patc;rw [HZ,MY];simp
theorem mem_patc {M:List Pnt} {b a:Int} {w h:Nat} {q:Pnt}:q∈patc M b a w h↔(b<=q.2/\q.2<b+((h:Nat):Int))/\(a<=q.1/\q.1<a+((w:Nat):Int))/\ins M q=true:=by
 unfold patc;rw [JZ];constructor
 ·rintro ⟨j,hj,h⟩;rw [FE] at hj;rw [j6] at h;exact ⟨⟨by omega,by omega⟩,⟨h.2.1,h.2.2.1⟩,h.2.2.2⟩
 ·rintro ⟨⟨h1,h2⟩,⟨h3,h4⟩,h5⟩;exact ⟨(q.2 - b).toNat,FE.mpr (by omega),j6.mpr ⟨by omega,h3,h4,h5⟩⟩
theorem patc_nd (M:List Pnt) (b a:Int) (w:Nat):∀ h,(patc M b a w h).Nodup
 | 0=>GD
 | h+1=>by
  rw [vn,FZ];refine ⟨patc_nd M b a w h,A1 _ _ _ _,fun p hp q hq e=>?_⟩;subst e;have h1:=mem_patc.mp hp;have h2:=j6.mp hq;omega
theorem Cyc.box {M:List Pnt} (c:Cyc M) {x0 x1 y0 y1:Int} (h:∀ p∈M,(x0<=p.1/\p.1<=x1)/\y0<=p.2/\p.2<=y1) {q:Pnt} (hq:ins M q=true):(x0<=q.1/\q.1<x1)/\y0<=q.2/\q.2<y1:=by
 obtain ⟨a,b,ha,hb,h1,h2⟩:=c.between hq;have e1:=h _ (c.ends ha).1;have e2:=h _ (c.ends ha).2;have e3:=h _ (c.ends hb).1;dsimp only at e1 e2 e3;omega
theorem nodup_few {l:List Pnt} (nd:l.Nodup) {n:Nat} (h:∀ q∈l,(0<=q.1/\q.1<(n:Nat))/\0<=q.2/\q.2<(n:Nat)):l.length<=n*n:=by
 have key:∀ (a b:List Pnt),a.Nodup->(∀ x∈a,x∈b)->a.length<=b.length:=by
  intro a
  induction a with
  | nil => intro b _ _; exact En _
  | cons x a ih =>
   intro b hn hs;rw [EO] at hn;have hx:=hs x θ;have:=ih (b.erase x) hn.2 fun y hy=>(Ih (show y≠x from fun e=>hn.1 (by rw [<- e]; exact hy))).mpr (hs y (Θ _ hy))
   rw [JL hx] at this;have:=Jo hx
   rw [Ba];omega
 have:=key l ((FG n).flatMap fun i=>(FG n).map fun j=>(((i:Nat):Int),((j:Nat):Int))) nd fun q hq=>by
  obtain ⟨⟨a,b⟩,c,d⟩:=h q hq;exact JZ.mpr ⟨q.1.toNat,FE.mpr (by omega),EE.mpr ⟨q.2.toNat,FE.mpr (by omega),Fg (by show ((q.1.toNat:Nat):Int)=q.1; omega) (by show ((q.2.toNat:Nat):Int)=q.2; omega)⟩⟩
 refine FA this ?_;rw [List.length_flatMap];simp only [Aj,GL,List.map_const',List.sum_replicate_nat];exact A_ _
end Wn
namespace L2
open PySem PySem.Spec PyProof.Rows PySem.W Builtin Builtin.ObjectAttr Builtin.Getset_descriptor
end L2
namespace L2
open PySem PySem.Spec PyProof.Rows PySem.W
end L2
namespace Fc
noncomputable def it:Nat->Nat->Nat
 | 0,x=>x
 | n+1,x=>it n (5*x+1)
end Fc
namespace Fc
open PySem PySem.SetTable
noncomputable def st (mask:Nat) (q:Nat×Nat):Probe:={ j:=q.1,more:=runEnd mask q.1 - q.1,i:=q.1,perturb:=q.2,dummy:=none }
noncomputable def pr (t:SetTable) (h:Int):Nat->Probe
 | 0=>t.probeStart h
 | m+1=>t.advance (pr t h m)
end Fc
namespace Fc
open PySem PySem.SetTable PyProof.Rows
section
variable {prog:ER} {w:E2} {A:E5} {E:Δ->A2->Prop} {s:A2}
abbrev TK (prog:ER) (w:E2) (h:FD) (q:List Int) (b:Ω):Prop:=IsTupleKey (intKind prog w) h q b
end
end Fc
namespace Fc
open PySem PySem.SetTable PyProof.Rows
section
variable {prog:ER} {w:E2} {A:E5} {E:Δ->A2->Prop} {s:A2}
def Els (prog:ER) (w:E2) (h:FD) (es:Array (Int×Δ)) (ks:List (List Int)):Prop:=∀ e∈es.toList,∃ q∈ks,∃ b,e.2=.ref b/\TK prog w h q b
end
end Fc
namespace Fc
open PySem PySem.SetTable PyProof.Rows
end Fc
namespace Fc
open PySem PySem.SetTable PyProof.Rows
section
variable {prog:ER} {w:E2} {A:E5} {E:Δ->A2->Prop} {s:A2}
def D7 (prog:ER) (w:E2) (h:FD) (a:Ω) (ks:List (List Int)):Prop:=∃ o es ep t k,h.get? a=some o/\o.ExactSet/\o.data=.set es ep t/\t.mask+1=2 ^ k/\3<=k/\k<=13/\t.dummies=#[]/\t.place.size=es.size/\es.size=ks.length/\es.size*5<t.mask*3/\Els prog w h es ks
end
end Fc
namespace Fc
open PySem PySem.SetTable PyProof.Rows
end Fc
namespace L2
open PySem PySem.Spec PyProof.Rows PySem.W
theorem mZ {K:W.Frag} {σ:St} {H:Hp} {Q:VK} {te:TE} {cap:List (Option Nat)} {l a:Ω} {xs:List V} (ys:List V) (hy:ys.length=xs.length) (hs:SqL K H a xs) (hz:xs.length<=1700) (hl:H l=none)
  (hp:∀ (i:Nat) v,xs[i]?=some v->∃ b u1 u2,v=.ref b/\H b=some (.tup [u1,u2]))
  (step:∀ (i:Nat) b u1 u2 y o1 o2 H' (Q':VK),xs[i]?=some (.ref b)->H b=some (.tup [u1,u2])->ys[i]?=some y->ah H H'->(∀ H5,ah H' H5->Q' y H5)->te (((((eQ (none::none::cap) σ).set 0 o1).set 1 o2).set 0 (some u1)).set 1 (some u2)) H' Q')
  (fin:∀ H',ah H H'->H' l=some (.lst ys)->Q (.ref l) H'):gO (Itl K a) (rA K 2 (gR (cT 0) (gR (cT 1) uP))) gU te (none::none::cap) l σ H Q:=by
 refine ⟨xs.length,fun i zs σ' H'=>zs=ys.take i/\(∃ o1 o2,σ'=((eQ (none::none::cap) σ).set 0 o1).set 1 o2)/\ah H H'/\H' l=some (.lst zs),⟨rfl,⟨none,none,rfl⟩,ah.new hl,af⟩,?_,?_⟩
 ·rintro i zs σ' H' hi ⟨rfl,⟨o1,o2,rfl⟩,s,e⟩;refine ⟨⟨xs,xs[i],s.seq hs,by simp [hi]⟩,fun x H2 y=>?_⟩;obtain ⟨e2,y⟩:=y;subst e2;have hx:=y xs (s.seq hs);obtain ⟨b,u1,u2,rfl,hb⟩:=hp i x hx;have hyi:i<ys.length:=by omega
  refine iR (s _ _ hb) rfl ?_;refine cP (b9 (cP (b9 (iQ ?_))));refine dA (lF ?_);refine step i b u1 u2 ys[i] o1 o2 H2 _ hx hb (ς hyi) s fun H5 s5=>⟨s5 _ _ e,?_,?_⟩
  ·rw [E7];exact EU (show _<2000 by omega) (by decide)
  ·exact ⟨Ll hyi,⟨some u1,some u2,rfl⟩,(s.trans s5).later hl,af⟩
 ·rintro zs σ' H' ⟨rfl,_,s,e⟩;rw [EN (by omega)] at e;exact ⟨⟨xs,s.seq hs,A_ _⟩,fin H' s e⟩
end L2
namespace L2
open PySem PySem.Spec PyProof.Rows
open Builtin Builtin.Str
end L2
namespace L2
open PySem PySem.Spec PyProof.Rows PySem.W
end L2
namespace L2
open PySem PySem.Spec PyProof.Rows
end L2
namespace L2
open PySem PySem.Spec PyProof.Rows PySem.W
open Builtin Builtin.Str
open PySem.NumText
end L2
namespace L2
open PySem PySem.Spec PyProof.Rows
end L2
namespace L2
open PySem PySem.Spec PyProof.Rows PySem.W
noncomputable def nT (n:Nat):Str:=(toString ((n:Nat):Int):String)
end L2
namespace Sm
section
variable {nb nb':Pnt->List Pnt} {f:Pnt->Pnt}
structure cK (nb nb':Pnt->List Pnt) (f:Pnt->Pnt):Prop where
 inv:∀ x,f (f x)=x
 adj:∀ x y,y∈nb x->f y∈nb' (f x)
 jda:∀ x y,y∈nb' x->f y∈nb (f x)
theorem cK.symm (h:cK nb nb' f):cK nb' nb f:=⟨h.inv,h.jda,h.adj⟩
theorem cK.inj (h:cK nb nb' f) {x y:Pnt} (e:f x=f y):x=y:=by rw [<- h.inv x,e,h.inv]
theorem c9 {α:Type} [DecidableEq α]:∀ (a b:List α),a.Nodup->(∀ x∈a,x∈b)->a.length<=b.length
 | [],_,_,_=>En _
 | x::a,b,hn,hs=>by
  have h1:=c9 a (b.erase x) (EO.mp hn).2 fun y hy=>(Ih fun e=>(EO.mp hn).1 (by rw [<- e]; exact hy)).mpr (hs y (Θ _ hy));have h2:=JL (hs x θ);have h3:=Jo (hs x θ);rw [Ba];omega
theorem cK.nodup_map (h:cK nb nb' f):∀ {l:List Pnt},l.Nodup->(l.map f).Nodup
 | [],_=>GD
 | x::l,hn=>by
  rw [EW,EO];refine ⟨fun z=>?_,h.nodup_map (EO.mp hn).2⟩;obtain ⟨y,hy,e⟩:=EE.mp z;rw [h.inj e] at hy;exact (EO.mp hn).1 hy
theorem cK.len_le (h:cK nb nb' f) (G:Gr nb) (x:Pnt):(nb x).length<=(nb' (f x)).length:=by
 have:=c9 ((nb x).map f) (nb' (f x)) (h.nodup_map (G.nd x)) fun y hy=>by
  obtain ⟨z,hz,rfl⟩:=EE.mp hy;exact h.adj x z hz
 rwa [Aj] at this
theorem cK.len (h:cK nb nb' f) (G:Gr nb) (G':Gr nb') (x:Pnt):(nb' (f x)).length=(nb x).length:=by
 have h1:=h.len_le G x;have h2:=h.symm.len_le G' (f x);rw [h.inv] at h2;omega
theorem cK.shut (h:cK nb nb' f) {L':List Pnt} (hs:rg nb' L'):rg nb (L'.map f):=fun x hx y hy=>by
 obtain ⟨z,hz,rfl⟩:=EE.mp hx;have:=h.adj _ _ hy
 rw [h.inv] at this;exact EE.mpr ⟨f y,hs z hz _ this,h.inv y⟩
theorem cK.sub (h:cK nb nb' f) (G:Gr nb) (G':Gr nb') {b b':Bool} {L L':List Pnt} (t:bz nb b L) (t':bz nb' b' L') {q:Pnt} (hq:q∈L) (hq':f q∈L'):∀ x∈L,f x∈L':=by
 intro x hx;obtain ⟨a,c,l,rfl,hadj,hgo,_⟩:=t.path;have:=gS G (h.shut (t'.shut G')) hadj hgo q hq (EE.mpr ⟨f q,hq',h.inv q⟩) x hx
 obtain ⟨z,hz,e⟩:=EE.mp this;rw [<- e,h.inv];exact hz
theorem d9 {α:Type} [DecidableEq α]:∀ {a b:List α},a.Nodup->b.Nodup->(∀ x∈a,x∈b)->(∀ x∈b,x∈a)->a.Perm b
 | [],[],_,_,_,_=>.nil
 | [],y::b,_,_,_,h=>nomatch h y θ
 | x::a,b,ha,hb,h1,h2=>by
  have hx:=h1 x θ;have n:=EO.mp ha;refine (List.Perm.cons x (d9 n.2 (hb.erase x) (fun y hy=>(Ih fun e=>n.1 (by rw [<- e]; exact hy)).mpr (h1 y (Θ _ hy))) fun y hy=>?_)).trans (List.perm_cons_erase hx).symm;have hy':=(hb.mem_erase_iff).mp hy;rcases Bb.mp (h2 y hy'.2) with e | e
  ·exact absurd e hy'.1
  ·exact e
theorem bz.flag (G:Gr nb) {b:Bool} {L:List Pnt} (t:bz nb b L):b=true↔∀ x∈L,(nb x).length=2:=by
 cases b with
 | true =>
  obtain ⟨a,c,l,rfl,r,_⟩:=t.rd rfl;exact Iff.intro (fun _=>r.two G) (fun _=>rfl)
 | false =>
  obtain ⟨a,c,l,rfl,o,_⟩:=t.op rfl;refine Iff.intro (fun e=>nomatch e) (fun e=>?_);have:=e a θ
  have:=o.one
  omega
theorem bz.nodup {b:Bool} {L:List Pnt} (t:bz nb b L):L.Nodup:=by
 obtain ⟨_,_,_,_,_,_,n⟩:=t.path;exact n
theorem cK.told (h:cK nb nb' f) (G:Gr nb) (G':Gr nb') {b b':Bool} {L L':List Pnt} (t:bz nb b L) (t':bz nb' b' L') {q:Pnt} (hq:q∈L) (hq':f q∈L'):b'=b/\L'.Perm (L.map f):=by
 have s1:=h.sub G G' t t' hq hq';have s2:=h.symm.sub G' G t' t hq' (by rw [h.inv]; exact hq);have pm:L'.Perm (L.map f):=d9 t'.nodup (h.nodup_map t.nodup) (fun x hx=>EE.mpr ⟨f x,s2 x hx,h.inv x⟩) fun x hx=>by
  obtain ⟨y,hy,rfl⟩:=EE.mp hx;exact s1 y hy
 refine ⟨?_,pm⟩
 have e:b'=true↔b=true:=by
  rw [t'.flag G',t.flag G];constructor
  ·intro k x hx;rw [<- h.len G G' x];exact k _ (s1 x hx)
  ·intro k x hx;have:=h.len G G' (f x)
   rw [h.inv] at this;rw [this];exact k _ (s2 x hx)
 cases b<;>cases b'<;>simp_all
end
end Sm
namespace Ts
noncomputable def srt (ps:List (Int×Int)):List (Int×Int):=ps.mergeSort fun a b=>!plt b a
theorem kB {p q:Int×Int} (h1:ple p q) (h2:ple q p):p=q:=Sm.kB h1 h2
theorem dS (ps:List (Int×Int)):(srt ps).Perm ps:=List.mergeSort_perm _ _
theorem sI (ps:List (Int×Int)):(srt ps).Pairwise fun a b=>ple a b:=by
 have:=List.pairwise_mergeSort (le:=fun a b:Int×Int=>!plt b a) (fun a b c h1 h2=>by
  have h1:=bR.mp (by simpa using h1);have h2:=bR.mp (by simpa using h2);have:=bR.mpr (mB h1 h2)
  simpa using this) (fun a b=>by
  cases e:plt b a with
  | false => rfl
  | true =>
   have:=fg.mp e
   have:plt a b=false:=bR.mpr (by unfold ple; omega)
   rw [this];rfl) ps
 exact this.imp fun {a b} h=>bR.mp (by simpa using h)
theorem uy {α:Type} {le:α->α->Prop}:∀ {a b:List α},a.Perm b->(∀ x∈a,∀ y∈a,le x y->le y x->x=y)->a.Pairwise le->b.Pairwise le->a=b
 | [],b,p,_,_,_=>(Lm.mp p).symm
 | x::a,[],p,_,_,_=>nomatch p.length_eq
 | x::a,y::b,p,as,h1,h2=>by
  have hx:=p.mem_iff.mp (θ (a:=x) (l:=a));have hy:=p.mem_iff.mpr (θ (a:=y) (l:=b))
  have e:x=y:=by
   rcases Bb.mp hx with e | hx
   ·exact e
   ·rcases Bb.mp hy with e | hy
    ·exact e.symm
    ·exact as x θ y (Θ _ hy) ((Fe.mp h1).1 y hy) ((Fe.mp h2).1 x hx)
  subst e;rw [uy (LS _ |>.mp p) (fun u hu v hv=>as u (Θ _ hu) v (Θ _ hv)) (Fe.mp h1).2 (Fe.mp h2).2]
theorem zf {ps qs:List (Int×Int)} (p:qs.Perm ps) (h:qs.Pairwise fun a b=>ple a b):qs=srt ps :=
 uy (p.trans (dS ps).symm) (fun _ _ _ _=>kB) h (sI ps)
theorem jq {ps qs:List (Int×Int)} (p:qs.Perm ps):srt qs=srt ps:=zf ((dS qs).trans p) (sI qs)
end Ts
namespace Ts
open PySem PyProof.Rows PySem.W
section
variable {prog:ER} {w:E2} {A:E5} {E:Δ->A2->Prop} {s:A2}
def rh (A:E5) (prog:ER) (w:E2) (s:A2) (a:Ω) (ks:List Δ) (κ:GR) (S:C_->Prop) (lt:C_->C_->Bool):Prop :=
 ∀ (E:Δ->A2->Prop) (h:FD),(∀ b o,b≠a->s.heap.get? b=some o->h.get? b=some o) ->
  (2<=ks.length->∀ Q,Q κ { s with heap:=h }->EM (EZ prog w) A (keyKind' ks.toArray) Q E { s with heap:=h })/\ik (EZ prog w) A E { s with heap:=h } κ S lt
theorem vU {κ:GR} {S:C_->Prop} {lt:C_->C_->Bool} (L:cz lt) {a:Ω} {vs:List Δ} {n:Nat} {P:Fin->A2->Prop} (ho:s.heap.get? a=some (E8 "list" vs.toArray n)) (hz:vs.length<=EF)
  (hs:rh A prog w s a vs κ S lt) (hS:∀ x∈(Gy vs).toList,S x)
  (h:∀ out:Array C_,out.Perm (Gy vs)->out.toList.Pairwise (Le lt)->P (.done (.ret .none)) { s with heap:=MC s.heap a vs (out.map (·.2)) }) :
  EM (EZ prog w) A (IK.«list.sort» ⟨[.ref a],[]⟩) P E s:=by
 rw [list_sort_plain];have ha:a<s.heap.objs.size:=EC ho;have hsz:vs.toArray.size=vs.length:=by simp
 refine ξ (LF ho rfl ?_);refine ξ (G7 ho rfl ?_ (by omega) (En _));obtain ⟨e1,ho1⟩:∃ e1,(s.heap.update a (Er fun _=>#[])).get? a=some (E8 "list" #[] e1):=⟨_,Hv ho (fun _=>#[])⟩
 refine ξ (IS ho1 rfl ?_);refine ξ (KS ?_ (by first | exact hz | (simp; exact hz)));refine ξ (Iv ?_);refine Gd ?_
 show EM (EZ prog w) A _ P E { s with heap:=((s.heap.update a (Er fun _=>#[])).push (E8 "tuple" vs.toArray 0)).push (E8 "list" #[] 0) }
 generalize hH6:((s.heap.update a (Er fun _=>#[])).push (E8 "tuple" vs.toArray 0)).push (E8 "list" #[] 0)=h6
 have ho6:h6.get? a=some (E8 "list" #[] e1):=by
  rw [<- hH6,Gp _ _ _ (by rw [IM,GV]; exact EH (F3 ha)),Gp _ _ _ (by rw [GV]; exact EH ha)];exact ho1
 have keep:∀ b o,b≠a->s.heap.get? b=some o->h6.get? b=some o:=fun b o hb q=>by
  rw [<- hH6];exact χ _ (χ _ ((E9 _ _ (GH hb)).trans q))
 have fin:∀ out:Array C_,out.Perm (Gy vs)->out.toList.Pairwise (Le lt)->P (.done (.ret .none)) { s with heap:=h6.update a (Er fun _=>out.map (·.2)) }:=by
  intro out hp hs;rw [<- hH6];exact h out hp hs
 dsimp only;obtain ⟨hk,hasks⟩:=hs E h6 keep;by_cases h2:vs.toArray.size<2
 ·rw [if_pos h2,if_pos h2];refine ξ (B_ ?_);rw [Kz];refine ξ (B_ ?_);dsimp only;refine ξ (IS ho6 rfl ?_);refine ξ (G7 ho6 rfl ?_ (by simp) (by rw [JA]; show (Gy vs).size<=_; rw [LD,KU]; omega));simp only [bne_self_eq_false,FJ,if_false];refine B_ (fin (vs.toArray.zip vs.toArray) (JJ _) ?_)
  show (Gy vs).toList.Pairwise _
  rw [HY]
  match vs,hsz,h2 with
  | [], _, _ => exact GP
  | [v], _, _ => exact JY _ _
  | v₁ :: v₂ :: dO, e, h2 => simp at h2; omega
 ·rw [if_neg h2,if_neg h2];refine ξ (hk (by omega) _ ?_);refine ξ (GO (lC (E:=E) (s:={ s with heap:=h6 }) (A:=A) L hasks (st:=K9 κ (vs.toArray.zip vs.toArray) #[] 7 none)
   (Q:=fun _ st'=>(EY st').Perm (Gy vs)/\Gu st'=none/\(EY st').toList.Pairwise (Le lt)) rfl rfl rfl hS fun st' a1 a2 a3=>⟨a1,a2,a3⟩) ?_ fun _ _ e=>e)
  rintro ⟨⟨⟩,st'⟩ s' ⟨rfl,hp,hf,hs⟩;dsimp only;refine ξ (IS ho6 rfl ?_);refine ξ (G7 ho6 rfl ?_ (by simp) (by refine FA (I_ ((JA ..).trans (hp.size_eq.trans (LD _)))) ?_; omega));rw [hf];simp only [bne_self_eq_false,FJ,if_false];exact B_ (fin _ hp hs)
theorem qI {κ:GR} {S:C_->Prop} {lt:C_->C_->Bool} (L:cz lt) {l:Ω} {vs:List Δ} {Q:Δ->A2->Prop} (hl:s.heap.IsList l vs.toArray) (hz:vs.length<=EF)
  (hs:∀ h,(∀ b o,s.heap.get? b=some o->h.get? b=some o)->rh A.in1.in1 prog w { s with heap:=h } (s.heap.objs.size+1) vs κ S lt) (hS:∀ x∈(Gy vs).toList,S x)
  (h:∀ out:Array C_,out.Perm (Gy vs)->out.toList.Pairwise (Le lt)->Q (.ref (s.heap.objs.size+1)) { s with heap:=Kh s.heap vs (out.map (·.2)) }) :
  EM (EZ prog w) A (call (.builtin "sorted") [.ref l]) Q E s:=by
 refine LW kind_sorted plain_sorted entry_sorted (args_sorted1 _) ?_;unfold IK.«sorted»;refine ξ (m:=checkCount "sorted" 1 1 _) (B_ ?_);refine ξ (collect_list hl ?_ hz);refine ξ (Iv ?_ hz)
 have hsz:((s.heap.push (E8 "list" #[] 0)).update s.heap.objs.size (Er (·++vs.toArray))).objs.size=s.heap.objs.size+1:=by
  rw [GV,IM]
 have hoL:(((s.heap.push (E8 "list" #[] 0)).update s.heap.objs.size (Er (·++vs.toArray))).push (E8 "list" vs.toArray 0)).get? (s.heap.objs.size+1)=some (E8 "list" vs.toArray 0):=by
  rw [<- hsz]; exact EB _ rfl
 have keep:∀ b o,s.heap.get? b=some o->(((s.heap.push (E8 "list" #[] 0)).update s.heap.objs.size (Er (·++vs.toArray))).push (E8 "list" vs.toArray 0)).get? b=some o:=fun b o q=>by
  have hlt:b<s.heap.objs.size:=EC q;rw [Gp _ _ _ (by rw [hsz]; exact EH (F3 hlt)),HL _ _ _ _ (EH hlt),Gp _ _ _ (EH hlt)];exact q
 show EM _ _ _ _ _ { s with heap:=((s.heap.push (E8 "list" #[] 0)).update s.heap.objs.size (Er (·++vs.toArray))).push (E8 "list" vs.toArray 0) }
 rw [hsz];refine ξ (Gd (Gk MD ⟨_,hoL,rfl⟩ Ls (vU L hoL hz (hs _ keep) hS fun out a1 a2=>⟨_,rfl,?_⟩) (args_list_sort _)));exact B_ ⟨_,rfl,h out a1 a2⟩
end
def fq {α:Type} (Key:FD->Δ->α->Prop) (h:FD) (v:Δ) (k:α) (d:GS):Prop :=
 ∃ b o x y n as,v=.ref b/\h.get? b=some o/\o.cls=.type "tuple"/\o.data=.seq #[x,y] n/\Key h x k/\Reads h y d as/\HR d=true
section
variable {prog:ER} {w:E2} {A:E5} {E:Δ->A2->Prop} {s:A2} {α:Type} [DecidableEq α] {Key:FD->Δ->α->Prop} {klt:α->α->Bool} {b:Bool}
structure BV (prog:ER) (w:E2) (A:E5) (b:Bool) (Key:FD->Δ->α->Prop) (klt:α->α->Bool) (s:A2):Prop where
 eq:∀ {x y k l} {Q:Bool->A2->Prop} {E:Δ->A2->Prop},Key s.heap x k->Key s.heap y l->Q (decide (k=l)) s->EM (EZ prog w) A (eqBool x y) Q E s
 lt:∀ {x y k l} {Q:Bool->A2->Prop} {E:Δ->A2->Prop},Key s.heap x k->Key s.heap y l->Q (klt k l) s->EM (EZ prog w) A (oneLt' b x y) Q E s
theorem xq {v u:Δ} {k l:α} {d e:GS} {Q:Bool->A2->Prop} (hu:A.units+64<HH) (ir:∀ k,klt k k=false) (hk:BV prog w A b Key klt s) (hv:fq Key s.heap v k d) (hw:fq Key s.heap u l e) (hd:k=l->Fz d e=true) (h:Q (klt k l) s):EM (EZ prog w) A (keyLt' (KC b) v u) Q E s:=by
 obtain ⟨a1,o1,x1,y1,n1,as,rfl,h1,_,d1,k1,r1,s1⟩:=hv;obtain ⟨a2,o2,x2,y2,n2,bs,rfl,h2,_,d2,k2,r2,s2⟩:=hw;refine kat_lt h1 d1 h2 d2 ?_;refine kat_cons (hk.eq k1 k2 ?_);refine kat_go (fun e1=>kat_yes ?_) (fun e1=>kat_no ?_)
 ·have e1:k=l:=of_decide_eq_true e1;have c1:=MT.mp s1;have c2:=MT.mp s2;refine kat_cons (J6 prog w A _ s y1 y2 d e as bs _ r1 r2 c1.1 c2.1 (by have:=of_decide_eq_true c1.2; omega) ?_);rw [hd e1];refine kat_yes (kat_nil ?_);rw [e1,ir] at h;exact h
 ·rw [show (b&&(0==0))=b by cases b<;>rfl];exact hk.lt k1 k2 h
end
noncomputable def ptD (p:Int×Int):PyData:=.tuple [.int p.1,.int p.2]
theorem aX.reads {h:FD} {v:Δ} {p:Int×Int} (hv:aX h v p):∃ as,Reads h v (ptD p) as:=by
 obtain ⟨b,o,t,u,n,rfl,h1,h2,h3⟩:=hv;exact ⟨_,.tuple h1 h2 h3 (.cons (.int _ _) (.cons (.int _ _) .nil))⟩
theorem nQ (p:Int×Int):(ptD p).canLay0=true:=by rfl
theorem yb (p:Int×Int):(ptD p).depth<=8:=by show (1:Nat)<=8; omega
theorem t9 (p q:Int×Int):Fz (ptD p) (ptD q)=decide (p=q):=by
 obtain ⟨a,b⟩:=p;obtain ⟨c,d⟩:=q
 show (a==c&&(b==d&&true))=_
 by_cases h1:a=c
 ·by_cases h2:b=d
  ·simp [h1,h2]
  ·simp [h1,h2]
 ·simp [h1]
noncomputable def ll:List (Int×Int)->List (Int×Int)->Bool
 | [],[]=>false
 | [],_::_=>true
 | _::_,[]=>false
 | p::ps,q::qs=>if p=q then ll ps qs else plt p q
section
open SeqAt MeetsSeq MeetsSeq2 MeetsSeq3
open PySem.AutoSeq1 (wpAny_loadPart')
variable {prog:ER} {w:E2} {A:E5} {E:Δ->A2->Prop} {s:A2}
theorem qe {x y:Δ} {p q:Int×Int} {Q:Bool->A2->Prop} (hu:A.units+64<HH) (hx:aX s.heap x p) (hy:aX s.heap y q) (h:Q (decide (p=q)) s):EM (EZ prog w) A (eqBool x y) Q E s:=by
 obtain ⟨as,r1⟩:=hx.reads;obtain ⟨bs,r2⟩:=hy.reads;refine J6 prog w A _ s x y (ptD p) (ptD q) as bs _ r1 r2 (nQ p) (nQ q) (by have:=yb p; omega) ?_;rw [t9];exact h
theorem Ab (l b:Ω) (items items2:Array Δ) (n n2:Nat) (dd dd2:Option Ω) (sl sl2:Array (Option Δ)) (ps qs:List (Int×Int)) (e1:items.size=ps.length) (e2:items2.size=qs.length) (k:Nat) :
  ∀ i:Nat,items.size=i+k->i<=items2.size->Meets (IK.«list.__eq__.loop» ⟨[.ref l,.ref b,Lc i,Lc 0],[]⟩)
   (fun A R s=>s.heap.get? l=some { cls:=.type "list",dict:=dd,data:=.seq items n,slots:=sl }/\s.heap.get? b=some { cls:=.type "list",dict:=dd2,data:=.seq items2 n2,slots:=sl2 } /\
    (∀ j (h1:j<items.size) (h2:j<ps.length),aX s.heap items[j] ps[j])/\(∀ j (h1:j<items2.size) (h2:j<qs.length),aX s.heap items2[j] qs[j])/\A.in1.units+64<HH /\
    R (.ok (.ret (.bool (ll (ps.drop i) (qs.drop i))))) s):=by
 induction k with
 | zero =>
  intro i hk hk2 prog w A R s h;obtain ⟨hp,g,d,tk,os⟩:=s; obtain ⟨hl,hb,ha,hc,hu,h⟩:=h
  wp_walk using GG hl,GG hb
  have hi1:items[((i:Nat):Int).toNat]?=none:=by simp; omega
  have hd:ps.drop i=[]:=by simp; omega
  rw [hd] at h;rw [hi1]
  wp_walk using GG hl,GG hb
  show R (.ok (.ret (.bool (decide (items.size<items2.size))))) _
  by_cases hz:items.size<items2.size
  ·rw [decide_eq_true hz];have:qs.drop i=qs[i]::qs.drop (i+1):=FH (by omega)
   rw [this] at h;exact h
  ·rw [decide_eq_false hz];have:qs.drop i=[]:=by simp; omega
   rw [this] at h;exact h
 | succ k ih =>
  intro i hk hk2 prog w A R s h;obtain ⟨hp,g,d,tk,os⟩:=s; obtain ⟨hl,hb,ha,hc,hu,h⟩:=h;have hlt:i<items.size:=by omega
  have hi1:items[((i:Nat):Int).toNat]?=some items[i]:=by simp [hlt]
  have hd:ps.drop i=ps[i]::ps.drop (i+1):=FH (by omega);rw [hd] at h
  wp_walk using GG hl,GG hb
  rw [hi1];by_cases hlt2:i<items2.size
  ·have hi2:items2[((i:Nat):Int).toNat]?=some items2[i]:=by simp [hlt2]
   have hd2:qs.drop i=qs[i]::qs.drop (i+1):=FH (by omega);rw [hd2] at h;rw [hi2];have hc':((i:Int)+1)=((i+1:Nat):Int):=by push_cast; rfl
   refine ξ (qe hu (ha i hlt (by omega)) (hc i hlt2 (by omega)) ?_);by_cases hb':ps[i]=qs[i]
   ·rw [decide_eq_true hb']
    have h:R (.ok (.ret (.bool (ll (ps.drop (i+1)) (qs.drop (i+1)))))) ⟨hp,g,d,tk,os⟩:=by
     unfold ll at h;rw [if_pos hb'] at h;exact h
    wp_walk
    rw [hc'];exact ⟨IF plain_eq_loop _,JF entry_eq_loop (by
     rw [Ht plain_eq_loop _];exact ih (i+1) (by omega) (by omega) prog w A R _ ⟨hl,hb,ha,hc,hu,h⟩)⟩
   ·rw [decide_eq_false hb']
    have h:R (.ok (.ret (.bool (plt ps[i] qs[i])))) ⟨hp,g,d,tk,os⟩:=by
     unfold ll at h;rw [if_neg hb'] at h;exact h
    wp_walk using GG hl,GG hb
    rw [hi1,hi2];refine ξ (df (by omega) (ha i hlt (by omega)) (hc i hlt2 (by omega)) ?_)
    wp_walk
    exact h
  ·have hi2:items2[((i:Nat):Int).toNat]?=none:=by simp; omega
   have hd2:qs.drop i=[]:=by simp; omega
   rw [hd2] at h;rw [hi2]
   wp_walk using GG hl,GG hb
   show R (.ok (.ret (.bool (decide (items.size<items2.size))))) _
   rw [decide_eq_false (by omega)];exact h
theorem Aa (l b:Ω) (items items2:Array Δ) (n n2:Nat) (dd dd2:Option Ω) (sl sl2:Array (Option Δ)) (ps qs:List (Int×Int)) (e1:items.size=ps.length) (e2:items2.size=qs.length) :
  Meets (IK.«list.__lt__» ⟨[.ref l,.ref b],[]⟩)
   (fun A R s=>s.heap.get? l=some { cls:=.type "list",dict:=dd,data:=.seq items n,slots:=sl }/\s.heap.get? b=some { cls:=.type "list",dict:=dd2,data:=.seq items2 n2,slots:=sl2 } /\
    (∀ j (h1:j<items.size) (h2:j<ps.length),aX s.heap items[j] ps[j])/\(∀ j (h1:j<items2.size) (h2:j<qs.length),aX s.heap items2[j] qs[j])/\A.in1.units+64<HH /\
    R (.ok (.ret (.bool (ll ps qs)))) s):=by
 intro prog w A R s h;obtain ⟨hp,g,d,tk,os⟩:=s; obtain ⟨hl,hb,ha,hc,hu,h⟩:=h;have f3:=AutoSeq1.sub_list_list
 wp_walk using GG hl,GG hb
 exact ⟨IF plain_eq_loop _,JF entry_eq_loop (by
  rw [Ht plain_eq_loop _];exact Ab l b items items2 n n2 dd dd2 sl sl2 ps qs e1 e2 items.size 0 (by omega) (En _) prog w A R _ ⟨hl,hb,ha,hc,hu,h⟩)⟩
def lX (h:FD) (v:Δ) (ps:List (Int×Int)):Prop:=∃ b o us n,v=.ref b/\h.get? b=some o/\o.cls=.type "list"/\o.data=.seq us n/\us.size=ps.length/\∀ j (h1:j<us.size) (h2:j<ps.length),aX h us[j] ps[j]
theorem i8 {h:FD}:∀ {us:List Δ} {ps:List (Int×Int)},us.length=ps.length->(∀ j (h1:j<us.length) (h2:j<ps.length),aX h us[j] ps[j])->∃ as,ReadsAll h us (ps.map ptD) as
 | [],[],_,_=>⟨_,.nil⟩
 | [],_::_,e,_=>nomatch e
 | _::_,[],e,_=>nomatch e
 | u::us,p::ps,e,hp=>by
  obtain ⟨as,r⟩:=(hp 0 (Nat.zero_lt_succ _) (Nat.zero_lt_succ _)).reads;obtain ⟨bs,rs⟩:=i8 (us:=us) (ps:=ps) (Nat.succ.inj e) fun j h1 h2=>hp (j+1) (Nat.succ_lt_succ h1) (Nat.succ_lt_succ h2);exact ⟨_,.cons r rs⟩
theorem kD:∀ ps qs:List (Int×Int),GN (ps.map ptD) (qs.map ptD)=decide (ps=qs)
 | [],[]=>rfl
 | [],_::_=>rfl
 | _::_,[]=>rfl
 | p::ps,q::qs=>by
  show (Fz (ptD p) (ptD q)&&GN (ps.map ptD) (qs.map ptD))=_
  rw [t9,kD ps qs];by_cases h1:p=q
  ·by_cases h2:ps=qs<;>simp [h1,h2]
  ·simp [h1]
theorem iP:∀ ps:List (Int×Int),G9 (ps.map ptD)=true
 | []=>rfl
 | p::ps=>by
  show (Iw (ptD p)&&G9 (ps.map ptD))=true
  rw [nQ,iP ps];rfl
theorem hJ:∀ ps:List (Int×Int),Gm (ps.map ptD)<=1
 | []=>En _
 | p::ps=>by
  show max (Im (ptD p)) (Gm (ps.map ptD))<=1
  exact Nat.max_le.mpr ⟨A_ 1,hJ ps⟩
theorem vB (ps:List (Int×Int)):(PyData.list (ps.map ptD)).depth<=64:=by
 have:=hJ ps
 show Gm (ps.map ptD)+1<=64
 omega
theorem xt (hu:A.units+128<HH):BV prog w A true lX ll s:=by
 constructor
 ·intro x y k l Q E hx hy h;obtain ⟨b1,o1,us1,n1,rfl,h1,c1,d1,z1,p1⟩:=hx;obtain ⟨b2,o2,us2,n2,rfl,h2,c2,d2,z2,p2⟩:=hy;obtain ⟨as,r1⟩:=i8 (h:=s.heap) (us:=us1.toList) (ps:=k) (by simpa using z1) fun j a b=>by simpa using p1 j (by simpa using a) b
  obtain ⟨bs,r2⟩:=i8 (h:=s.heap) (us:=us2.toList) (ps:=l) (by simpa using z2) fun j a b=>by simpa using p2 j (by simpa using a) b
  refine J6 prog w A _ s _ _ (.list (k.map ptD)) (.list (l.map ptD)) _ _ _ (.list h1 c1 d1 r1) (.list h2 c2 d2 r2) (iP k) (iP l) (by have:=vB k; omega) ?_
  show Q (GN (k.map ptD) (l.map ptD)) s
  rw [kD];exact h
 ·intro x y k l Q E hx hy h;obtain ⟨b1,⟨cl1,dd1,dt1,sl1⟩,us1,n1,rfl,h1,c1,d1,z1,p1⟩:=hx;obtain ⟨b2,⟨cl2,dd2,dt2,sl2⟩,us2,n2,rfl,h2,c2,d2,z2,p2⟩:=hy
  cases c1; cases c2; cases d1; cases d2
  rw [oneLt'_eq];simp only [if_true];refine ξ (wpAny_cRoomFor (by omega) ?_);refine ξ (wpAny_callSpecialIfBound?_slot (T:="list") ⟨_,h1,rfl⟩ F.slot_list_lt (MF F.slot_list_lt ⟨_,h1,rfl⟩ F.entry_list_lt (F.args_list_lt_2 _ _) (Aa b1 b2 us1 us2 n1 n2 dd1 dd2 sl1 sl2 k l z1 z2) ⟨h1,h2,p1,p2,?_,?_⟩))
  ·show A.units+_+64<HH
   omega
  ·exact GA h
end
end Ts
namespace Ts
open PySem PyProof.Rows PySem.W
theorem aX.keeps {h h':FD} (hk:∀ b o,h.get? b=some o->h'.get? b=some o) {v:Δ} {p:Int×Int} (q:aX h v p):aX h' v p:=by
 obtain ⟨b,o,t,u,n,rfl,h1,h2,h3⟩:=q;exact ⟨b,o,t,u,n,rfl,hk _ _ h1,h2,h3⟩
theorem lX.keeps {h h':FD} (hk:∀ b o,h.get? b=some o->h'.get? b=some o) {v:Δ} {p:List (Int×Int)} (q:lX h v p):lX h' v p:=by
 obtain ⟨b,o,us,n,rfl,h1,h2,h3,h4,h5⟩:=q;exact ⟨b,o,us,n,rfl,hk _ _ h1,h2,h3,h4,fun j a b=>(h5 j a b).keeps hk⟩
section
variable {prog:ER} {w:E2} {A:E5} {E:Δ->A2->Prop} {s:A2} {α:Type} [DecidableEq α] {Key:FD->Δ->α->Prop} {klt:α->α->Bool} {T:String}
structure jO (prog:ER) (w:E2) (A:E5) (T:String) (Key:FD->Δ->α->Prop) (klt:α->α->Bool):Prop where
 tt:(Fq T==Fq T)=true
 keeps:∀ {h h':FD} {x k},(∀ b o,h.get? b=some o->h'.get? b=some o)->Key h x k->Key h' x k
 ty:∀ {h:FD} {x k},Key h x k->Looks (EZ prog w) h (typeOf x) (.type T)
 keys:∀ s,BV prog w A (Fq T != Fq "tuple") Key klt s
 asym:∀ {x y},klt x y=true->klt y x=false
 tr:∀ {x y z},klt y x=false->klt z y=false->klt z x=false
theorem jO.irr (h:jO prog w A T Key klt) (k:α):klt k k=false:=by
 cases e:klt k k with
 | false=>rfl
 | true=>rw [<- e]; exact h.asym e
theorem fq.keeps (ko:jO prog w A T Key klt) {h h':FD} (hk:∀ b o,h.get? b=some o->h'.get? b=some o) {v:Δ} {k:α} {d:GS} (q:fq Key h v k d):fq Key h' v k d:=by
 obtain ⟨b,o,x,y,n,as,rfl,h1,h2,h3,h4,h5,h6⟩:=q;exact ⟨b,o,x,y,n,as,rfl,hk _ _ h1,h2,h3,ko.keeps hk h4,Reads.keeps hk h5,h6⟩
theorem qJ {vs:List Δ} {g:Δ->α} {d:Δ->GS} (ko:jO prog w A T Key klt) (hu:A.units+64<HH) (hv:∀ v∈vs,fq Key s.heap v (g v) (d v)) (hd:∀ v∈vs,∀ u∈vs,g v=g u->Fz (d v) (d u)=true) {h:FD} (hk:∀ b o,s.heap.get? b=some o->h.get? b=some o) :
    rh A prog w { s with heap:=h } (s.heap.objs.size+1) vs (KC (Fq T != Fq "tuple")) (fun x=>x∈(Gy vs).toList) (fun x y=>klt (g x.1) (g y.1)):=by
  intro E h' keep;have hk':∀ b o,s.heap.get? b=some o->h'.get? b=some o:=fun b o q=>keep b o (EH (F3 (EC q))) (hk b o q);have hv':∀ v∈vs,fq Key h' v (g v) (d v):=fun v hm=>(hv v hm).keeps ko hk';refine ⟨fun h2 Q q=>?_,?_⟩
  · have key:∀ (us:List Δ),(∀ v∈us,fq Key h' v (g v) (d v))->∃ fs,KatTups h' us fs/\fs.length=us.length/\∀ f∈fs,∃ k,Key h' f k:=by
      intro us
      induction us with
      | nil=>intro _; exact ⟨[],Ly,rfl,fun f hf=>nomatch hf⟩
      | cons v us ih =>
        intro hu;obtain ⟨fs,k1,k2,k3⟩:=ih fun v hv=>hu v (Θ _ hv);obtain ⟨b,o,x,y,n,as,e,h1,h2,h3,h4,h5,h6⟩:=hu v θ;refine ⟨x::fs,?_,by rw [Ba,Ba,k2],fun f hf=>?_⟩
        · rw [e]
          exact Li h1 h2 h3 rfl k1
        · rcases Bb.mp hf with rfl | hf
          · exact ⟨_,h4⟩
          · exact k3 f hf
    obtain ⟨fs,k1,k2,k3⟩:=key vs hv';exact kat_kind (T:=.type T) (s:={ s with heap:=h' }) k1 (by omega) (fun f hf=>let ⟨k,hk⟩:=k3 f hf; ko.ty hk) ko.tt q
  · refine jy fun x y hx hy Q' E' q=>?_
    rw [HY] at hx hy;have mx:=(Hq hx).2;have my:=(Hq hy).2;exact xq (s:={ s with heap:=h' }) hu ko.irr (ko.keys _) (hv' _ mx) (hv' _ my) (hd _ mx _ my) q
theorem pN (hu:A.units+128<HH):jO prog w A "tuple" aX plt where
 tt:=by decide
 keeps:=fun hk q=>q.keeps hk
 ty:=fun q=>by
  obtain ⟨b,o,t,u,n,rfl,h1,h2,h3⟩:=q;rw [<- h2];exact (Looks.ld h1).andThen .now
 keys:=fun s=>by
  have e:(Fq "tuple" != Fq "tuple")=false:=by decide
  rw [e];exact ⟨fun hx hy h=>qe (by omega) hx hy h,fun hx hy h=>kat_one _ _ (df (by omega) hx hy h)⟩
 asym:=fun {x y} h=>bR.mpr (by have h:=fg.mp h; unfold ple; omega)
 tr:=fun {x y z} h1 h2=>bR.mpr (by have h1:=bR.mp h1; have h2:=bR.mp h2; unfold ple at *; omega)
theorem iO {p q:Int×Int} (h:¬ p=q):plt p q=!plt q p:=by
 have h':¬ (p.1=q.1/\p.2=q.2):=fun e=>h (Fg e.1 e.2)
 cases e:plt q p with
 | true=>exact bR.mpr (by have:=fg.mp e; unfold ple; omega)
 | false=>exact fg.mpr (by have:=bR.mp e; unfold ple at this; omega)
theorem Am (p:Int×Int):plt p p=false:=bR.mpr (by unfold ple; omega)
theorem CA {p q r:Int×Int} (h:plt p q=true) (h':plt q r=true):plt p r=true:=fg.mpr (by have:=fg.mp h; have:=fg.mp h'; omega)
theorem tQ:∀ {x y:List (Int×Int)},ll x y=true->ll y x=false
 | [],[],_=>rfl
 | [],_::_,_=>rfl
 | _::_,[],h=>nomatch h
 | p::ps,q::qs,h=>by
  unfold ll at h ⊢;by_cases e:p=q
  ·rw [if_pos e] at h;rw [if_pos e.symm];exact tQ h
  ·rw [if_neg e] at h;rw [if_neg fun e'=>e e'.symm];rw [iO e] at h
   simpa using h
theorem Bx:∀ {x y z:List (Int×Int)},ll y x=false->ll z y=false->ll z x=false
 | [],_,[],_,_=>rfl
 | [],_,_::_,_,_=>rfl
 | _::_,[],_,h,_=>nomatch h
 | _::_,_::_,[],_,h=>nomatch h
 | p::ps,q::qs,r::rs,h1,h2=>by
  unfold ll at h1 h2 ⊢;by_cases e1:q=p
  ·rw [if_pos e1] at h1;by_cases e2:r=q
   ·rw [if_pos e2] at h2;rw [if_pos (e2.trans e1)];exact Bx h1 h2
   ·rw [if_neg e2] at h2;rw [if_neg fun e=>e2 (e.trans e1.symm),<- e1];exact h2
  ·rw [if_neg e1] at h1;by_cases e2:r=q
   ·rw [if_neg fun e=>e1 (e2.symm.trans e),e2];exact h1
   ·rw [if_neg e2] at h2;have a1:plt p q=true:=by have:=iO e1; rw [h1] at this; simpa using this.symm
    have a2:plt q r=true:=by have:=iO e2; rw [h2] at this; simpa using this.symm
    have a3:=CA a1 a2;have e3:¬ r=p:=fun e=>by rw [e,Am] at a3; exact nomatch a3
    rw [if_neg e3,iO e3,a3];rfl
theorem uY (hu:A.units+128<HH):jO prog w A "list" lX ll where
 tt:=by decide
 keeps:=fun hk q=>q.keeps hk
 ty:=fun q=>by
  obtain ⟨b,o,us,n,rfl,h1,h2,h3,h4,h5⟩:=q;rw [<- h2];exact (Looks.ld h1).andThen .now
 keys:=fun s=>by
  have e:(Fq "list" != Fq "tuple")=true:=by decide
  rw [e];exact xt hu
 asym:=tQ
 tr:=Bx
end
end Ts
namespace L2
open PySem PySem.Spec PyProof.Rows
def ItV {α:Type} (KV:Hp->V->α->Prop) (H:Hp) (v:V) (k:α) (d:GS):Prop:=∃ b x y,v=.ref b/\H b=some (.tup [x,y])/\KV H x k/\Rep H d y/\HR d=true
def Dh (H:Hp) (v:V) (ps:List (Int×Int)):Prop:=∃ c zs,v=.ref c/\H c=some (.lst zs)/\zs.length=ps.length/\∀ (i:Nat) z q,zs[i]?=some z->ps[i]?=some q->PtV H z q
def nV (K:W.Frag) {α:Type} (KV:Hp->V->α->Prop) (klt:α->α->Bool) (vs:List V) (H:Hp) (Q:VK):Prop:=∃ a xs,vs=[.ref a]/\SqL K H a xs /\
 ∃ (g:V->α) (d:V->GS),(∀ v∈xs,ItV KV H v (g v) (d v))/\(∀ v∈xs,∀ u∈xs,g v=g u->Fz (d v) (d u)=true) /\
  ∀ (l:Ω) (ys:List V),H l=none->ys.Perm xs->ys.Pairwise (fun x y=>klt (g y) (g x)=false)->Q (.ref l) (upd H l (.lst ys))
theorem CB {X:Cx} {pins:List (Ω×HC)} {σ:St} {H:Hp} {s:A2} (I:Inv X pins σ H s) {v:V} {u:Δ} {p:List (Int×Int)} (h:Dh H v p) (r:aU v u):Ts.lX s.heap u p:=by
 obtain ⟨b,zs,rfl,hb,hl,hz⟩:=h;have r:u=.ref b:=r;subst r;obtain ⟨_,its,n,r2,ho⟩:=I.hok _ _ hb;have e1:=r2.length;refine ⟨b,_,its.toArray,n,rfl,ho,rfl,rfl,by simp only [EK]; omega,fun j h1 h2=>?_⟩;have j1:j<zs.length:=by omega
 have j2:j<its.length:=by simpa using h1
 have:its.toArray[j]=its[j]:=by simp
 rw [this];obtain ⟨u,eu,ru⟩:=Vals.get r2 (ς j1);rw [ς j2] at eu
 cases eu;exact gA I (hz j zs[j] p[j] (ς j1) (ς h2)) ru
theorem pe {X:Cx} (K:W.Frag) (hK:X.K=K) {α:Type} [DecidableEq α] {KV:Hp->V->α->Prop} {Key:FD->Δ->α->Prop} {klt:α->α->Bool} {T:String}
  (ko:∀ {A:E5} {prog:ER} {w:E2},A.units+128<HH->Ts.jO prog w A T Key klt)
  (kv:∀ {pins:List (Ω×HC)} {σ:St} {H:Hp} {s:A2},Inv X pins σ H s->∀ {v:V} {u:Δ} {k:α},KV H v k->aU v u->Key s.heap u k)
  (hu:X.A.units+160<HH):bL X (.builtin "sorted") (nV K KV klt):=by
 subst hK;intro pins s σ H xs us Q I hv h;obtain ⟨a,ys,rfl,hl,g,d,hg,hd,h⟩:=h
 cases hv with
 | cons r hv =>
 cases hv
 cases r;obtain ⟨its,rv,pl,hz⟩:=I.list hl;have hlen:=rv.length;have hz':its.length<=sizeLine:=by omega
 obtain ⟨em,hr⟩:=rv.refs fun v hv=>let ⟨b,_,_,e,_⟩:=hg v hv; ⟨b,e⟩;have hm:∀ u∈its,toV u∈ys:=fun u hu=>by rw [<- em]; exact EE.mpr ⟨_,hu,rfl⟩
 have hp:∀ u∈its,Ts.fq Key s.heap u (g (toV u)) (d (toV u)):=by
  intro u hu;have hm:=hm u hu;obtain ⟨b,rfl⟩:=hr u hu;obtain ⟨b',x,y,e,hb,kx,ry,sy⟩:=hg _ hm
  cases e;obtain ⟨_,its2,r2,o,ho,hc,n,hd⟩:=I.hok _ _ hb
  cases r2 with
  | cons q1 r2 =>
  cases r2 with
  | cons q2 r2 =>
  cases r2;obtain ⟨as,ra⟩:=ry.reads I q2;exact ⟨b,o,_,_,n,as,rfl,ho,hc,hd,kv I kx q1,ra,sy⟩
 have L:Ts.cz fun x y:C_=>klt (g (toV x.1)) (g (toV y.1)):=⟨fun h=>(ko (A:=X.A) (prog:=X.prog) (w:=X.w) (by omega)).asym h,fun h1 h2=>(ko (A:=X.A) (prog:=X.prog) (w:=X.w) (by omega)).tr h1 h2⟩
 refine Ts.qI (κ:=KC (Fq T != Fq "tuple")) (S:=fun x=>x∈(Gy its).toList) L pl.isList hz' (fun h' keep=>Ts.qJ (g:=fun u=>g (toV u)) (d:=fun u=>d (toV u)) (ko ?_) ?_ hp (fun v hv u hu=>hd _ (hm v hv) _ (hm u hu)) keep) (fun x hx=>hx) fun out hperm hs=>?_
 ·show X.A.units+1+1+128<HH
  omega
 ·show X.A.units+1+1+64<HH
  omega
 ·have hperm':out.toList.Perm (its.zip its):=by rw [<- HY]; exact GC.mp hperm
  have hmem:∀ p∈out.toList,p.1=p.2/\p.1∈its:=fun p hp'=>Hq (hperm'.mem_iff.mp hp');have e2:(out.map (·.2)).toList=out.toList.map (·.1):=by rw [JT]; exact GK fun p hp'=>(hmem p hp').1.symm
  have pm:(out.toList.map (·.1)).Perm its:=by
   have:=hperm'.map JV
   rw [K1 (A_ _)] at this;exact this
  have hn:H (s.heap.objs.size+1)=none:=I.hok.fresh (by omega);have q:=h (s.heap.objs.size+1) ((out.toList.map (·.1)).map toV) hn (by rw [<- em]; exact pm.map toV) (by
   rw [FP,FY];exact hs.imp fun {x y} hxy=>hxy)
  obtain ⟨n,hnew⟩:=eV (h:=s.heap) (vs:=its) (out:=out.map (·.2));refine ⟨.ref _,_,I.laid (t':=s.toks) (o:=.lst ((out.toList.map (·.1)).map toV)) (fun b u q=>dR q) (by omega) ?_,rfl,q⟩;refine ⟨by rw [Aj,pm.length_eq]; exact hz',out.toList.map (·.1),n,gF fun u hu=>hr u (pm.mem_iff.mp hu),?_⟩;rw [hnew,<- e2,Ig]
theorem uI {X:Cx} (K:W.Frag) (hK:X.K=K) (hu:X.A.units+160<HH):bL X (.builtin "sorted") (nV K PtV Ts.plt) :=
 pe K hK Ts.pN (fun I _ _ _ h r=>gA I h r) hu
theorem uH {X:Cx} (K:W.Frag) (hK:X.K=K) (hu:X.A.units+160<HH):bL X (.builtin "sorted") (nV K Dh Ts.ll) :=
 pe K hK Ts.uY (fun I _ _ _ h r=>CB I h r) hu
theorem qB {K:W.Frag} {α:Type} {KV:Hp->V->α->Prop} {klt:α->α->Bool} {a:Ω} {xs:List V} {H:Hp} {Q:VK} (g:V->α) (d:V->GS) (e:H a=some (.lst xs)) (hg:∀ v∈xs,ItV KV H v (g v) (d v)) (hd:∀ v∈xs,∀ u∈xs,g v=g u->Fz (d v) (d u)=true)
  (h:∀ (l:Ω) (ys:List V),H l=none->ys.Perm xs->ys.Pairwise (fun x y=>klt (g y) (g x)=false)->Q (.ref l) (upd H l (.lst ys))):nV K KV klt [.ref a] H Q:=⟨a,xs,rfl,SqL.of e,g,d,hg,hd,h⟩
theorem bT.u160 {k:Nat} {A:E5} (r:bT k A):A.units+160<cLine:=by have:=r.un; omega
theorem rmo {j k:Nat} {A:E5} (r:bT k A) (h:j<=k:=by first | decide | omega):bT j A:=r.mono h
section
variable {X:Cx}
theorem aO (i:Nat) {x:Str} {e:Fo} {te:TE} {pos pos':Il} (hN:X.N.Nodup) (he:PE X e te) (hi:X.N[i]?=some x:=by rfl) (hx:Loc X.env.scope x:=by exact Fp rfl) (hs:Kg e (some (.Name x pos')) pos.line X.env=pure false:=by rfl) (hf:X.fn x=true\/X.env.scope.names.lookup x=some .local:=by first | exact .inl rfl | exact .inr rfl | assumption) :
  PS X (.Assign [.Name x pos'] e pos) (Bf te (cT i)):=fG hN hi hx he hs hf
theorem ay {r:R2} {a b:Fo} {ta tb:TE} {pos:Il} (hr:IxR X r) (ha:PE X a ta) (hb:PE X b tb) (hs:sU b:=by exact fun _ _=>rfl):PE X (.Subscript a b pos) (tOp r ta tb):=Dx hr ha hb hs
theorem kj {op:MN} {r:R2} {a b:Fo} {ta tb:TE} {pos:Il} (ho:OpR X (GQ op) r) (ha:PE X a ta) (hb:PE X b tb) (hm:IG op b=false:=by first | exact xI _ | rfl):PE X (.Compare a [op] [b] pos) (tOp r ta tb):=Ak ho ha hb hm
theorem bB {op:MN} {r:R2} {a b:Fo} {ta tb:TE} {pos:Il} (ho:OpR X (GQ op) r) (ha:PE X a ta) (hb:PE X b tb) (hm:IG op b=false:=by first | exact xI _ | rfl):PT X (.Compare a [op] [b] pos) (uw (tOp r ta tb)):=Ap ho ha hb hm
end
section
variable {σ:L2.St} {H:Hp} {Q:VK}
abbrev NwT (xs:List V) (H:Hp) (Q:VK):Prop:=xs.length<=EF/\∀ p,H p=none->Q (.ref p) (upd H p (.tup xs))
abbrev NwL (xs:List V) (H:Hp) (Q:VK):Prop:=xs.length<=EF/\∀ p,H p=none->Q (.ref p) (upd H p (.lst xs))
theorem AZ {t:TA} (h:t σ H fun xs H1=>NwT xs H1 Q):D0 t σ H Q:=h
theorem AK {t:TA} (h:t σ H fun xs H1=>NwL xs H1 Q):DW t σ H Q:=h
theorem wX {xs:List V} (z:(xs.drop 99).isEmpty=true):xs.length<=sizeLine:=by
 have:xs.drop 99=[]:=List.isEmpty_iff.mp z
 have:=List.drop_eq_nil_iff.mp this
 exact FA this (by decide)
theorem nwT {xs:List V} (q:∀ p H1,ah H H1->H p=none->H1 p=some (.tup xs)->Q (.ref p) H1) (z:(xs.drop 99).isEmpty=true:=by rfl):NwT xs H Q:=⟨wX z,fun p n=>q p _ (ah.new n) n af⟩
theorem nwL {xs:List V} (q:∀ p H1,ah H H1->H p=none->H1 p=some (.lst xs)->Q (.ref p) H1) (z:(xs.drop 99).isEmpty=true:=by rfl):NwL xs H Q:=⟨wX z,fun p n=>q p _ (ah.new n) n af⟩
theorem ba {p:Prop} [d:Decidable p] (h:p):decide p=true:=decide_eq_true h
theorem bO {p:Prop} [d:Decidable p] (h:¬ p):decide p=false:=decide_eq_false h
end
end L2
namespace My
open PySem PySem.Spec PyProof.Rows L2
noncomputable def top (i:Nat):Stmt:=PySem.Challenge.pw_sashiko_k30_whole_seams_turned_about.main.body.getD i (.Pass ⟨0,0,0,0⟩)
noncomputable abbrev s_ax:Stmt:=(top 10)
noncomputable abbrev s_ah:Stmt:=(top 11)
noncomputable abbrev s_aT:Stmt:=(top 12)
noncomputable abbrev s_az:Stmt:=(top 13)
noncomputable abbrev s_aH:Stmt:=(top 14)
noncomputable abbrev s_ay:Stmt:=(top 15)
noncomputable abbrev s_ar:Stmt:=(cN (top 17) 0)
noncomputable abbrev s_ag:Stmt:=(cN (top 18) 0)
noncomputable abbrev s_ai:Stmt:=(cN (top 18) 1)
noncomputable abbrev s_aj:Stmt:=(cN (top 17) 3)
noncomputable abbrev s_ak:Stmt:=(cN (top 17) 4)
noncomputable abbrev s_ad:Stmt:=(cN (top 17) 1)
noncomputable abbrev s_af:Stmt:=(cN (top 17) 2)
noncomputable abbrev s_ac:Stmt:=(cN (top 17) 5)
noncomputable abbrev s_as:Stmt:=(cN (top 17) 6)
noncomputable abbrev s_ab:Stmt:=(cN (top 17) 7)
noncomputable abbrev s_ae:Stmt:=(cN (top 18) 2)
noncomputable abbrev s_av:Stmt:=(top 20)
noncomputable abbrev s_at:Stmt:=(top 21)
noncomputable abbrev s_al:Stmt:=(top 22)
noncomputable abbrev s_aN:Stmt:=(top 23)
noncomputable abbrev s_am:Stmt:=(top 25)
noncomputable abbrev s_aI:Stmt:=(top 26)
noncomputable abbrev s_ao:Stmt:=(top 27)
noncomputable abbrev s_aL:Stmt:=(top 28)
noncomputable abbrev s_ap:Stmt:=(top 29)
noncomputable abbrev s_aw:Stmt:=(top 30)
noncomputable abbrev s_a4:Stmt:=(top 31)
noncomputable abbrev s_an:Stmt:=(top 32)
noncomputable abbrev s_aq:Stmt:=(top 33)
noncomputable abbrev s_aE:Stmt:=(top 34)
noncomputable abbrev s_aU:Stmt:=(top 36)
noncomputable abbrev s_aG:Stmt:=(top 37)
noncomputable abbrev s_a2:Stmt:=(top 38)
noncomputable abbrev s_aB:Stmt:=(top 43)
noncomputable abbrev s_aV:Stmt:=(top 40)
noncomputable abbrev s_a1:Stmt:=(top 41)
noncomputable abbrev s_aX:Stmt:=(top 42)
noncomputable abbrev s_aZ:Stmt:=(top 44)
noncomputable abbrev s_aF:Stmt:=(top 45)
noncomputable abbrev s_aR:Stmt:=(top 46)
noncomputable abbrev s_aC:Stmt:=(top 47)
noncomputable abbrev s_aK:Stmt:=(top 48)
noncomputable abbrev s_aQ:Stmt:=(top 49)
noncomputable abbrev s_aD:Stmt:=(top 50)
noncomputable abbrev s_aJ:Stmt:=(top 51)
noncomputable abbrev yO:Stmt:=(top 52)
theorem sc_ax:aw ["value"] ["value"] (ak s_ax):=.by
theorem sc_ah:aw ["value","bound"] ["value","bound"] (ak s_ah):=.by
theorem sc_aT:aw ["value"] ["value"] (ak s_aT):=.by
theorem sc_az:aw ["values"] ["values"] (ak s_az):=.by
theorem sc_aH:aw ["count"] ["count"] (ak s_aH):=.by
theorem sc_ay:aw ["board","x","y"] ["board","x","y"] (ak s_ay):=.by
theorem sc_ar:aw ["self","wide","tall","cols","rows"] ["self","wide","tall","cols","rows"] (ak s_ar):=.by
theorem sc_ag:aw ["self","shade","cols","rows"] ["self","shade","cols","rows"] (ak s_ag):=.by
theorem sc_ai:aw ["self"] ["self"] (ak s_ai):=.by
theorem sc_aj:aw ["self"] ["self"] (ak s_aj):=.by
theorem sc_ak:aw ["self"] ["self"] (ak s_ak):=.by
theorem sc_ad:aw ["self"] ["self"] (ak s_ad):=.by
theorem sc_af:aw ["self"] ["self"] (ak s_af):=.by
theorem sc_ac:aw ["self","way"] ["self","way"] (ak s_ac):=.by
theorem sc_as:aw ["self","way","k","bits"] ["self","way","k"] (ak s_as):=.by
theorem sc_ab:aw ["self","way","k","step","line_bit","steps"] ["self","way","k","step"] (ak s_ab):=.by
theorem sc_ae:aw ["self","x","y","stitches"] ["self","x","y"] (ak s_ae):=.by
theorem sc_av:aw ["bits","steps"] ["bits","steps"] (ak s_av):=.by
theorem sc_at:aw ["cloth","last"] ["cloth"] (ak s_at):=.by
theorem sc_al:aw ["cloth"] ["cloth"] (ak s_al):=.by
theorem sc_aN:aw ["cloth"] ["cloth"] (ak s_aN):=.by
theorem sc_am:aw ["cloth","x","y"] ["cloth","x","y"] (ak s_am):=.by
theorem sc_aI:aw ["cloth","x","y"] ["cloth","x","y"] (ak s_aI):=.by
theorem sc_ao:aw ["cloth","point","x","y","found"] ["cloth","point"] (ak s_ao):=.by
theorem sc_aL:aw ["cloth","start","onward","line","here","behind","ways"] ["cloth","start","onward"] (ak s_aL):=.by
theorem sc_ap:aw ["cloth","line","least"] ["cloth","line"] (ak s_ap):=.by
theorem sc_aw:aw ["cloth","end","line"] ["cloth","end"] (ak s_aw):=.by
theorem sc_a4:aw ["cloth","point","ways","line"] ["cloth","point"] (ak s_a4):=.by
theorem sc_an:aw ["told"] ["told"] (ak s_an):=.by
theorem sc_aq:aw ["cloth","found","seen","x","y","told","point"] ["cloth"] (ak s_aq):=.by
theorem sc_aE:aw ["cloth"] ["cloth"] (ak s_aE):=.by
theorem sc_aU:aw ["line","found","k","one","other"] ["line"] (ak s_aU):=.by
theorem sc_aG:aw ["line","found","y","places","marks","k"] ["line"] (ak s_aG):=.by
theorem sc_a2:aw ["line"] ["line"] (ak s_a2):=.by
theorem sc_aB:aw ["_law_script","_law_many","_law_rows","_law_mix","_law_cell","_law_rest"] ["_law_script","_law_many"] (ak s_aB):=.by
theorem sc_aV:aw ["_law_number","_law_many","_law_row_here","_law_k"] ["_law_number","_law_many"] (ak s_aV):=.by
theorem sc_a1:aw ["_law_some","_law_many","_law_raw","_law_row_here"] ["_law_some","_law_many"] (ak s_a1):=.by
theorem sc_aX:aw ["_law_some","_law_wide","_law_tall"] ["_law_some"] (ak s_aX):=.by
theorem sc_aZ:aw ["_law_plan_here"] ["_law_plan_here"] (ak s_aZ):=.by
theorem sc_aF:aw ["_law_told","_law_due"] ["_law_told","_law_due"] (ak s_aF):=.by
theorem sc_aR:aw ["_law_plan_here","_law_way","_law_k","_law_step","_law_bits_here"] ["_law_plan_here","_law_way","_law_k","_law_step"] (ak s_aR):=.by
theorem sc_aC:aw ["_law_plan_here","_law_x","_law_y","_law_wide","_law_tall","_law_found","_law_step"] ["_law_plan_here","_law_x","_law_y"] (ak s_aC):=.by
theorem sc_aK:aw ["_law_line","_law_at"] ["_law_line"] (ak s_aK):=.by
theorem sc_aQ:aw ["_law_plan_here","_law_point","_law_near_here","_law_line","_law_ahead","_law_back"] ["_law_plan_here","_law_point"] (ak s_aQ):=.by
theorem sc_aD:aw ["_law_plan_here","_law_rows","_law_seen","_law_x","_law_y","_law_one","_law_point"] ["_law_plan_here"] (ak s_aD):=.by
theorem sc_aJ:aw ["_law_rows"] ["_law_rows"] (ak s_aJ):=.by
theorem gm:aw ["_law_script","_law_plan_here","_law_cloth","_law_wide","_law_glass","_law_over","_law_bare","_law_sizes"] ["_law_script"] (ak yO):=.by
abbrev QNs (K:W.Frag) (x:Str) (C:Ω):Prop:=W.nsIn K Gs x=some (some (.ref C))
abbrev QNn (K:W.Frag) (x:Str):Prop:=W.nsIn K Gs x=some none
abbrev QFi (K:W.Frag) (C:Ω) (x:Str) (f:Ω):Prop:=W.findIn K (.ref C) x=some (some (.ref f))
abbrev QFn (K:W.Frag) (C:Ω) (x:Str):Prop:=W.findIn K (.ref C) x=some none
abbrev QIf (K:W.Frag) (f:Ω):Prop:=W.isFn K (.ref f)=true
abbrev QXc (K:W.Frag) (C:Ω):Prop:=W.excIn K C [.type "ValueError",.type "Exception",.type "BaseException",.type "object"] "ValueError.__new__"=true
abbrev QXg (K:W.Frag) (C:Ω):Prop:=W.findIn K (.ref C) "__getattribute__"=some (some (.builtin "BaseException.__getattribute__"))/\W.findIn K (.ref C) "__getattr__"=some none/\W.findIn K (.ref C) "__class__"=some (some (.builtin "object.__class__"))/\W.mroIn K C (.type "object")=some true/\W.mroIn K C (.type "BaseException")=some true
set_option genInjectivity false in
set_option genSizeOf false in
structure Ad where
 (a_a6 a_aa f_ax f_ah f_aT f_az f_aH f_ay f_ar f_ag f_ai f_aj:Ω)
 (f_ak f_ad f_af f_ac f_as f_ab f_ae f_av f_at f_al f_aN f_am:Ω)
 (f_aI f_ao f_aL f_ap f_aw f_a4 f_an f_aq f_aE f_aU f_aG f_a2:Ω)
 (f_aB f_aV f_a1 f_aX f_aZ f_aF f_aR f_aC f_aK f_aQ f_aD f_aJ:Ω)
 (f_law a_a0 a_aM a_aP a_aW a_aS a_aY a_aO:Ω)
 (d_ax d_ah d_aT d_az d_aH d_ay d_ar d_ag d_ai d_aj d_ak d_ad:GB)
 (d_af d_ac d_as d_ab d_ae d_av d_at d_al d_aN d_am d_aI d_ao:GB)
 (d_aL d_ap d_aw d_a4 d_an d_aq d_aE d_aU d_aG d_a2 d_aB d_aV:GB)
 (d_a1 d_aX d_aZ d_aF d_aR d_aC d_aK d_aQ d_aD d_aJ d_law:GB)
 (tk_LONGEST_SIDE:Tok)
structure Txt (K:W.Frag) (mg:Str->Option Δ) (t:Ad):Prop where
 mg_a6:mg "Board"=some (.ref t.a_a6)
 mg_aa:mg "Cloth"=some (.ref t.a_aa)
 cl_aa:Cls K t.a_aa
 mk_aa:Mk K t.a_aa t.f_ag
 na_columns_count:cF K t.a_aa "columns_count"
 na_rows_count:cF K t.a_aa "rows_count"
 na_col_bits:cF K t.a_aa "col_bits"
 na_row_bits:cF K t.a_aa "row_bits"
 na_first_colour:cF K t.a_aa "first_colour"
 F_ax:Fun K "is_number" "is_number" s_ax t.f_ax t.d_ax
 b_ax:aH K t.d_ax ["value"] []
 mg_ax:mg "is_number"=some (.ref t.f_ax)
 F_ah:Fun K "is_below" "is_below" s_ah t.f_ah t.d_ah
 b_ah:aH K t.d_ah ["value","bound"] []
 mg_ah:mg "is_below"=some (.ref t.f_ah)
 F_aT:Fun K "is_bit" "is_bit" s_aT t.f_aT t.d_aT
 b_aT:aH K t.d_aT ["value"] []
 mg_aT:mg "is_bit"=some (.ref t.f_aT)
 F_az:Fun K "all_bits" "all_bits" s_az t.f_az t.d_az
 b_az:aH K t.d_az ["values"] []
 mg_az:mg "all_bits"=some (.ref t.f_az)
 F_aH:Fun K "is_side" "is_side" s_aH t.f_aH t.d_aH
 b_aH:aH K t.d_aH ["count"] []
 mg_aH:mg "is_side"=some (.ref t.f_aH)
 F_ay:Fun K "need_cell" "need_cell" s_ay t.f_ay t.d_ay
 b_ay:aH K t.d_ay ["board","x","y"] []
 mg_ay:mg "need_cell"=some (.ref t.f_ay)
 F_ar:Fun K "__init__" "Board.__init__" s_ar t.f_ar t.d_ar
 b_ar:aH K t.d_ar ["self","wide","tall","cols","rows"] []
 cf_ar:Bo K t.a_a6 "__init__" t.f_ar
 F_ag:Fun K "__init__" "Cloth.__init__" s_ag t.f_ag t.d_ag
 b_ag:aH K t.d_ag ["self","shade","cols","rows"] []
 F_ai:Fun K "shade" "Cloth.shade" s_ai t.f_ai t.d_ai
 b_ai:aH K t.d_ai ["self"] []
 m_ai:js K t.a_aa "shade" t.f_ai
 F_aj:Fun K "cols" "Board.cols" s_aj t.f_aj t.d_aj
 b_aj:aH K t.d_aj ["self"] []
 m_aj:js K t.a_aa "cols" t.f_aj
 F_ak:Fun K "rows" "Board.rows" s_ak t.f_ak t.d_ak
 b_ak:aH K t.d_ak ["self"] []
 m_ak:js K t.a_aa "rows" t.f_ak
 F_ad:Fun K "wide" "Board.wide" s_ad t.f_ad t.d_ad
 b_ad:aH K t.d_ad ["self"] []
 m_ad:js K t.a_aa "wide" t.f_ad
 F_af:Fun K "tall" "Board.tall" s_af t.f_af t.d_af
 b_af:aH K t.d_af ["self"] []
 m_af:js K t.a_aa "tall" t.f_af
 F_ac:Fun K "bits_along" "Board.bits_along" s_ac t.f_ac t.d_ac
 b_ac:aH K t.d_ac ["self","way"] []
 m_ac:js K t.a_aa "bits_along" t.f_ac
 F_as:Fun K "bit" "Board.bit" s_as t.f_as t.d_as
 b_as:aH K t.d_as ["self","way","k"] []
 m_as:js K t.a_aa "bit" t.f_as
 F_ab:Fun K "stitched" "Board.stitched" s_ab t.f_ab t.d_ab
 b_ab:aH K t.d_ab ["self","way","k","step"] []
 m_ab:js K t.a_aa "stitched" t.f_ab
 F_ae:Fun K "colour" "Cloth.colour" s_ae t.f_ae t.d_ae
 b_ae:aH K t.d_ae ["self","x","y"] []
 m_ae:js K t.a_aa "colour" t.f_ae
 F_av:Fun K "shifted" "shifted" s_av t.f_av t.d_av
 b_av:aH K t.d_av ["bits","steps"] []
 mg_av:mg "shifted"=some (.ref t.f_av)
 F_at:Fun K "mirrored" "mirrored" s_at t.f_at t.d_at
 b_at:aH K t.d_at ["cloth"] []
 mg_at:mg "mirrored"=some (.ref t.f_at)
 F_al:Fun K "transposed" "transposed" s_al t.f_al t.d_al
 b_al:aH K t.d_al ["cloth"] []
 mg_al:mg "transposed"=some (.ref t.f_al)
 F_aN:Fun K "backed" "backed" s_aN t.f_aN t.d_aN
 b_aN:aH K t.d_aN ["cloth"] []
 mg_aN:mg "backed"=some (.ref t.f_aN)
 F_am:Fun K "sewn_right" "sewn_right" s_am t.f_am t.d_am
 b_am:aH K t.d_am ["cloth","x","y"] []
 mg_am:mg "sewn_right"=some (.ref t.f_am)
 F_aI:Fun K "sewn_up" "sewn_up" s_aI t.f_aI t.d_aI
 b_aI:aH K t.d_aI ["cloth","x","y"] []
 mg_aI:mg "sewn_up"=some (.ref t.f_aI)
 F_ao:Fun K "joined" "joined" s_ao t.f_ao t.d_ao
 b_ao:aH K t.d_ao ["cloth","point"] []
 mg_ao:mg "joined"=some (.ref t.f_ao)
 F_aL:Fun K "walk" "walk" s_aL t.f_aL t.d_aL
 b_aL:aH K t.d_aL ["cloth","start","onward"] []
 mg_aL:mg "walk"=some (.ref t.f_aL)
 F_ap:Fun K "told_round" "told_round" s_ap t.f_ap t.d_ap
 b_ap:aH K t.d_ap ["cloth","line"] []
 mg_ap:mg "told_round"=some (.ref t.f_ap)
 F_aw:Fun K "told_open" "told_open" s_aw t.f_aw t.d_aw
 b_aw:aH K t.d_aw ["cloth","end"] []
 mg_aw:mg "told_open"=some (.ref t.f_aw)
 F_a4:Fun K "seam" "seam" s_a4 t.f_a4 t.d_a4
 b_a4:aH K t.d_a4 ["cloth","point"] []
 mg_a4:mg "seam"=some (.ref t.f_a4)
 F_an:Fun K "first_point" "first_point" s_an t.f_an t.d_an
 b_an:aH K t.d_an ["told"] []
 mg_an:mg "first_point"=some (.ref t.f_an)
 F_aq:Fun K "seams" "seams" s_aq t.f_aq t.d_aq
 b_aq:aH K t.d_aq ["cloth"] []
 mg_aq:mg "seams"=some (.ref t.f_aq)
 F_aE:Fun K "rounds" "rounds" s_aE t.f_aE t.d_aE
 b_aE:aH K t.d_aE ["cloth"] []
 mg_aE:mg "rounds"=some (.ref t.f_aE)
 F_aU:Fun K "walls" "walls" s_aU t.f_aU t.d_aU
 b_aU:aH K t.d_aU ["line"] []
 mg_aU:mg "walls"=some (.ref t.f_aU)
 F_aG:Fun K "inside" "inside" s_aG t.f_aG t.d_aG
 b_aG:aH K t.d_aG ["line"] []
 mg_aG:mg "inside"=some (.ref t.f_aG)
 F_a2:Fun K "area" "area" s_a2 t.f_a2 t.d_a2
 b_a2:aH K t.d_a2 ["line"] []
 mg_a2:mg "area"=some (.ref t.f_a2)
 F_aB:Fun K "_law_draws" "_law_draws" s_aB t.f_aB t.d_aB
 b_aB:aH K t.d_aB ["_law_script","_law_many"] []
 mg_aB:mg "_law_draws"=some (.ref t.f_aB)
 F_aV:Fun K "_law_bits" "_law_bits" s_aV t.f_aV t.d_aV
 b_aV:aH K t.d_aV ["_law_number","_law_many"] []
 mg_aV:mg "_law_bits"=some (.ref t.f_aV)
 F_a1:Fun K "_law_row" "_law_row" s_a1 t.f_a1 t.d_a1
 b_a1:aH K t.d_a1 ["_law_some","_law_many"] []
 mg_a1:mg "_law_row"=some (.ref t.f_a1)
 F_aX:Fun K "_law_plan" "_law_plan" s_aX t.f_aX t.d_aX
 b_aX:aH K t.d_aX ["_law_some"] []
 mg_aX:mg "_law_plan"=some (.ref t.f_aX)
 F_aZ:Fun K "_law_made" "_law_made" s_aZ t.f_aZ t.d_aZ
 b_aZ:aH K t.d_aZ ["_law_plan_here"] []
 mg_aZ:mg "_law_made"=some (.ref t.f_aZ)
 F_aF:Fun K "_law_same" "_law_same" s_aF t.f_aF t.d_aF
 b_aF:aH K t.d_aF ["_law_told","_law_due"] []
 mg_aF:mg "_law_same"=some (.ref t.f_aF)
 F_aR:Fun K "_law_sewn" "_law_sewn" s_aR t.f_aR t.d_aR
 b_aR:aH K t.d_aR ["_law_plan_here","_law_way","_law_k","_law_step"] []
 mg_aR:mg "_law_sewn"=some (.ref t.f_aR)
 F_aC:Fun K "_law_near" "_law_near" s_aC t.f_aC t.d_aC
 b_aC:aH K t.d_aC ["_law_plan_here","_law_x","_law_y"] []
 mg_aC:mg "_law_near"=some (.ref t.f_aC)
 F_aK:Fun K "_law_round" "_law_round" s_aK t.f_aK t.d_aK
 b_aK:aH K t.d_aK ["_law_line"] []
 mg_aK:mg "_law_round"=some (.ref t.f_aK)
 F_aQ:Fun K "_law_seam" "_law_seam" s_aQ t.f_aQ t.d_aQ
 b_aQ:aH K t.d_aQ ["_law_plan_here","_law_point"] []
 mg_aQ:mg "_law_seam"=some (.ref t.f_aQ)
 F_aD:Fun K "_law_seams" "_law_seams" s_aD t.f_aD t.d_aD
 b_aD:aH K t.d_aD ["_law_plan_here"] []
 mg_aD:mg "_law_seams"=some (.ref t.f_aD)
 F_aJ:Fun K "_law_kept" "_law_kept" s_aJ t.f_aJ t.d_aJ
 b_aJ:aH K t.d_aJ ["_law_rows"] []
 mg_aJ:mg "_law_kept"=some (.ref t.f_aJ)
 F_law:Fun K "law" "law" yO t.f_law t.d_law
 b_law:aH K t.d_law ["_law_script"] []
 mg_law:mg "law"=some (.ref t.f_law)
 mg_a0:mg "SewError"=some (.ref t.a_a0)
 mg_aM:mg "BadSize"=some (.ref t.a_aM)
 mg_aP:mg "BadBit"=some (.ref t.a_aP)
 mg_aW:mg "NoCell"=some (.ref t.a_aW)
 mg_aS:mg "NoLine"=some (.ref t.a_aS)
 mg_aY:mg "NoStep"=some (.ref t.a_aY)
 mg_aO:mg "NoPoint"=some (.ref t.a_aO)
 x_aM:QXc K t.a_aM
 xi_aM:lW K t.a_aM
 cat_aM:W.exmOne K (.ref t.a_aM) (.ref t.a_a0)=some true
 x_aP:QXc K t.a_aP
 xi_aP:lW K t.a_aP
 cat_aP:W.exmOne K (.ref t.a_aP) (.ref t.a_a0)=some true
 x_aW:QXc K t.a_aW
 xi_aW:lW K t.a_aW
 cat_aW:W.exmOne K (.ref t.a_aW) (.ref t.a_a0)=some true
 x_aS:QXc K t.a_aS
 xi_aS:lW K t.a_aS
 cat_aS:W.exmOne K (.ref t.a_aS) (.ref t.a_a0)=some true
 x_aY:QXc K t.a_aY
 xi_aY:lW K t.a_aY
 cat_aY:W.exmOne K (.ref t.a_aY) (.ref t.a_a0)=some true
 x_aO:QXc K t.a_aO
 xi_aO:lW K t.a_aO
 cat_aO:W.exmOne K (.ref t.a_aO) (.ref t.a_a0)=some true
 mg_LONGEST_SIDE:mg "LONGEST_SIDE"=some (.int 40 t.tk_LONGEST_SIDE)
 no_a3:mg "isinstance"=none
 no_int:mg "int"=none
 no_bool:mg "bool"=none
 no_all:mg "all"=none
 no_len:mg "len"=none
 no_aA:mg "tuple"=none
 no_list:mg "list"=none
 no_au:mg "range"=none
 no_abs:mg "abs"=none
 no_str:mg "str"=none
 no_zip:mg "zip"=none
 no_a5:mg "ValueError"=none
 no_sorted:mg "sorted"=none
 no_min:mg "min"=none
 no_max:mg "max"=none
 no_reversed:mg "reversed"=none
 no_sum:mg "sum"=none
theorem txt_mk {K:W.Frag} {h:FD} {mg:Str->Option Δ} (X:K.In h) (G:h.Ns Gs mg) {C_a6 C_aa f_ax f_ah f_aT f_az f_aH f_ay f_ar f_ag f_ai f_aj:Ω} {f_ak f_ad f_af f_ac f_as f_ab f_ae f_av f_at f_al f_aN f_am:Ω} {f_aI f_ao f_aL f_ap f_aw f_a4 f_an f_aq f_aE f_aU f_aG f_a2:Ω} {f_aB f_aV f_a1 f_aX f_aZ f_aF f_aR f_aC f_aK f_aQ f_aD f_aJ:Ω} {f_law C_a0 C_aM C_aP C_aW C_aS C_aY C_aO:Ω} {d_ax d_ah d_aT d_az d_aH d_ay d_ar d_ag d_ai d_aj d_ak d_ad:GB} {d_af d_ac d_as d_ab d_ae d_av d_at d_al d_aN d_am d_aI d_ao:GB} {d_aL d_ap d_aw d_a4 d_an d_aq d_aE d_aU d_aG d_a2 d_aB d_aV:GB} {d_a1 d_aX d_aZ d_aF d_aR d_aC d_aK d_aQ d_aD d_aJ d_law:GB} {tk_LONGEST_SIDE:Tok}
  (aC_a6:QNs K "Board" C_a6)
  (ga_a6:W.specialIn K (.ref C_a6) "__getattribute__"=some (some (.builtin "type.__getattribute__")))
  (rd_a6:W.readsIn K C_a6 (.type "type")=true)
  (aC_aa:QNs K "Cloth" C_aa)
  (pg_aa:W.plainGet K C_aa Str.empty=true)
  (hd_aa:W.hasDictIn K C_aa=true)
  (po_aa:W.plainOver K C_aa=true)
  (sa_aa:W.findIn K (.ref C_aa) "__setattr__"=some (some (.builtin "object.__setattr__")))
  (mk_aa:W.makesIn K C_aa=true)
  (kc_aa:W.keepIn K (.ref C_aa)=true)
  (na_columns_count:QFn K C_aa "columns_count")
  (na_rows_count:QFn K C_aa "rows_count")
  (na_col_bits:QFn K C_aa "col_bits")
  (na_row_bits:QFn K C_aa "row_bits")
  (na_first_colour:QFn K C_aa "first_colour")
  (a_ax:QNs K "is_number" f_ax)
  (F_ax:Fun K "is_number" "is_number" s_ax f_ax d_ax)
  (a_ah:QNs K "is_below" f_ah)
  (F_ah:Fun K "is_below" "is_below" s_ah f_ah d_ah)
  (a_aT:QNs K "is_bit" f_aT)
  (F_aT:Fun K "is_bit" "is_bit" s_aT f_aT d_aT)
  (a_az:QNs K "all_bits" f_az)
  (F_az:Fun K "all_bits" "all_bits" s_az f_az d_az)
  (a_aH:QNs K "is_side" f_aH)
  (F_aH:Fun K "is_side" "is_side" s_aH f_aH d_aH)
  (a_ay:QNs K "need_cell" f_ay)
  (F_ay:Fun K "need_cell" "need_cell" s_ay f_ay d_ay)
  (fc_ar:W.findCls K (.ref C_a6) (.type "type") "__init__"=some (.val (.ref f_ar)))
  (F_ar:Fun K "__init__" "Board.__init__" s_ar f_ar d_ar)
  (a_ag:QFi K C_aa "__init__" f_ag)
  (i_ag:QIf K f_ag)
  (F_ag:Fun K "__init__" "Cloth.__init__" s_ag f_ag d_ag)
  (a_ai:QFi K C_aa "shade" f_ai)
  (i_ai:QIf K f_ai)
  (F_ai:Fun K "shade" "Cloth.shade" s_ai f_ai d_ai)
  (a_aj:QFi K C_aa "cols" f_aj)
  (i_aj:QIf K f_aj)
  (F_aj:Fun K "cols" "Board.cols" s_aj f_aj d_aj)
  (a_ak:QFi K C_aa "rows" f_ak)
  (i_ak:QIf K f_ak)
  (F_ak:Fun K "rows" "Board.rows" s_ak f_ak d_ak)
  (a_ad:QFi K C_aa "wide" f_ad)
  (i_ad:QIf K f_ad)
  (F_ad:Fun K "wide" "Board.wide" s_ad f_ad d_ad)
  (a_af:QFi K C_aa "tall" f_af)
  (i_af:QIf K f_af)
  (F_af:Fun K "tall" "Board.tall" s_af f_af d_af)
  (a_ac:QFi K C_aa "bits_along" f_ac)
  (i_ac:QIf K f_ac)
  (F_ac:Fun K "bits_along" "Board.bits_along" s_ac f_ac d_ac)
  (a_as:QFi K C_aa "bit" f_as)
  (i_as:QIf K f_as)
  (F_as:Fun K "bit" "Board.bit" s_as f_as d_as)
  (a_ab:QFi K C_aa "stitched" f_ab)
  (i_ab:QIf K f_ab)
  (F_ab:Fun K "stitched" "Board.stitched" s_ab f_ab d_ab)
  (a_ae:QFi K C_aa "colour" f_ae)
  (i_ae:QIf K f_ae)
  (F_ae:Fun K "colour" "Cloth.colour" s_ae f_ae d_ae)
  (a_av:QNs K "shifted" f_av)
  (F_av:Fun K "shifted" "shifted" s_av f_av d_av)
  (a_at:QNs K "mirrored" f_at)
  (F_at:Fun K "mirrored" "mirrored" s_at f_at d_at)
  (a_al:QNs K "transposed" f_al)
  (F_al:Fun K "transposed" "transposed" s_al f_al d_al)
  (a_aN:QNs K "backed" f_aN)
  (F_aN:Fun K "backed" "backed" s_aN f_aN d_aN)
  (a_am:QNs K "sewn_right" f_am)
  (F_am:Fun K "sewn_right" "sewn_right" s_am f_am d_am)
  (a_aI:QNs K "sewn_up" f_aI)
  (F_aI:Fun K "sewn_up" "sewn_up" s_aI f_aI d_aI)
  (a_ao:QNs K "joined" f_ao)
  (F_ao:Fun K "joined" "joined" s_ao f_ao d_ao)
  (a_aL:QNs K "walk" f_aL)
  (F_aL:Fun K "walk" "walk" s_aL f_aL d_aL)
  (a_ap:QNs K "told_round" f_ap)
  (F_ap:Fun K "told_round" "told_round" s_ap f_ap d_ap)
  (a_aw:QNs K "told_open" f_aw)
  (F_aw:Fun K "told_open" "told_open" s_aw f_aw d_aw)
  (a_a4:QNs K "seam" f_a4)
  (F_a4:Fun K "seam" "seam" s_a4 f_a4 d_a4)
  (a_an:QNs K "first_point" f_an)
  (F_an:Fun K "first_point" "first_point" s_an f_an d_an)
  (a_aq:QNs K "seams" f_aq)
  (F_aq:Fun K "seams" "seams" s_aq f_aq d_aq)
  (a_aE:QNs K "rounds" f_aE)
  (F_aE:Fun K "rounds" "rounds" s_aE f_aE d_aE)
  (a_aU:QNs K "walls" f_aU)
  (F_aU:Fun K "walls" "walls" s_aU f_aU d_aU)
  (a_aG:QNs K "inside" f_aG)
  (F_aG:Fun K "inside" "inside" s_aG f_aG d_aG)
  (a_a2:QNs K "area" f_a2)
  (F_a2:Fun K "area" "area" s_a2 f_a2 d_a2)
  (a_aB:QNs K "_law_draws" f_aB)
  (F_aB:Fun K "_law_draws" "_law_draws" s_aB f_aB d_aB)
  (a_aV:QNs K "_law_bits" f_aV)
  (F_aV:Fun K "_law_bits" "_law_bits" s_aV f_aV d_aV)
  (a_a1:QNs K "_law_row" f_a1)
  (F_a1:Fun K "_law_row" "_law_row" s_a1 f_a1 d_a1)
  (a_aX:QNs K "_law_plan" f_aX)
  (F_aX:Fun K "_law_plan" "_law_plan" s_aX f_aX d_aX)
  (a_aZ:QNs K "_law_made" f_aZ)
  (F_aZ:Fun K "_law_made" "_law_made" s_aZ f_aZ d_aZ)
  (a_aF:QNs K "_law_same" f_aF)
  (F_aF:Fun K "_law_same" "_law_same" s_aF f_aF d_aF)
  (a_aR:QNs K "_law_sewn" f_aR)
  (F_aR:Fun K "_law_sewn" "_law_sewn" s_aR f_aR d_aR)
  (a_aC:QNs K "_law_near" f_aC)
  (F_aC:Fun K "_law_near" "_law_near" s_aC f_aC d_aC)
  (a_aK:QNs K "_law_round" f_aK)
  (F_aK:Fun K "_law_round" "_law_round" s_aK f_aK d_aK)
  (a_aQ:QNs K "_law_seam" f_aQ)
  (F_aQ:Fun K "_law_seam" "_law_seam" s_aQ f_aQ d_aQ)
  (a_aD:QNs K "_law_seams" f_aD)
  (F_aD:Fun K "_law_seams" "_law_seams" s_aD f_aD d_aD)
  (a_aJ:QNs K "_law_kept" f_aJ)
  (F_aJ:Fun K "_law_kept" "_law_kept" s_aJ f_aJ d_aJ)
  (a_law:QNs K "law" f_law)
  (F_law:Fun K "law" "law" yO f_law d_law)
  (aX_a0:QNs K "SewError" C_a0)
  (aX_aM:QNs K "BadSize" C_aM)
  (aX_aP:QNs K "BadBit" C_aP)
  (aX_aW:QNs K "NoCell" C_aW)
  (aX_aS:QNs K "NoLine" C_aS)
  (aX_aY:QNs K "NoStep" C_aY)
  (aX_aO:QNs K "NoPoint" C_aO)
  (bb:W.subIn K (.ref C_a0) (.type "BaseException")=some true)
  (bm:W.mroIn K C_a0 (.type "object")=some true)
  (bt:W.typeIn K (.ref C_a0)=some (.type "type"))
  (ogs:W.specialIn K (.builtin "object.__class__") "__get__"=some (some (.builtin "getset_descriptor.__get__")))
  (otk:W.takesIn K (.builtin "object.__class__")=some true)
  (x_aM:QXc K C_aM)
  (xg_BadSize:QXg K C_aM)
  (sb_aM:W.subIn K (.ref C_aM) (.ref C_a0)=some true)
  (x_aP:QXc K C_aP)
  (xg_BadBit:QXg K C_aP)
  (sb_aP:W.subIn K (.ref C_aP) (.ref C_a0)=some true)
  (x_aW:QXc K C_aW)
  (xg_NoCell:QXg K C_aW)
  (sb_aW:W.subIn K (.ref C_aW) (.ref C_a0)=some true)
  (x_aS:QXc K C_aS)
  (xg_NoLine:QXg K C_aS)
  (sb_aS:W.subIn K (.ref C_aS) (.ref C_a0)=some true)
  (x_aY:QXc K C_aY)
  (xg_NoStep:QXg K C_aY)
  (sb_aY:W.subIn K (.ref C_aY) (.ref C_a0)=some true)
  (x_aO:QXc K C_aO)
  (xg_NoPoint:QXg K C_aO)
  (sb_aO:W.subIn K (.ref C_aO) (.ref C_a0)=some true)
  (v_LONGEST_SIDE:W.nsIn K Gs "LONGEST_SIDE"=some (some (.int 40 tk_LONGEST_SIDE)))
  (z_a3:QNn K "isinstance")
  (z_int:QNn K "int")
  (z_bool:QNn K "bool")
  (z_all:QNn K "all")
  (z_len:QNn K "len")
  (z_aA:QNn K "tuple")
  (z_list:QNn K "list")
  (z_au:QNn K "range")
  (z_abs:QNn K "abs")
  (z_str:QNn K "str")
  (z_zip:QNn K "zip")
  (z_a5:QNn K "ValueError")
  (z_sorted:QNn K "sorted")
  (z_min:QNn K "min")
  (z_max:QNn K "max")
  (z_reversed:QNn K "reversed")
  (z_sum:QNn K "sum"):∃ t:Ad,Txt K mg t :=
 ⟨{ a_a6:=C_a6,a_aa:=C_aa,f_ax:=f_ax,d_ax:=d_ax,f_ah:=f_ah,d_ah:=d_ah,f_aT:=f_aT,d_aT:=d_aT,f_az:=f_az,d_az:=d_az,f_aH:=f_aH,d_aH:=d_aH,f_ay:=f_ay,d_ay:=d_ay,f_ar:=f_ar,d_ar:=d_ar,f_ag:=f_ag,d_ag:=d_ag,f_ai:=f_ai,d_ai:=d_ai,f_aj:=f_aj,d_aj:=d_aj,f_ak:=f_ak,d_ak:=d_ak,f_ad:=f_ad,d_ad:=d_ad,f_af:=f_af,d_af:=d_af,f_ac:=f_ac,d_ac:=d_ac,f_as:=f_as,d_as:=d_as,f_ab:=f_ab,d_ab:=d_ab,f_ae:=f_ae,d_ae:=d_ae,f_av:=f_av,d_av:=d_av,f_at:=f_at,d_at:=d_at,f_al:=f_al,d_al:=d_al,f_aN:=f_aN,d_aN:=d_aN,f_am:=f_am,d_am:=d_am,f_aI:=f_aI,d_aI:=d_aI,f_ao:=f_ao,d_ao:=d_ao,f_aL:=f_aL,d_aL:=d_aL,f_ap:=f_ap,d_ap:=d_ap,f_aw:=f_aw,d_aw:=d_aw,f_a4:=f_a4,d_a4:=d_a4,f_an:=f_an,d_an:=d_an,f_aq:=f_aq,d_aq:=d_aq,f_aE:=f_aE,d_aE:=d_aE,f_aU:=f_aU,d_aU:=d_aU,f_aG:=f_aG,d_aG:=d_aG,f_a2:=f_a2,d_a2:=d_a2,f_aB:=f_aB,d_aB:=d_aB,f_aV:=f_aV,d_aV:=d_aV,f_a1:=f_a1,d_a1:=d_a1,f_aX:=f_aX,d_aX:=d_aX,f_aZ:=f_aZ,d_aZ:=d_aZ,f_aF:=f_aF,d_aF:=d_aF,f_aR:=f_aR,d_aR:=d_aR,f_aC:=f_aC,d_aC:=d_aC,f_aK:=f_aK,d_aK:=d_aK,f_aQ:=f_aQ,d_aQ:=d_aQ,f_aD:=f_aD,d_aD:=d_aD,f_aJ:=f_aJ,d_aJ:=d_aJ,f_law:=f_law,d_law:=d_law,a_a0:=C_a0,a_aM:=C_aM,a_aP:=C_aP,a_aW:=C_aW,a_aS:=C_aS,a_aY:=C_aY,a_aO:=C_aO,tk_LONGEST_SIDE:=tk_LONGEST_SIDE },⟨W.mg_of X G aC_a6,W.mg_of X G aC_aa,⟨pg_aa,hd_aa,po_aa,sa_aa⟩,⟨mk_aa,a_ag,i_ag,kc_aa⟩,na_columns_count,na_rows_count,na_col_bits,na_row_bits,na_first_colour,F_ax,F_ax.b1 fun _ _ _ _ _ _ _=>rfl,W.mg_of X G a_ax,F_ah,F_ah.b2 fun _ _ _ _ _ _ _ _=>rfl,W.mg_of X G a_ah,F_aT,F_aT.b1 fun _ _ _ _ _ _ _=>rfl,W.mg_of X G a_aT,F_az,F_az.b1 fun _ _ _ _ _ _ _=>rfl,W.mg_of X G a_az,F_aH,F_aH.b1 fun _ _ _ _ _ _ _=>rfl,W.mg_of X G a_aH,F_ay,F_ay.b3 fun _ _ _ _ _ _ _ _ _=>rfl,W.mg_of X G a_ay,F_ar,F_ar.b5 fun _ _ _ _ _ _ _ _ _ _ _=>rfl,⟨ga_a6,rd_a6,fc_ar,F_ar.kp⟩,F_ag,F_ag.b4 fun _ _ _ _ _ _ _ _ _ _=>rfl,F_ai,F_ai.b1 fun _ _ _ _ _ _ _=>rfl,⟨a_ai,i_ai,F_ai.kp⟩,F_aj,F_aj.b1 fun _ _ _ _ _ _ _=>rfl,⟨a_aj,i_aj,F_aj.kp⟩,F_ak,F_ak.b1 fun _ _ _ _ _ _ _=>rfl,⟨a_ak,i_ak,F_ak.kp⟩,F_ad,F_ad.b1 fun _ _ _ _ _ _ _=>rfl,⟨a_ad,i_ad,F_ad.kp⟩,F_af,F_af.b1 fun _ _ _ _ _ _ _=>rfl,⟨a_af,i_af,F_af.kp⟩,F_ac,F_ac.b2 fun _ _ _ _ _ _ _ _=>rfl,⟨a_ac,i_ac,F_ac.kp⟩,F_as,F_as.b3 fun _ _ _ _ _ _ _ _ _=>rfl,⟨a_as,i_as,F_as.kp⟩,F_ab,F_ab.b4 fun _ _ _ _ _ _ _ _ _ _=>rfl,⟨a_ab,i_ab,F_ab.kp⟩,F_ae,F_ae.b3 fun _ _ _ _ _ _ _ _ _=>rfl,⟨a_ae,i_ae,F_ae.kp⟩,F_av,F_av.b2 fun _ _ _ _ _ _ _ _=>rfl,W.mg_of X G a_av,F_at,F_at.b1 fun _ _ _ _ _ _ _=>rfl,W.mg_of X G a_at,F_al,F_al.b1 fun _ _ _ _ _ _ _=>rfl,W.mg_of X G a_al,F_aN,F_aN.b1 fun _ _ _ _ _ _ _=>rfl,W.mg_of X G a_aN,F_am,F_am.b3 fun _ _ _ _ _ _ _ _ _=>rfl,W.mg_of X G a_am,F_aI,F_aI.b3 fun _ _ _ _ _ _ _ _ _=>rfl,W.mg_of X G a_aI,F_ao,F_ao.b2 fun _ _ _ _ _ _ _ _=>rfl,W.mg_of X G a_ao,F_aL,F_aL.b3 fun _ _ _ _ _ _ _ _ _=>rfl,W.mg_of X G a_aL,F_ap,F_ap.b2 fun _ _ _ _ _ _ _ _=>rfl,W.mg_of X G a_ap,F_aw,F_aw.b2 fun _ _ _ _ _ _ _ _=>rfl,W.mg_of X G a_aw,F_a4,F_a4.b2 fun _ _ _ _ _ _ _ _=>rfl,W.mg_of X G a_a4,F_an,F_an.b1 fun _ _ _ _ _ _ _=>rfl,W.mg_of X G a_an,F_aq,F_aq.b1 fun _ _ _ _ _ _ _=>rfl,W.mg_of X G a_aq,F_aE,F_aE.b1 fun _ _ _ _ _ _ _=>rfl,W.mg_of X G a_aE,F_aU,F_aU.b1 fun _ _ _ _ _ _ _=>rfl,W.mg_of X G a_aU,F_aG,F_aG.b1 fun _ _ _ _ _ _ _=>rfl,W.mg_of X G a_aG,F_a2,F_a2.b1 fun _ _ _ _ _ _ _=>rfl,W.mg_of X G a_a2,F_aB,F_aB.b2 fun _ _ _ _ _ _ _ _=>rfl,W.mg_of X G a_aB,F_aV,F_aV.b2 fun _ _ _ _ _ _ _ _=>rfl,W.mg_of X G a_aV,F_a1,F_a1.b2 fun _ _ _ _ _ _ _ _=>rfl,W.mg_of X G a_a1,F_aX,F_aX.b1 fun _ _ _ _ _ _ _=>rfl,W.mg_of X G a_aX,F_aZ,F_aZ.b1 fun _ _ _ _ _ _ _=>rfl,W.mg_of X G a_aZ,F_aF,F_aF.b2 fun _ _ _ _ _ _ _ _=>rfl,W.mg_of X G a_aF,F_aR,F_aR.b4 fun _ _ _ _ _ _ _ _ _ _=>rfl,W.mg_of X G a_aR,F_aC,F_aC.b3 fun _ _ _ _ _ _ _ _ _=>rfl,W.mg_of X G a_aC,F_aK,F_aK.b1 fun _ _ _ _ _ _ _=>rfl,W.mg_of X G a_aK,F_aQ,F_aQ.b2 fun _ _ _ _ _ _ _ _=>rfl,W.mg_of X G a_aQ,F_aD,F_aD.b1 fun _ _ _ _ _ _ _=>rfl,W.mg_of X G a_aD,F_aJ,F_aJ.b1 fun _ _ _ _ _ _ _=>rfl,W.mg_of X G a_aJ,F_law,F_law.b1 fun _ _ _ _ _ _ _=>rfl,W.mg_of X G a_law,W.mg_of X G aX_a0,W.mg_of X G aX_aM,W.mg_of X G aX_aP,W.mg_of X G aX_aW,W.mg_of X G aX_aS,W.mg_of X G aX_aY,W.mg_of X G aX_aO,x_aM,⟨xg_BadSize.1,xg_BadSize.2.1,xg_BadSize.2.2.1,ogs,otk,xg_BadSize.2.2.2.1,xg_BadSize.2.2.2.2⟩,i0 bb bm bt sb_aM,x_aP,⟨xg_BadBit.1,xg_BadBit.2.1,xg_BadBit.2.2.1,ogs,otk,xg_BadBit.2.2.2.1,xg_BadBit.2.2.2.2⟩,i0 bb bm bt sb_aP,x_aW,⟨xg_NoCell.1,xg_NoCell.2.1,xg_NoCell.2.2.1,ogs,otk,xg_NoCell.2.2.2.1,xg_NoCell.2.2.2.2⟩,i0 bb bm bt sb_aW,x_aS,⟨xg_NoLine.1,xg_NoLine.2.1,xg_NoLine.2.2.1,ogs,otk,xg_NoLine.2.2.2.1,xg_NoLine.2.2.2.2⟩,i0 bb bm bt sb_aS,x_aY,⟨xg_NoStep.1,xg_NoStep.2.1,xg_NoStep.2.2.1,ogs,otk,xg_NoStep.2.2.2.1,xg_NoStep.2.2.2.2⟩,i0 bb bm bt sb_aY,x_aO,⟨xg_NoPoint.1,xg_NoPoint.2.1,xg_NoPoint.2.2.1,ogs,otk,xg_NoPoint.2.2.2.1,xg_NoPoint.2.2.2.2⟩,i0 bb bm bt sb_aO,W.mg_of X G v_LONGEST_SIDE,W.mg_none_of X G z_a3,W.mg_none_of X G z_int,W.mg_none_of X G z_bool,W.mg_none_of X G z_all,W.mg_none_of X G z_len,W.mg_none_of X G z_aA,W.mg_none_of X G z_list,W.mg_none_of X G z_au,W.mg_none_of X G z_abs,W.mg_none_of X G z_str,W.mg_none_of X G z_zip,W.mg_none_of X G z_a5,W.mg_none_of X G z_sorted,W.mg_none_of X G z_min,W.mg_none_of X G z_max,W.mg_none_of X G z_reversed,W.mg_none_of X G z_sum⟩⟩
local macro_rules | `(tactic| walk_at "rd1") => `(tactic| first
  | ((with_reducible refine' C3 (v:=?kv) ?ke ?kh); (case ke=>exact rfl)) | (with_reducible refine AW fun _ _=>?_) | (with_reducible refine CL ?_) | (with_reducible refine b9 ?_) | (with_reducible refine C2 ?_) | (with_reducible refine AE ?_) | (with_reducible refine CY ?_) | (with_reducible refine DM ?_) | (with_reducible refine yD ?_) | (with_reducible refine AF ?_) | (with_reducible refine Ek ?_) | (with_reducible refine DJ ?_) | (with_reducible refine DN ?_) | (with_reducible refine Ay ?_) | (with_reducible refine AQ ?_) | (with_reducible refine CK ?_) | (with_reducible refine DK ?_) | (with_reducible refine C1 ?_) | (with_reducible refine dA ?_) | (with_reducible refine DG ?_) | (with_reducible refine Ej ?_) | (with_reducible refine CS ?_) | (with_reducible refine CU ?_) | (with_reducible refine CQ ?_) | (with_reducible refine CZ ?_) | (with_reducible refine yl ?_) | (with_reducible refine Az ?_) | (with_reducible refine C0 ?_) | (with_reducible refine AB ?_) | (with_reducible refine DF ?_) | (with_reducible refine AZ ?_) | (with_reducible refine AK ?_) | (with_reducible refine AO ?_) | (with_reducible refine yE ?_) | (with_reducible refine vH ?_) | (with_reducible refine cP ?_) | (with_reducible refine iQ ?_) | (with_reducible refine AX ?_) | (with_reducible refine yG ?_) | (with_reducible refine AA ?_) | (with_reducible refine CV ?_) | (with_reducible refine AM ?_) | (with_reducible refine AL ?_) | (with_reducible refine yz ?_) | (with_reducible refine DH ?_) | (with_reducible refine CM ?_) | (with_reducible refine DL ?_) | (with_reducible refine vI ?_) | (with_reducible refine AR ?_) | (with_reducible refine yp ?_) | (with_reducible refine yq ?_) | (with_reducible refine DI ?_) | (with_reducible refine AD ?_) | (with_reducible refine CP ?_) | (with_reducible refine vE ?_) | (with_reducible refine yn ?_) | (with_reducible refine ym ?_) | (with_reducible refine AV ?_) | (with_reducible refine CJ ?_) | (with_reducible refine AN ?_) | (with_reducible refine CW ?_) | (with_reducible refine AS ?_) | (with_reducible refine yr ?_) | (with_reducible refine AH ?_) | (with_reducible refine yu ?_) | (with_reducible refine lF ?_) | (with_reducible refine Ea ?_) | (with_reducible refine Dt ?_) | (with_reducible refine Du ?_) | ((with_reducible refine' CO (r:=?kr) ?ke ?kh); (case ke=>assumption)) | (dsimp only))
local macro_rules | `(tactic| walk_at "") => `(tactic| repeat walk_at "rd1")
local macro_rules | `(tactic| walk_at "l") => `(tactic| ((intro vs H Q E h); (iterate 40 (try (obtain ⟨_, h⟩ := h))); (all_goals (subst_vars; rfl))))
local macro_rules | `(tactic| symm at $h:ident) => `(tactic| simp only [List.mem_cons,List.not_mem_nil,or_false] at $h:ident)
local macro_rules | `(tactic| left) => `(tactic| walk_at "")
local macro_rules | `(tactic| apply $e) => `(tactic| (walk_at ""; refine $e))
section
variable {P:ER} {w:E2} {K:W.Frag} {mg:Str->Option Δ} {base:FD} {t:Ad}
noncomputable def dg (i:Int):Bool:=decide (0<=i)&&decide (i<2)
def sp_ax:Sp:=fun vs H Q _=>∃ i,vs=[.int i]/\Q (.bl true) H
theorem ok_ax (T:Txt K mg t):aP P w K mg base CX0 1 t.f_ax t.d_ax ["value"] sp_ax:=by
 refine T.F_ax.ok sc_ax (by walk_at "l") (fun _ _ _ s H vs Q E hr h=>?_)
 ·obtain ⟨i,rfl,k⟩:=h;refine ⟨_,(ai (aC (ki (aq (a9 K rfl) rfl T.no_a3 (by rfl) (aa (pv 0) (aa (b8 (v:=.ty "int") rfl T.no_int (by rfl:Fi "int"=some (.type "int")) rfl) ae))) (km (Cw (aq (a9 K rfl) rfl T.no_a3 (by rfl) (aa (pv 0) (aa (b8 (v:=.ty "bool") rfl T.no_bool (by rfl:Fi "bool"=some (.type "bool")) rfl) ae)))))))),?_⟩;apply cG (.int i) Ci ?_;apply cG (.int i) Cg ?_;left;exact k
def sp_ah:Sp:=fun vs H Q _=>∃ i b,vs=[.int i,.int b]/\Q (.bl (decide (0<=i)&&decide (i<b))) H
theorem ok_ah (T:Txt K mg t):aP P w K mg base CX0 2 t.f_ah t.d_ah ["value","bound"] sp_ah:=by
 refine T.F_ah.ok sc_ah (by walk_at "l") (fun _ _ _ s H vs Q E hr h=>?_)
 ·obtain ⟨i,b,rfl,k⟩:=h;refine ⟨_,(ai (aC (ki (ao (ok_ax T) (rmo hr) rfl T.mg_ax T.F_ax.kp T.b_ax .nil aB (aa (pv 0) ae)) (km (xT p9 dw ag (pv 0) (pv 1)))))),?_⟩;apply ⟨i,rfl,?_⟩;apply jZ (fun h0=>?_) (fun h0=>?_)
  ·left;rw [h0] at k;exact k
  ·rw [Bool.not_eq_true] at h0;rw [h0] at k;exact k
def sp_aT:Sp:=fun vs H Q _=>∃ i,vs=[.int i]/\Q (.bl (dg i)) H
theorem ok_aT (T:Txt K mg t):aP P w K mg base CX0 3 t.f_aT t.d_aT ["value"] sp_aT:=by
 refine T.F_aT.ok sc_aT (by walk_at "l") (fun _ _ _ s H vs Q E hr h=>?_)
 ·obtain ⟨i,rfl,k⟩:=h;refine ⟨_,(ai (aC (ao (ok_ah T) (rmo hr) rfl T.mg_ah T.F_ah.kp T.b_ah .nil aB (aa (pv 0) (aa ag ae))))),?_⟩;left;exact ⟨i,2,rfl,k⟩
noncomputable def gX (n:Int):Bool:=decide (0<n)&&decide (n<41)
def sp_aH:Sp:=fun vs H Q _=>∃ i,vs=[.int i]/\Q (.bl (gX i)) H
theorem ok_aH (T:Txt K mg t):aP P w K mg base CX0 3 t.f_aH t.d_aH ["count"] sp_aH:=by
  refine T.F_aH.ok sc_aH (fun vs H Q E h=>?_) (fun cdv A outer s H vs Q E hr h=>?_)
  · obtain ⟨i,rfl,_⟩:=h; rfl
  · obtain ⟨i,rfl,k⟩:=h
    refine ⟨_,(ai (aC (ki (ao (ok_ah T) (rmo hr) rfl T.mg_ah T.F_ah.kp T.b_ah .nil aB (aa (pv 0) (aa (aA a7 (tY (v:=.int 40) rfl T.mg_LONGEST_SIDE ⟨_,rfl⟩) ag) ae))) (km (kj By (pv 0) ag))))),?_⟩;apply ⟨i,_,rfl,?_⟩;apply jZ (fun h0=>?_) (fun h0=>?_)
    · left
      have e:gX i=decide (0<i):=by
        rw [FL,decide_eq_true_eq,decide_eq_true_eq] at h0;unfold gX;rw [ba (by omega:i<41),Lq]
      rw [e] at k;exact k
    · have e:gX i=false:=by
        rw [FL,decide_eq_true_eq,decide_eq_true_eq] at h0;unfold gX;by_cases hi:0<i
        · rw [bO (by omega:¬ i<41),KA]
        · rw [bO hi,LX]
      rw [e] at k;exact k
theorem qG {n:Nat}:gX ((n:Int)+1)=decide (n<=39):=by
 unfold gX;rw [ba (by omega:(0:Int)<(n:Int)+1),Bool.true_and];exact decide_eq_decide.mpr (by omega)
def sp_az:Sp:=fun vs H Q _=>∃ (p:Ω) (ns:List Int),vs=[.ref p]/\H p=some (.lst (ns.map V.int))/\ns.length<=1000/\∀ H',ah H H'->Q (.bl (ns.all dg)) H'
theorem ok_az (T:Txt K mg t):aP P w K mg base CX0 4 t.f_az t.d_az ["values"] sp_az:=by
 refine T.F_az.ok sc_az (by walk_at "l") (fun _ _ _ s H vs Q E hr h=>?_)
 ·obtain ⟨p,ns,rfl,hp,hl,k⟩:=h;refine ⟨_,(ai (aC (aq (sY K rfl rfl) rfl T.no_all (by rfl) (aa (bW (N:=["value"]) (cap:=[none]) rfl ⟨rfl,rfl,rfl,rfl,rfl,rfl⟩ (bK (pv 0)) (fun _ _ _=>(aG (i:=0) (show (["value"]:List Str).Nodup by decide +kernel) rfl (Fp rfl))) (fun _ _ _=>bX) (fun _ _ _=>(ao (ok_aT T) (rmo hr) rfl T.mg_aT T.F_aT.kp T.b_aT .nil aB (aa (pv 0) ae)))) ae)))),?_⟩;apply ⟨⟨_,SqL.of hp⟩,fun l hn=>?_⟩;refine fx (fun v=>match v with | .int i=>.bl (dg i) | _=>.non) (SqL.of hp) (by rw [Aj]; exact hl) hn (fun x o H' Q' hx s1 q=>?_) (fun H' s1 e=>?_)
  ·obtain ⟨i,_,rfl⟩:=EE.mp hx;left;exact ⟨i,rfl,q H' (ah.refl _)⟩
  ·left;have e':H' l=some (.lst ((ns.map dg).map V.bl)):=by rw [e,FP,FP]; rfl
   refine rP e' ?_;rw [List.all_map];exact k H' s1
noncomputable def bfl (a b:Ω) (w h:Int):List (Str×V):=dN "row_bits" (.ref b) (dN "col_bits" (.ref a) (dN "rows_count" (.int h) (dN "columns_count" (.int w) [])))
noncomputable def cfl (s:Int) (a b:Ω) (w h:Int):List (Str×V):=dN "first_colour" (.int s) (bfl a b w h)
abbrev NoF (m:Str):Prop:=((¬ m="first_colour")/\¬ m="col_bits")/\(¬ m="row_bits")/\(¬ m="columns_count")/\¬ m="rows_count"
theorem Dm {w h:Int} (a b:Ω):(bfl a b w h).lookup ("columns_count":Str)=some (.int w):=by
 unfold bfl; rw [aF,if_neg (by decide +kernel),aF,if_neg (by decide +kernel),aF,if_neg (by decide +kernel),aF,if_pos rfl]
theorem Dk {w h:Int} (a b:Ω):(bfl a b w h).lookup ("rows_count":Str)=some (.int h):=by
 unfold bfl; rw [aF,if_neg (by decide +kernel),aF,if_neg (by decide +kernel),aF,if_pos rfl]
theorem Dj {w h:Int} (a b:Ω):(bfl a b w h).lookup ("col_bits":Str)=some (.ref a):=by
 unfold bfl; rw [aF,if_neg (by decide +kernel),aF,if_pos rfl]
theorem Dl {w h:Int} (a b:Ω):(bfl a b w h).lookup ("row_bits":Str)=some (.ref b):=by
 unfold bfl; rw [aF,if_pos rfl]
theorem BZ {w h:Int} (a b:Ω) {m:Str} (n:NoF m):(bfl a b w h).lookup m=none:=by
 obtain ⟨⟨n1,n2⟩,n3,n4,n5⟩:=n;unfold bfl; rw [aF,if_neg n3,aF,if_neg n2,aF,if_neg n5,aF,if_neg n4]; rfl
theorem Bp {w h:Int} (s:Int) (a b:Ω):(cfl s a b w h).lookup ("first_colour":Str)=some (.int s):=by
 unfold cfl; rw [aF,if_pos rfl]
theorem Dp {w h:Int} (s:Int) (a b:Ω):(cfl s a b w h).lookup ("columns_count":Str)=some (.int w):=by
 unfold cfl; rw [aF,if_neg (by decide +kernel),Dm]
theorem Dn {w h:Int} (s:Int) (a b:Ω):(cfl s a b w h).lookup ("rows_count":Str)=some (.int h):=by
 unfold cfl; rw [aF,if_neg (by decide +kernel),Dk]
theorem wM {w h:Int} (s:Int) (a b:Ω):(cfl s a b w h).lookup ("col_bits":Str)=some (.ref a):=by
 unfold cfl; rw [aF,if_neg (by decide +kernel),Dj]
theorem wN {w h:Int} (s:Int) (a b:Ω):(cfl s a b w h).lookup ("row_bits":Str)=some (.ref b):=by
 unfold cfl; rw [aF,if_neg (by decide +kernel),Dl]
theorem dH {w h:Int} (s:Int) (a b:Ω) {m:Str} (n:NoF m):(cfl s a b w h).lookup m=none:=by
 unfold cfl; rw [aF,if_neg n.1.1,BZ _ _ n]
structure sS (C:Ω) (H:Hp) (p:Ω) (w h:Int) (cs rs:List Int):Prop where
 ob:∃ dx a b,H p=some (.ins C dx (bfl a b w h))/\H a=some (.tup (cs.map V.int))/\H b=some (.tup (rs.map V.int))
structure aI (C:Ω) (H:Hp) (p:Ω) (s:Int) (cs rs:List Int):Prop where
 ob:∃ dx a b,H p=some (.ins C dx (cfl s a b ((cs.length:Int)+1) ((rs.length:Int)+1)))/\H a=some (.tup (cs.map V.int))/\H b=some (.tup (rs.map V.int))
theorem aI.mono {C:Ω} {H H':Hp} {p:Ω} {s:Int} {cs rs:List Int} (e:ah H H') (c:aI C H p s cs rs):aI C H' p s cs rs:=by
 obtain ⟨dx,a,b,h1,h2,h3⟩:=c.ob;exact ⟨dx,a,b,e _ _ h1,e _ _ h2,e _ _ h3⟩
def cQ (l:List Int):Prop:=l.length<=39/\∀ z∈l,z=0\/z=1
theorem cQ.all {l:List Int} (h:cQ l):l.all dg=true:=by
 rw [Hz];intro z hz;rcases h.2 z hz with rfl | rfl<;>rfl
def jP (H:Hp) (p:Ω) (H':Hp):Prop:=∀ b o,H b=some o->b≠p->H' b=some o
noncomputable def eN (s:Int) (cs rs:List Int):Bool:=dg s&&(cs.all dg&&rs.all dg)
theorem cQ.ok {s:Int} {cs rs:List Int} (hs:s=0\/s=1) (bc:cQ cs) (br:cQ rs):eN s cs rs=true:=by
 unfold eN;rw [bc.all,br.all];rcases hs with rfl | rfl<;>rfl
def lS (C BB:Ω):Sp:=fun vs H Q E=>∃ (p dx c r:Ω) (w h:Int) (cs rs:List Int),vs=[.ref p,.int w,.int h,.ref c,.ref r]/\H p=some (.ins C dx [])/\H c=some (.lst (cs.map V.int))/\H r=some (.lst (rs.map V.int)) /\
 cs.length<=1000/\rs.length<=1000/\(((cs.all dg&&rs.all dg)=false/\∀ H',ah H H'->E (.ref BB) none H') \/
  ((cs.all dg&&rs.all dg)=true/\∀ H',jP H p H'->sS C H' p w h cs rs->Q .non H'))
theorem okx_ar (T:Txt K mg t):aP P w K mg base (CX1 P w) 5 t.f_ar t.d_ar ["self","wide","tall","cols","rows"] (lS t.a_aa t.a_aP):=by
 refine T.F_ar.ok1 sc_ar (by walk_at "l") (fun _ _ _ s H vs Q E hr h=>?_)
 ·obtain ⟨p,dx,c,r,wd,ht,cs,rs,rfl,hp,hc,hr',lc,lr,k⟩:=h;refine aM (aY (cO (PW.pt (fV (bF (ao (ok_az T).up (rmo hr) rfl T.mg_az T.F_az.kp T.b_az .nil bY (aa (pv 3) ae))) (eD (bF (ao (ok_az T).up (rmo hr) rfl T.mg_az T.F_az.kp T.b_az .nil bY (aa (pv 4) ae))))))) (ai (cH T.mg_aP T.x_aP Fw rfl rfl (fun _ _ _ _ _ _ _ _ I m q=>gv I m q) (aa cx ae))) aD) fun _ _=>aM (kC (pv 0) (pv 1) rfl) fun _ _=>aM (kC (pv 0) (pv 2) rfl) fun _ _=>aM (kC (pv 0) (dC (mh K rfl) rfl T.no_aA (by rfl) (aa (pv 3) ae)) rfl) fun _ _=>dy (kC (pv 0) (dC (mh K rfl) rfl T.no_aA (by rfl) (aa (pv 4) ae)) rfl) fun _ _=>?_;apply ⟨c,cs,rfl,hc,lc,fun H1 s1=>?_⟩
  cases b2:cs.all dg with
  | false =>
   apply ⟨by show 1<=EF; decide,?_⟩;rcases k with ⟨_,e⟩ | ⟨y,_⟩
   ·exact e _ s1
   ·rw [b2] at y; cases y
  | true =>
   apply ⟨r,rs,rfl,s1 _ _ hr',lr,fun H2 s2=>?_⟩;have s12:=s1.trans s2
   cases b3:rs.all dg with
   | false =>
    apply ⟨by show 1<=EF; decide,?_⟩;rcases k with ⟨_,e⟩ | ⟨y,_⟩
    ·exact e _ s12
    ·rw [b2,b3] at y; cases y
   | true =>
    left
    have k:∀ H',jP H p H'->sS t.a_aa H' p wd ht cs rs->Q .non H':=by
     rcases k with ⟨y,_⟩ | ⟨_,z⟩
     ·rw [b2,b3] at y; cases y
     ·exact z
    have npc:c≠p:=cg hc hp (by intro z; cases z);have npr:r≠p:=cg hr' hp (by intro z; cases z);refine fW (s12 _ _ hp) T.cl_aa T.na_columns_count (by show 0<1000; decide) ?_;apply fW af T.cl_aa T.na_rows_count (E_ (bf _ _ _) (by show 1<1000; decide)) ?_;rw [Bh];apply mE (by rw [aj npc]; exact s12 _ _ hc) fun a ha=>?_;have pa:p≠a:=by intro z; subst z; rw [af] at ha; cases ha
    apply fW (by rw [aj pa,af]) T.cl_aa T.na_col_bits (E_ (bf _ _ _) (E_ (GW (bf _ _ _)) (by show 2<1000; decide))) ?_;left;have ra:r≠a:=by intro z; subst z; rw [aj npr,s12 _ _ hr'] at ha; cases ha
    refine mE (by rw [aj npr,aj ra,aj npr]; exact s12 _ _ hr') fun b hb=>?_;have pb:p≠b:=by intro z; subst z; rw [af] at hb; cases hb
    have ab:a≠b:=by intro z; subst z; rw [aj pa.symm,af] at hb; cases hb
    apply fW (by rw [aj pb,af]) T.cl_aa T.na_row_bits (E_ (bf _ _ _) (E_ (GW (bf _ _ _)) (E_ (GW (GW (bf _ _ _))) (by show 3<1000; decide)))) ?_;apply k _ (fun x o e hx=>?_) ⟨⟨dx,a,b,af,?_,?_⟩⟩
    ·have e2:=s12 _ _ e;have xa:x≠a:=by intro z; subst z; rw [aj hx,e2] at ha; cases ha
     have xb:x≠b:=by intro z; subst z; rw [aj hx,aj xa,aj hx,e2] at hb; cases hb
     rw [aj hx,aj xb,aj hx,aj xa,aj hx];exact e2
    ·rw [aj pa.symm,aj ab,aj pa.symm,af]
    ·rw [aj pb.symm,af]
def lT (C BS BB:Ω):Sp:=fun vs H Q E=>∃ (p dx c r:Ω) (s:Int) (cs rs:List Int),vs=[.ref p,.int s,.ref c,.ref r]/\H p=some (.ins C dx [])/\H c=some (.lst (cs.map V.int))/\H r=some (.lst (rs.map V.int)) /\
 cs.length<=1000/\rs.length<=1000/\((¬ (cs.length<=39/\rs.length<=39)/\E (.ref BS) none H)\/((cs.length<=39/\rs.length<=39)/\eN s cs rs=false/\∀ H',jP H p H'->E (.ref BB) none H') \/
  ((cs.length<=39/\rs.length<=39)/\eN s cs rs=true/\∀ H',jP H p H'->aI C H' p s cs rs->Q .non H'))
theorem okx_ag (T:Txt K mg t):aP P w K mg base (CX1 P w) 6 t.f_ag t.d_ag ["self","shade","cols","rows"] (lT t.a_aa t.a_aM t.a_aP):=by
 refine T.F_ag.ok1 sc_ag (by walk_at "l") (fun _ _ _ s H vs Q E hr h=>?_)
 ·obtain ⟨p,dx,c,r,s,cs,rs,rfl,hp,hc,hr',lc,lr,k⟩:=h;refine aM (aY (cO (PW.pt (fV (bF (ao (ok_aH T).up (rmo hr) rfl T.mg_aH T.F_aH.kp T.b_aH .nil bY (aa (aA a7 (aq (bp K rfl) rfl T.no_len (by rfl) (aa (pv 2) ae)) ag) ae))) (eD (bF (ao (ok_aH T).up (rmo hr) rfl T.mg_aH T.F_aH.kp T.b_aH .nil bY (aa (aA a7 (aq (bp K rfl) rfl T.no_len (by rfl) (aa (pv 3) ae)) ag) ae))))))) (ai (cH T.mg_aM T.x_aM Fw rfl rfl (fun _ _ _ _ _ _ _ _ I m q=>gv I m q) (aa cx ae))) aD) fun _ _=>aM (aY (cO (bF (ao (ok_aT T).up (rmo hr) rfl T.mg_aT T.F_aT.kp T.b_aT .nil bY (aa (pv 1) ae)))) (ai (cH T.mg_aP T.x_aP Fw rfl rfl (fun _ _ _ _ _ _ _ _ I m q=>gv I m q) (aa cx ae))) aD) fun _ _=>aM (bC (xS rfl T.mg_a6 T.cf_ar (okx_ar T) (rmo hr) T.b_ar .nil bY (aa (pv 0) (aa (aA a7 (aq (bp K rfl) rfl T.no_len (by rfl) (aa (pv 2) ae)) ag) (aa (aA a7 (aq (bp K rfl) rfl T.no_len (by rfl) (aa (pv 3) ae)) ag) (aa (pv 2) (aa (pv 3) ae))))))) fun _ _=>dy (kC (pv 0) (pv 1) rfl) fun _ _=>?_;apply bq hc ?_;apply ⟨_,rfl,?_⟩;rw [Aj,qG];have sz:(¬ (cs.length<=39/\rs.length<=39)->E (.ref t.a_aM) none H):=fun n=>by
   rcases k with ⟨_,e⟩ | ⟨z,_⟩ | ⟨z,_⟩
   ·exact e
   ·exact absurd z n
   ·exact absurd z n
  by_cases c1:cs.length<=39
  ·rw [ba c1];apply bq hr' ?_;apply ⟨_,rfl,?_⟩;rw [Aj,qG];by_cases c2:rs.length<=39
   ·rw [ba c2];left
    have k:(eN s cs rs=false/\∀ H',jP H p H'->E (.ref t.a_aP) none H')\/(eN s cs rs=true/\∀ H',jP H p H'->aI t.a_aa H' p s cs rs->Q .non H'):=by
     rcases k with ⟨z,_⟩ | ⟨_,z⟩ | ⟨_,z⟩
     ·exact absurd ⟨c1,c2⟩ z
     ·exact .inl z
     ·exact .inr z
    have bad:∀ H',eN s cs rs=false->ah H H'->E (.ref t.a_aP) none H':=fun H' z sm=>by
     rcases k with ⟨_,e⟩ | ⟨y,_⟩
     ·exact e H' fun b o eb _=>sm b o eb
     ·rw [z] at y; cases y
    refine ⟨s,rfl,?_⟩
    cases b1:dg s with
    | false =>
     apply ⟨by show 1<=EF; decide,?_⟩;exact bad _ (by unfold eN; rw [b1]; rfl) (ah.refl _)
    | true =>
     apply bq hc ?_;apply bq hr' ?_;left;rw [Aj,Aj];refine ⟨p,dx,c,r,_,_,cs,rs,rfl,hp,hc,hr',lc,lr,?_⟩
     cases b2:(cs.all dg&&rs.all dg) with
     | false=>exact .inl ⟨rfl,fun H' s1=>bad _ (by unfold eN; rw [b2,KA]) s1⟩
     | true =>
      refine .inr ⟨rfl,fun H' kp ⟨dx',a,b,h1,h2,h3⟩=>?_⟩
      have k:∀ H',jP H p H'->aI t.a_aa H' p s cs rs->Q .non H':=by
       rcases k with ⟨y,_⟩ | ⟨_,z⟩
       ·unfold eN at y; rw [b1,b2] at y; cases y
       ·exact z
      apply fW h1 T.cl_aa T.na_first_colour (by unfold bfl; exact E_ (bf _ _ _) (E_ (GW (bf _ _ _)) (E_ (GW (GW (bf _ _ _))) (E_ (GW (GW (GW (bf _ _ _)))) (by show 4<1000; decide))))) ?_;left;have pa:a≠p:=cg h2 h1 (by intro z; cases z);have pb:b≠p:=cg h3 h1 (by intro z; cases z);refine k _ (fun x o e hx=>?_) ⟨⟨dx',a,b,af,?_,?_⟩⟩
      ·rw [aj hx]; exact kp x o e hx
      ·rw [aj pa]; exact h2
      ·rw [aj pb]; exact h3
   ·rw [bO c2];left;exact ⟨by show 1<=EF; decide,sz fun z=>c2 z.2⟩
  ·rw [bO c1];left;exact ⟨by show 1<=EF; decide,sz fun z=>c1 z.1⟩
def sp_ag (C:Ω):Sp:=fun vs H Q _=>∃ (p dx c r:Ω) (s:Int) (cs rs:List Int),vs=[.ref p,.int s,.ref c,.ref r]/\H p=some (.ins C dx [])/\H c=some (.lst (cs.map V.int))/\H r=some (.lst (rs.map V.int)) /\
 (s=0\/s=1)/\cQ cs/\cQ rs/\∀ H',(∀ b o,H b=some o->b≠p->H' b=some o)->aI C H' p s cs rs->Q .non H'
theorem ok_ag (T:Txt K mg t):aP P w K mg base CX0 6 t.f_ag t.d_ag ["self","shade","cols","rows"] (sp_ag t.a_aa) :=
 (okx_ag T).down fun vs H Q E hh=>by
  obtain ⟨p,dx,c,r,s,cs,rs,e,hp,hc,hr,hs,bc,br,k⟩:=hh;exact ⟨p,dx,c,r,s,cs,rs,e,hp,hc,hr,by have:=bc.1; omega,by have:=br.1; omega,.inr (.inr ⟨⟨bc.1,br.1⟩,cQ.ok hs bc br,k⟩)⟩
def sp_ad (C:Ω):Sp:=fun vs H Q _=>∃ (p:Ω) (s:Int) (cs rs:List Int),vs=[.ref p]/\aI C H p s cs rs/\Q (.int ((cs.length:Int)+1)) H
theorem ok_ad (T:Txt K mg t):aP P w K mg base CX0 1 t.f_ad t.d_ad ["self"] (sp_ad t.a_aa):=by
 refine T.F_ad.ok sc_ad (by walk_at "l") (fun _ _ _ s H vs Q E hr h=>?_)
 ·obtain ⟨p,s,cs,rs,rfl,⟨dx,a,b,h1,h2,h3⟩,k⟩:=h;refine ⟨_,(ai (aC (da K rfl (pv 0) rfl))),?_⟩;apply de h1 T.cl_aa T.na_columns_count (Dp _ _ _) ?_;left;exact k
def sp_af (C:Ω):Sp:=fun vs H Q _=>∃ (p:Ω) (s:Int) (cs rs:List Int),vs=[.ref p]/\aI C H p s cs rs/\Q (.int ((rs.length:Int)+1)) H
theorem ok_af (T:Txt K mg t):aP P w K mg base CX0 1 t.f_af t.d_af ["self"] (sp_af t.a_aa):=by
 refine T.F_af.ok sc_af (by walk_at "l") (fun _ _ _ s H vs Q E hr h=>?_)
 ·obtain ⟨p,s,cs,rs,rfl,⟨dx,a,b,h1,h2,h3⟩,k⟩:=h;refine ⟨_,(ai (aC (da K rfl (pv 0) rfl))),?_⟩;apply de h1 T.cl_aa T.na_rows_count (Dn _ _ _) ?_;left;exact k
def gP (w:Str) (cs rs bs:List Int):Prop:=(w="col"/\bs=cs)\/(w="row"/\bs=rs)
theorem yk:¬ (("row":Str)="col"):=by decide +kernel
def ig (C NL:Ω):Sp:=fun vs H Q E=>∃ (p:Ω) (w:Str) (s:Int) (cs rs:List Int),vs=[.ref p,.str w]/\aI C H p s cs rs /\
 ((∃ bs,gP w cs rs bs/\∀ a,H a=some (.tup (bs.map V.int))->Q (.ref a) H)\/(¬ w="col"/\¬ w="row"/\E (.ref NL) none H))
theorem okx_ac (T:Txt K mg t):aP P w K mg base (CX1 P w) 1 t.f_ac t.d_ac ["self","way"] (ig t.a_aa t.a_aS):=by
 refine T.F_ac.ok1 sc_ac (by walk_at "l") (fun _ _ _ s H vs Q E hr h=>?_)
 ·obtain ⟨p,w,s,cs,rs,rfl,⟨dx,a,b,h1,h2,h3⟩,hw⟩:=h;refine aM (aY (bB dh (pv 1) cx) (ai (aC (da K rfl (pv 0) rfl))) aD) fun _ _=>aM (aY (bB dh (pv 1) cx) (ai (aC (da K rfl (pv 0) rfl))) aD) fun _ _=>dy (cH T.mg_aS T.x_aS Fw rfl rfl (fun _ _ _ _ _ _ _ _ I m q=>gv I m q) (aa cx ae)) fun _ _=>?_;left;rcases hw with ⟨bs,⟨rfl,rfl⟩ | ⟨rfl,rfl⟩,k⟩ | ⟨n1,n2,k⟩
  ·rw [ba (rfl:("col":Str)="col")];apply de h1 T.cl_aa T.na_col_bits (wM _ _ _) ?_;left;exact k a h2
  ·rw [bO yk];left;rw [ba (rfl:("row":Str)="row")];apply de h1 T.cl_aa T.na_row_bits (wN _ _ _) ?_;left;exact k b h3
  ·rw [bO n1];left;rw [bO n2];left;exact ⟨by show 1<=EF; decide,k⟩
def Dg (w:Str) (k:Int) (cs rs:List Int):Prop:=(¬ w="col"/\¬ w="row")\/∃ bs,gP w cs rs bs/\¬ (0<=k/\k<bs.length)
def oV (C NL:Ω):Sp:=fun vs H Q E=>∃ (p:Ω) (w:Str) (k s:Int) (cs rs:List Int),vs=[.ref p,.str w,.int k]/\aI C H p s cs rs /\
 ((∃ bs,gP w cs rs bs/\0<=k/\k<bs.length/\Q (.int (bs.getD k.toNat 0)) H)\/(Dg w k cs rs/\E (.ref NL) none H))
theorem okx_as (T:Txt K mg t):aP P w K mg base (CX1 P w) 3 t.f_as t.d_as ["self","way","k"] (oV t.a_aa t.a_aS):=by
 refine T.F_as.ok1 sc_as (by walk_at "l") (fun _ _ _ s H vs Q E hr h=>?_)
 ·obtain ⟨p,w,k,s,cs,rs,rfl,hc,h⟩:=h;obtain ⟨dx,a,b,e1,e2,e3⟩:=hc.ob;refine aM (aO 3 sc_as.nd (iN (pv 0) T.cl_aa T.m_ac (okx_ac T) (rmo hr) T.b_ac .nil bY (aa (pv 1) ae))) fun _ _=>aM (aY (cO (bF (ao (ok_ah T).up (rmo hr) rfl T.mg_ah T.F_ah.kp T.b_ah .nil bY (aa (pv 2) (aa (aq (bp K rfl) rfl T.no_len (by rfl) (aa (pv 3) ae)) ae))))) (ai (cH T.mg_aS T.x_aS Fw rfl rfl (fun _ _ _ _ _ _ _ _ I m q=>gv I m q) (aa cx ae))) aD) fun _ _=>dy (aC (ay (aN K rfl) (pv 3) (pv 2))) fun _ _=>?_;apply aJ e1 (dH _ _ _ (by decide +kernel)) ?_;left;rcases h with ⟨bs,hw,h0,h1,q⟩ | ⟨⟨n1,n2⟩ | ⟨bs,hw,hn⟩,q⟩
  ·refine ⟨p,w,s,cs,rs,rfl,hc,.inl ⟨bs,hw,fun z hz=>?_⟩⟩;apply jI hz ?_;apply ⟨k,_,rfl,?_⟩;rw [Aj,ba h0,ba h1];apply aR (SqT.of hz) (bE h0 h1) ?_;exact q
  ·exact ⟨p,w,s,cs,rs,rfl,hc,.inr ⟨n1,n2,q⟩⟩
  ·refine ⟨p,w,s,cs,rs,rfl,hc,.inl ⟨bs,hw,fun z hz=>?_⟩⟩;apply jI hz ?_;apply ⟨k,_,rfl,?_⟩;rw [Aj]
   have e:(decide (0<=k)&&decide (k<(bs.length:Int)))=false:=by
    rw [Bool.eq_false_iff];intro z;rw [FL,decide_eq_true_eq,decide_eq_true_eq] at z;exact hn z
   rw [e];left;exact ⟨by show 1<=EF; decide,q⟩
theorem wH {l:List Int} (h:∀ z∈l,z=0\/z=1):0<=l.sum/\l.sum<=l.length:=by
 induction l with
 | nil=>exact ⟨Int.le_refl 0,Int.le_refl 0⟩
 | cons z r ih =>
  have:=ih fun y hy=>h y (Θ _ hy)
  rw [List.sum_cons,Ba];rcases h z θ with rfl | rfl<;>omega
theorem jS {l:List Int} (h:∀ z∈l,z=0\/z=1) (hl:l.length<=1000):iw l:=fun k hk=>by
 refine ⟨?_,fun n hn=>?_⟩
 ·have:=wH (l:=l.take k) fun z hz=>h z (E6 hz)
  rw [E7] at this;unfold InLong;omega
 ·unfold InLong;rcases h n hn with rfl | rfl<;>decide
theorem mj {zs:List Int} {x:Int} (h:0<=x):dY (zs.map V.int) none (some x)=(zs.take x.toNat).map V.int:=by
 obtain ⟨k,rfl⟩:∃ k:Nat,x=(k:Int):=⟨x.toNat,by omega⟩
 unfold dY;rw [HT.fZ,HT.jJ,HP,MI,Gb,<- List.map_take]
 congr 1
 rw [Aj];rcases Ku k zs.length with h | h
 ·rw [Hl h]
 ·rw [Jf h,EN (A_ _),EN h]
def zP (x y:Int) (cs rs:List Int):Prop:=(0<=x/\x<(cs.length:Int)+1)/\0<=y/\y<(rs.length:Int)+1
def oW (C NC:Ω):Sp:=fun vs H Q E=>∃ (p:Ω) (x y s:Int) (cs rs:List Int),vs=[.ref p,.int x,.int y]/\aI C H p s cs rs/\((zP x y cs rs/\Q .non H)\/(¬ zP x y cs rs/\E (.ref NC) none H))
theorem jz {x b:Int} (h:0<=x/\x<b):(decide (0<=x)&&decide (x<b))=true:=by rw [ba h.1,ba h.2]; rfl
theorem gw {x b:Int} (h:¬ (0<=x/\x<b)):(decide (0<=x)&&decide (x<b))=false:=by
 rw [Bool.eq_false_iff];intro z;rw [FL,decide_eq_true_eq,decide_eq_true_eq] at z;exact h z
theorem okx_ay (T:Txt K mg t):aP P w K mg base (CX1 P w) 3 t.f_ay t.d_ay ["board","x","y"] (oW t.a_aa t.a_aW):=by
 refine T.F_ay.ok1 sc_ay (by walk_at "l") (fun _ _ _ s H vs Q E hr h=>?_)
 ·obtain ⟨p,x,y,s,cs,rs,rfl,hc,h⟩:=h;obtain ⟨dx,a,b,e1,e2,e3⟩:=hc.ob;have nl:∀ {w h:Int} {m:Str},NoF m->(cfl s a b w h).lookup m=none:=fun x=>dH _ _ _ x;refine ⟨_,(ai (aY (PW.pt (ua (cO (bF (ao (ok_ah T).up (rmo hr) rfl T.mg_ah T.F_ah.kp T.b_ah .nil bY (aa (pv 1) (aa (aT (pv 0) T.cl_aa T.m_ad (ok_ad T).up (rmo hr) T.b_ad .nil bY) ae))))) (nR (cO (bF (ao (ok_ah T).up (rmo hr) rfl T.mg_ah T.F_ah.kp T.b_ah .nil bY (aa (pv 2) (aa (aT (pv 0) T.cl_aa T.m_af (ok_af T).up (rmo hr) T.b_af .nil bY) ae)))))))) (ai (cH T.mg_aW T.x_aW Fw rfl rfl (fun _ _ _ _ _ _ _ _ I m q=>gv I m q) (aa cx ae))) aD)),?_⟩;apply aJ e1 (nl (by decide +kernel)) ?_;apply ⟨p,s,cs,rs,rfl,hc,?_⟩;apply ⟨x,_,rfl,?_⟩;by_cases hx:0<=x/\x<(cs.length:Int)+1
  ·rw [jz hx];apply aJ e1 (nl (by decide +kernel)) ?_;apply ⟨p,s,cs,rs,rfl,hc,?_⟩;apply ⟨y,_,rfl,?_⟩;by_cases hy:0<=y/\y<(rs.length:Int)+1
   ·rw [jz hy];left;rcases h with ⟨_,q⟩ | ⟨n,_⟩
    ·exact q
    ·exact absurd ⟨hx,hy⟩ n
   ·rw [gw hy];left;rcases h with ⟨n,_⟩ | ⟨_,q⟩
    ·exact absurd n.2 hy
    ·exact ⟨by show 1<=EF; decide,q⟩
  ·rw [gw hx];left;rcases h with ⟨n,_⟩ | ⟨_,q⟩
   ·exact absurd n.1 hx
   ·exact ⟨by show 1<=EF; decide,q⟩
noncomputable def uK (s:Int) (cs rs:List Int) (x y:Int):Int:=(s+((cs.take x.toNat).sum+(rs.take y.toNat).sum+x*y))%2
def jw (C NC:Ω):Sp:=fun vs H Q E=>∃ (p:Ω) (x y s:Int) (cs rs:List Int),vs=[.ref p,.int x,.int y]/\aI C H p s cs rs/\cQ cs/\cQ rs /\
 ((zP x y cs rs/\∀ H',ah H H'->Q (.int (uK s cs rs x y)) H')\/(¬ zP x y cs rs/\E (.ref NC) none H))
theorem okx_ae (T:Txt K mg t):aP P w K mg base (CX1 P w) 4 t.f_ae t.d_ae ["self","x","y"] (jw t.a_aa t.a_aW):=by
 refine T.F_ae.ok1 sc_ae (by walk_at "l") (fun _ _ _ s H vs Q E hr h=>?_)
 ·obtain ⟨p,x,y,s,cs,rs,rfl,hc,bc,br,h⟩:=h;obtain ⟨dx,a,b,e1,e2,e3⟩:=hc.ob;refine aM (bC (ao (okx_ay T) (rmo hr) rfl T.mg_ay T.F_ay.kp T.b_ay .nil bY (aa (pv 0) (aa (pv 1) (aa (pv 2) ae))))) fun _ _=>aM (aO 3 sc_ae.nd (aA a7 (aA a7 (aq (sZ K rfl rfl) rfl T.no_sum (by rfl) (aa (dM (uk K rfl) (da K rfl (pv 0) rfl) fF (cE (pv 1))) ae)) (aq (sZ K rfl rfl) rfl T.no_sum (by rfl) (aa (dM (uk K rfl) (da K rfl (pv 0) rfl) fF (cE (pv 2))) ae))) (aA fE (pv 1) (pv 2)))) fun _ _=>dy (aC (aA bU (aA a7 (da K rfl (pv 0) rfl) (pv 3)) ag)) fun _ _=>?_;left;rcases h with ⟨i,k⟩ | ⟨n,q⟩
  ·obtain ⟨⟨x0,x1⟩,y0,y1⟩:=id i;refine ⟨p,x,y,s,cs,rs,rfl,hc,.inl ⟨i,?_⟩⟩;apply de e1 T.cl_aa T.na_col_bits (wM _ _ _) ?_;apply yB e2 fun H1 u s1 hu=>?_;rw [mj x0] at hu;apply ui hu (jS (fun z hz=>bc.2 z (E6 hz)) (by rw [E7]; have:=bc.1; omega)) ?_;apply de (s1 _ _ e1) T.cl_aa T.na_row_bits (wN _ _ _) ?_;apply yB (s1 _ _ e3) fun H2 v s2 hv=>?_;rw [mj y0] at hv;apply ui hv (jS (fun z hz=>br.2 z (E6 hz)) (by rw [E7]; have:=br.1; omega)) ?_;apply bZ (.inl ⟨by omega,by have:=bc.1; omega⟩) ?_;apply de (s2 _ _ (s1 _ _ e1)) T.cl_aa T.na_first_colour (Bp _ _ _) ?_;apply bZ (by decide) ?_;exact k H2 (s1.trans s2)
  ·exact ⟨p,x,y,s,cs,rs,rfl,hc,.inr ⟨n,q⟩⟩
def sp_ae (C:Ω):Sp:=fun vs H Q _=>∃ (p:Ω) (x y s:Int) (cs rs:List Int),vs=[.ref p,.int x,.int y]/\aI C H p s cs rs/\cQ cs/\cQ rs/\0<=x/\x<cs.length+1/\0<=y/\y<rs.length+1 /\
 ∀ H',ah H H'->Q (.int (uK s cs rs x y)) H'
theorem ok_ae (T:Txt K mg t):aP P w K mg base CX0 4 t.f_ae t.d_ae ["self","x","y"] (sp_ae t.a_aa) :=
 (okx_ae T).down fun vs H Q E hh=>by
  obtain ⟨p,x,y,s,cs,rs,e,hc,bc,br,x0,x1,y0,y1,k⟩:=hh;exact ⟨p,x,y,s,cs,rs,e,hc,bc,br,.inl ⟨⟨⟨x0,x1⟩,y0,y1⟩,k⟩⟩
def D5 (w:Str) (k st:Int) (cs rs:List Int):Prop:=∃ bs os,gP w cs rs bs/\gP w rs cs os/\0<=k/\k<bs.length/\¬ (0<=st/\st<(os.length:Int)+1)
def iY (C NL NS:Ω):Sp:=fun vs H Q E=>∃ (p:Ω) (w:Str) (k st s:Int) (cs rs:List Int),vs=[.ref p,.str w,.int k,.int st]/\aI C H p s cs rs /\
 ((∃ bs os,gP w cs rs bs/\gP w rs cs os/\0<=k/\k<bs.length/\0<=st/\st<os.length+1/\Q (.bl (decide ((st+bs.getD k.toNat 0)%2=1))) H)\/(Dg w k cs rs/\E (.ref NL) none H)\/(D5 w k st cs rs/\E (.ref NS) none H))
theorem okx_ab (T:Txt K mg t):aP P w K mg base (CX1 P w) 4 t.f_ab t.d_ab ["self","way","k","step"] (iY t.a_aa t.a_aS t.a_aY):=by
 refine T.F_ab.ok1 sc_ab (by walk_at "l") (fun _ _ _ s H vs Q E hr h=>?_)
 ·obtain ⟨p,w,k,st,s,cs,rs,rfl,hc,h⟩:=h;obtain ⟨dx,a,b,e1,e2,e3⟩:=hc.ob;have nl:∀ {w h:Int} {m:Str},NoF m->(cfl s a b w h).lookup m=none:=fun x=>dH _ _ _ x;refine aM (aO 4 sc_ab.nd (iN (pv 0) T.cl_aa T.m_as (okx_as T) (rmo hr) T.b_as .nil bY (aa (pv 1) (aa (pv 2) ae)))) fun _ _=>aM (aO 5 sc_ab.nd (qk (bB dh (pv 1) cx) (aT (pv 0) T.cl_aa T.m_af (ok_af T).up (rmo hr) T.b_af .nil bY) (aT (pv 0) T.cl_aa T.m_ad (ok_ad T).up (rmo hr) T.b_ad .nil bY))) fun _ _=>aM (aY (cO (bF (ao (ok_ah T).up (rmo hr) rfl T.mg_ah T.F_ah.kp T.b_ah .nil bY (aa (pv 3) (aa (pv 5) ae))))) (ai (cH T.mg_aY T.x_aY Fw rfl rfl (fun _ _ _ _ _ _ _ _ I m q=>gv I m q) (aa cx ae))) aD) fun _ _=>dy (aC (kj dh (aA bU (aA a7 (pv 3) (pv 4)) ag) ag)) fun _ _=>?_;apply aJ e1 (nl (by decide +kernel)) ?_;left;rcases h with ⟨bs,os,hw,ho,h0,h1,g0,g1,q⟩ | ⟨n,q⟩ | ⟨⟨bs,os,hw,ho,h0,h1,hn⟩,q⟩
  ·refine ⟨p,w,k,s,cs,rs,rfl,hc,.inl ⟨bs,hw,h0,h1,?_⟩⟩;left;rcases ho with ⟨rfl,rfl⟩ | ⟨rfl,rfl⟩
   ·rw [ba (rfl:("col":Str)="col")];apply aJ e1 (nl (by decide +kernel)) ?_;apply ⟨p,s,cs,_,rfl,hc,?_⟩;apply ⟨st,_,rfl,?_⟩;rw [ba g0,ba g1];apply bZ (by decide) ?_;left;exact q
   ·rw [bO yk];apply aJ e1 (nl (by decide +kernel)) ?_;apply ⟨p,s,_,rs,rfl,hc,?_⟩;apply ⟨st,_,rfl,?_⟩;rw [ba g0,ba g1];apply bZ (by decide) ?_;left;exact q
  ·exact ⟨p,w,k,s,cs,rs,rfl,hc,.inr ⟨n,q⟩⟩
  ·refine ⟨p,w,k,s,cs,rs,rfl,hc,.inl ⟨bs,hw,h0,h1,?_⟩⟩;left;rcases ho with ⟨rfl,rfl⟩ | ⟨rfl,rfl⟩
   ·rw [ba (rfl:("col":Str)="col")];apply aJ e1 (nl (by decide +kernel)) ?_;apply ⟨p,s,cs,_,rfl,hc,?_⟩;apply ⟨st,_,rfl,?_⟩;rw [gw hn];left;exact ⟨by show 1<=EF; decide,q⟩
   ·rw [bO yk];apply aJ e1 (nl (by decide +kernel)) ?_;apply ⟨p,s,_,rs,rfl,hc,?_⟩;apply ⟨st,_,rfl,?_⟩;rw [gw hn];left;exact ⟨by show 1<=EF; decide,q⟩
def sp_ab (C:Ω):Sp:=fun vs H Q _=>∃ (p:Ω) (w:Str) (k st s:Int) (cs rs bs os:List Int),vs=[.ref p,.str w,.int k,.int st]/\aI C H p s cs rs/\gP w cs rs bs/\gP w rs cs os/\0<=k/\k<bs.length/\0<=st/\st<os.length+1 /\
 Q (.bl (decide ((st+bs.getD k.toNat 0)%2=1))) H
theorem ok_ab (T:Txt K mg t):aP P w K mg base CX0 4 t.f_ab t.d_ab ["self","way","k","step"] (sp_ab t.a_aa) :=
 (okx_ab T).down fun vs H Q E hh=>by
  obtain ⟨p,w,k,st,s,cs,rs,bs,os,e,hc,hw,ho,h0,h1,g0,g1,q⟩:=hh;exact ⟨p,w,k,st,s,cs,rs,e,hc,.inl ⟨bs,os,hw,ho,h0,h1,g0,g1,q⟩⟩
def sp_ai (C:Ω):Sp:=fun vs H Q _=>∃ (p:Ω) (s:Int) (cs rs:List Int),vs=[.ref p]/\aI C H p s cs rs/\Q (.int s) H
theorem ok_ai (T:Txt K mg t):aP P w K mg base CX0 1 t.f_ai t.d_ai ["self"] (sp_ai t.a_aa):=by
 refine T.F_ai.ok sc_ai (by walk_at "l") (fun _ _ _ s H vs Q E hr h=>?_)
 ·obtain ⟨p,s,cs,rs,rfl,⟨dx,a,b,h1,h2,h3⟩,k⟩:=h;refine ⟨_,(ai (aC (da K rfl (pv 0) rfl))),?_⟩;apply de h1 T.cl_aa T.na_first_colour (Bp _ _ _) ?_;exact k
def sp_aj (C:Ω):Sp:=fun vs H Q _=>∃ (p:Ω) (s:Int) (cs rs:List Int),vs=[.ref p]/\aI C H p s cs rs/\∀ l,H l=none->Q (.ref l) (upd H l (.lst (cs.map V.int)))
theorem ok_aj (T:Txt K mg t):aP P w K mg base CX0 1 t.f_aj t.d_aj ["self"] (sp_aj t.a_aa):=by
 refine T.F_aj.ok sc_aj (by walk_at "l") (fun _ _ _ s H vs Q E hr h=>?_)
 ·obtain ⟨p,s,cs,rs,rfl,⟨dx,a,b,h1,h2,h3⟩,k⟩:=h;refine ⟨_,(ai (aC (dC (iz K rfl) rfl T.no_list (by rfl) (aa (da K rfl (pv 0) rfl) ae)))),?_⟩;apply de h1 T.cl_aa T.na_col_bits (wM _ _ _) ?_;left;exact qz h2 k
def sp_ak (C:Ω):Sp:=fun vs H Q _=>∃ (p:Ω) (s:Int) (cs rs:List Int),vs=[.ref p]/\aI C H p s cs rs/\∀ l,H l=none->Q (.ref l) (upd H l (.lst (rs.map V.int)))
theorem ok_ak (T:Txt K mg t):aP P w K mg base CX0 1 t.f_ak t.d_ak ["self"] (sp_ak t.a_aa):=by
 refine T.F_ak.ok sc_ak (by walk_at "l") (fun _ _ _ s H vs Q E hr h=>?_)
 ·obtain ⟨p,s,cs,rs,rfl,⟨dx,a,b,h1,h2,h3⟩,k⟩:=h;refine ⟨_,(ai (aC (dC (iz K rfl) rfl T.no_list (by rfl) (aa (da K rfl (pv 0) rfl) ae)))),?_⟩;apply de h1 T.cl_aa T.na_row_bits (wN _ _ _) ?_;left;exact qz h3 k
end
section
theorem aQ {n:Nat} (h:n<2000):n<sizeLine:=EU h (by decide)
def Pt (H:Hp) (v:V) (q:Int×Int):Prop:=∃ a,v=.ref a/\H a=some (.tup [.int q.1,.int q.2])
theorem Pt.mono {H H':Hp} {v:V} {q:Int×Int} (s:ah H H') (h:Pt H v q):Pt H' v q:=by
 obtain ⟨a,rfl,ha⟩:=h;exact ⟨a,rfl,s _ _ ha⟩
theorem Pt.upd {H:Hp} {v:V} {q:Int×Int} {l:Ω} {u o:HO} (h:Pt H v q) (e:H l=some u) (ne:∀ ys,HO.tup ys≠u):Pt (upd H l o) v q:=by
 obtain ⟨a,rfl,ha⟩:=h;exact ⟨a,rfl,by rw [aj (cg ha e (ne _))]; exact ha⟩
def au (H:Hp) (xs:List V) (ps:List (Int×Int)):Prop:=xs.length=ps.length/\∀ (i:Nat) v q,xs[i]?=some v->ps[i]?=some q->Pt H v q
theorem au.mono {H H':Hp} {xs:List V} {ps:List (Int×Int)} (s:ah H H') (h:au H xs ps):au H' xs ps:=⟨h.1,fun i v q h1 h2=>(h.2 i v q h1 h2).mono s⟩
theorem au.upd {H:Hp} {xs:List V} {ps:List (Int×Int)} {l:Ω} {u o:HO} (h:au H xs ps) (e:H l=some u) (ne:∀ ys,HO.tup ys≠u):au (upd H l o) xs ps:=⟨h.1,fun i v q h1 h2=>(h.2 i v q h1 h2).upd e ne⟩
theorem au.nil {H:Hp}:au H [] []:=⟨rfl,fun i v q h=>by simp at h⟩
theorem au.cons {H:Hp} {v:V} {q:Int×Int} {xs:List V} {ps:List (Int×Int)} (h1:Pt H v q) (h:au H xs ps):au H (v::xs) (q::ps):=by
 refine ⟨by rw [Ba,Ba,h.1],fun i v' q' e1 e2=>?_⟩
 cases i with
 | zero=>simp only [Fj,F7] at e1 e2; rw [<- e1,<- e2]; exact h1
 | succ i=>simp only [Fl] at e1 e2; exact h.2 i v' q' e1 e2
theorem au.inv {H:Hp} {xs:List V} {p:Int×Int} {ps:List (Int×Int)} (h:au H xs (p::ps)):∃ v r,xs=v::r/\Pt H v p/\au H r ps:=by
 match xs,h with
 | [],h=>have:=h.1; simp at this
 | v::r,h=>exact ⟨v,r,rfl,h.2 0 v p rfl rfl,by have:=h.1; simp only [Ba] at this; omega,fun i v' q' e1 e2=>h.2 (i+1) v' q' (by simpa using e1) (by simpa using e2)⟩
theorem au.snoc {H:Hp} {xs:List V} {ps:List (Int×Int)} {v:V} {q:Int×Int} (h:au H xs ps) (hv:Pt H v q):au H (xs++[v]) (ps++[q]):=by
 refine ⟨by rw [Bd,Bd,h.1]; rfl,fun i v' q' h1 h2=>?_⟩;by_cases hi:i<xs.length
 ·rw [GI hi] at h1;rw [GI (by rw [<- h.1]; exact hi)] at h2;exact h.2 i v' q' h1 h2
 ·rw [FQ (by omega)] at h1;rw [FQ (by rw [<- h.1]; omega),<- h.1] at h2
  cases hk:i - xs.length with
  | zero =>
   rw [hk] at h1 h2;simp only [Fj,F7] at h1 h2;rw [<- h1,<- h2]; exact hv
  | succ k => rw [hk] at h1; simp at h1
noncomputable def ck (H:Hp):V->Int×Int
 | .ref a=>match H a with
  | some (.tup [.int x, .int y]) => (x, y)
  | _ => (0, 0)
 | _=>(0,0)
theorem Pt.of {H:Hp} {v:V} {q:Int×Int} (h:Pt H v q):ck H v=q:=by
 obtain ⟨a,rfl,ha⟩:=h;simp only [ck,ha]
theorem au.map:∀ {H:Hp} {xs:List V} {ps:List (Int×Int)},au H xs ps->xs.map (ck H)=ps
 | H,[],[],_=>rfl
 | H,[],_::_,h=>by have:=h.1; simp at this
 | H,_::_,[],h=>by have:=h.1; simp at this
 | H,v::xs,p::ps,h=>by
  obtain ⟨v',r,e,h1,h2⟩:=h.inv
  cases e;rw [EW,h1.of,h2.map]
theorem au.mem {H:Hp} {xs:List V} {ps:List (Int×Int)} (h:au H xs ps):∀ v∈xs,Pt H v (ck H v):=by
 intro v hv;obtain ⟨i,hi⟩:=Fy.mp hv;have hl:i<ps.length:=by rw [<- h.1]; exact (Bc.mp hi).1
 have:=h.2 i v _ hi (ς hl)
 rw [this.of]; exact this
theorem nU {H:Hp}:∀ {xs:List V},(∀ v∈xs,Pt H v (ck H v))->au H xs (xs.map (ck H))
 | [],_=>au.nil
 | v::xs,h=>au.cons (h v θ) (nU fun v hv=>h v (Θ _ hv))
theorem x8 {p q:Int×Int} (h1:Ts.ple p q) (h2:Ts.ple q p):p=q:=by
 unfold Ts.ple at h1 h2;exact Fg (by omega) (by omega)
theorem nP:∀ {l1 l2:List (Int×Int)},l1.Perm l2->l1.Pairwise Ts.ple->l2.Pairwise Ts.ple->l1=l2
 | [],l2,h,_,_=>(Lm.mp h).symm ▸ rfl
 | x::l1,[],h,_,_=>by have:=h.length_eq; simp at this
 | x::l1,y::l2,h,s1,s2=>by
  have e:x=y:=by
   have hx:x∈y::l2:=h.mem_iff.mp θ;have hy:y∈x::l1:=h.mem_iff.mpr θ;rcases Bb.mp hx with e | hx
   ·exact e
   ·rcases Bb.mp hy with e | hy
    ·exact e.symm
    ·exact x8 ((Fe.mp s1).1 y hy) ((Fe.mp s2).1 x hx)
  subst e;rw [nP (LS _ |>.mp h) (Fe.mp s1).2 (Fe.mp s2).2]
theorem vK {K:W.Frag} {a:Ω} {xs:List V} {ps qs:List (Int×Int)} {H:Hp} {Q:VK} (e:H a=some (.lst xs)) (h:au H xs ps) (hq:qs.Perm ps) (hs:qs.Pairwise Ts.ple)
  (k:∀ (l:Ω) (ys:List V),H l=none->au (L2.upd H l (.lst ys)) ys qs->Q (.ref l) (L2.upd H l (.lst ys))):qt K [.ref a] H Q:=by
 refine qA (ck H) e (fun v hv=>h.mem v hv) fun l ys hn hp hw=>k l ys hn ?_;have m:au H ys (ys.map (ck H)):=nU fun v hv=>h.mem v (hp.mem_iff.mp hv);have e2:ys.map (ck H)=qs:=nP (((hp.map (ck H)).trans (JN h.map)).trans hq.symm) (FY.mpr hw) hs;rw [e2] at m;exact m.mono (ah.new hn)
end
section
variable {P:ER} {w:E2} {K:W.Frag} {mg:Str->Option Δ} {base:FD} {t:Ad}
noncomputable def rt (cs rs:List Int) (x y:Int):Bool:=decide (0<y)&&decide (y<(rs.length:Int)+1)&&decide (0<=x)&&decide (x<(cs.length:Int)+1)&&decide ((x+rs.getD (y - 1).toNat 0)%2=1)
noncomputable def ups (cs rs:List Int) (x y:Int):Bool:=decide (0<x)&&decide (x<(cs.length:Int)+1)&&decide (0<=y)&&decide (y<(rs.length:Int)+1)&&decide ((y+cs.getD (x - 1).toNat 0)%2=1)
def sp_am (C:Ω):Sp:=fun vs H Q _=>∃ (p:Ω) (x y s:Int) (cs rs:List Int),vs=[.ref p,.int x,.int y]/\aI C H p s cs rs/\Q (.bl (rt cs rs x y)) H
theorem ok_am (T:Txt K mg t):aP P w K mg base CX0 5 t.f_am t.d_am ["cloth","x","y"] (sp_am t.a_aa):=by
 refine T.F_am.ok sc_am (by walk_at "l") (fun _ _ _ s H vs Q E hr h=>?_)
 ·obtain ⟨p,x,y,s,cs,rs,rfl,hc,q⟩:=h;obtain ⟨dx,a,b,e1,e2,e3⟩:=hc.ob;have nl:∀ {w h:Int} {m:Str},NoF m->(cfl s a b w h).lookup m=none:=fun x=>dH _ _ _ x;refine ⟨_,(aL (aY (PW.pt (fV (dk dw dw ag (pv 2) (aT (pv 0) T.cl_aa T.m_af (ok_af T) (rmo hr) T.b_af .nil aB)) (eD (dk p9 dw ag (pv 1) (aT (pv 0) T.cl_aa T.m_ad (ok_ad T) (rmo hr) T.b_ad .nil aB))))) (ai (aC (iN (pv 0) T.cl_aa T.m_ab (ok_ab T) (rmo hr) T.b_ab .nil aB (aa cx (aa (aA bV (pv 2) ag) (aa (pv 1) ae)))))) aD) (ai (aC fe))),?_⟩;unfold rt at q;left;by_cases c1:0<y
  ·rw [ba c1] at q ⊢;apply aJ e1 (nl (by decide +kernel)) ?_;apply ⟨p,s,cs,rs,rfl,hc,?_⟩;left;by_cases c2:y<(rs.length:Int)+1
   ·rw [ba c2] at q ⊢;left;by_cases c3:0<=x
    ·rw [ba c3] at q ⊢;apply aJ e1 (nl (by decide +kernel)) ?_;apply ⟨p,s,cs,rs,rfl,hc,?_⟩;left;by_cases c4:x<(cs.length:Int)+1
     ·rw [ba c4] at q ⊢;apply aJ e1 (nl (by decide +kernel)) ?_;left;exact ⟨p,"row",y - 1,x,s,cs,rs,rs,cs,rfl,hc,.inr ⟨rfl,rfl⟩,.inr ⟨rfl,rfl⟩,by omega,by omega,c3,c4,q⟩
     ·rw [bO c4] at q ⊢;left;exact q
    ·rw [bO c3] at q ⊢;left;exact q
   ·rw [bO c2] at q ⊢;left;exact q
  ·rw [bO c1] at q ⊢;left;exact q
def sp_aI (C:Ω):Sp:=fun vs H Q _=>∃ (p:Ω) (x y s:Int) (cs rs:List Int),vs=[.ref p,.int x,.int y]/\aI C H p s cs rs/\Q (.bl (ups cs rs x y)) H
theorem ok_aI (T:Txt K mg t):aP P w K mg base CX0 5 t.f_aI t.d_aI ["cloth","x","y"] (sp_aI t.a_aa):=by
 refine T.F_aI.ok sc_aI (by walk_at "l") (fun _ _ _ s H vs Q E hr h=>?_)
 ·obtain ⟨p,x,y,s,cs,rs,rfl,hc,q⟩:=h;obtain ⟨dx,a,b,e1,e2,e3⟩:=hc.ob;have nl:∀ {w h:Int} {m:Str},NoF m->(cfl s a b w h).lookup m=none:=fun x=>dH _ _ _ x;refine ⟨_,(aL (aY (PW.pt (fV (dk dw dw ag (pv 1) (aT (pv 0) T.cl_aa T.m_ad (ok_ad T) (rmo hr) T.b_ad .nil aB)) (eD (dk p9 dw ag (pv 2) (aT (pv 0) T.cl_aa T.m_af (ok_af T) (rmo hr) T.b_af .nil aB))))) (ai (aC (iN (pv 0) T.cl_aa T.m_ab (ok_ab T) (rmo hr) T.b_ab .nil aB (aa cx (aa (aA bV (pv 1) ag) (aa (pv 2) ae)))))) aD) (ai (aC fe))),?_⟩;unfold ups at q;left;by_cases c1:0<x
  ·rw [ba c1] at q ⊢;apply aJ e1 (nl (by decide +kernel)) ?_;apply ⟨p,s,cs,rs,rfl,hc,?_⟩;left;by_cases c2:x<(cs.length:Int)+1
   ·rw [ba c2] at q ⊢;left;by_cases c3:0<=y
    ·rw [ba c3] at q ⊢;apply aJ e1 (nl (by decide +kernel)) ?_;apply ⟨p,s,cs,rs,rfl,hc,?_⟩;left;by_cases c4:y<(rs.length:Int)+1
     ·rw [ba c4] at q ⊢;apply aJ e1 (nl (by decide +kernel)) ?_;left;exact ⟨p,"col",x - 1,y,s,cs,rs,cs,rs,rfl,hc,.inl ⟨rfl,rfl⟩,.inl ⟨rfl,rfl⟩,by omega,by omega,c3,c4,q⟩
     ·rw [bO c4] at q ⊢;left;exact q
    ·rw [bO c3] at q ⊢;left;exact q
   ·rw [bO c2] at q ⊢;left;exact q
  ·rw [bO c1] at q ⊢;left;exact q
noncomputable def nb (cs rs:List Int) (q:Int×Int):List (Int×Int) :=
 (if rt cs rs (q.1 - 1) q.2=true then [(q.1 - 1,q.2)] else [])++(if ups cs rs q.1 (q.2 - 1)=true then [(q.1,q.2 - 1)] else [])++(if ups cs rs q.1 q.2=true then [(q.1,q.2+1)] else [])++(if rt cs rs q.1 q.2=true then [(q.1+1,q.2)] else [])
def cR (cs rs:List Int) (q:Int×Int):Prop:=(0<=q.1/\q.1<(cs.length:Int)+1+1)/\0<=q.2/\q.2<(rs.length:Int)+1+1
def sH (C NP:Ω):Sp:=fun vs H Q E=>∃ (p a:Ω) (q:Int×Int) (s:Int) (cs rs:List Int),vs=[.ref p,.ref a]/\aI C H p s cs rs/\H a=some (.tup [.int q.1,.int q.2]) /\
 ((cR cs rs q/\∀ l xs H',ah H H'->H l=none->H' l=some (.lst xs)->au H' xs (nb cs rs q)->Q (.ref l) H')\/(¬ cR cs rs q/\E (.ref NP) none H))
theorem okx_ao (T:Txt K mg t):aP P w K mg base (CX1 P w) 6 t.f_ao t.d_ao ["cloth","point"] (sH t.a_aa t.a_aO):=by
 refine T.F_ao.ok1 sc_ao (by walk_at "l") (fun _ _ _ s H vs Q E hr h=>?_)
 ·obtain ⟨p,a,⟨x,y⟩,s,cs,rs,rfl,hc,ha,h⟩:=h;dsimp only at ha;obtain ⟨dx,a1,b1,e1,e2,e3⟩:=hc.ob;have nl:∀ {w h:Int} {m:Str},NoF m->(cfl s a1 b1 w h).lookup m=none:=fun x=>dH _ _ _ x;refine aM (aO 2 sc_ao.nd (ay (aN K rfl) (pv 1) ag)) fun _ _=>aM (aO 3 sc_ao.nd (ay (aN K rfl) (pv 1) ag)) fun _ _=>aM (aY (PW.pt (ua (cO (bF (ao (ok_ah T).up (rmo hr) rfl T.mg_ah T.F_ah.kp T.b_ah .nil bY (aa (pv 2) (aa (aA a7 (aT (pv 0) T.cl_aa T.m_ad (ok_ad T).up (rmo hr) T.b_ad .nil bY) ag) ae))))) (nR (cO (bF (ao (ok_ah T).up (rmo hr) rfl T.mg_ah T.F_ah.kp T.b_ah .nil bY (aa (pv 3) (aa (aA a7 (aT (pv 0) T.cl_aa T.m_af (ok_af T).up (rmo hr) T.b_af .nil bY) ag) ae)))))))) (ai (cH T.mg_aO T.x_aO Fw rfl rfl (fun _ _ _ _ _ _ _ _ I m q=>gv I m q) (aa cx ae))) aD) fun _ _=>aM (aO 4 sc_ao.nd (cw ae)) fun _ _=>aM (cq (aY (bF (ao (ok_am T).up (rmo hr) rfl T.mg_am T.F_am.kp T.b_am .nil bY (aa (pv 0) (aa (aA bV (pv 2) ag) (aa (pv 3) ae))))) (ai (bC (cU Em Eu Et a8 (pv 4) (aa (bw (aa (aA bV (pv 2) ag) (aa (pv 3) ae))) ae)))) aD)) fun _ _=>aM (cq (aY (bF (ao (ok_aI T).up (rmo hr) rfl T.mg_aI T.F_aI.kp T.b_aI .nil bY (aa (pv 0) (aa (pv 2) (aa (aA bV (pv 3) ag) ae))))) (ai (bC (cU Em Eu Et a8 (pv 4) (aa (bw (aa (pv 2) (aa (aA bV (pv 3) ag) ae))) ae)))) aD)) fun _ _=>aM (cq (aY (bF (ao (ok_aI T).up (rmo hr) rfl T.mg_aI T.F_aI.kp T.b_aI .nil bY (aa (pv 0) (aa (pv 2) (aa (pv 3) ae))))) (ai (bC (cU Em Eu Et a8 (pv 4) (aa (bw (aa (pv 2) (aa (aA a7 (pv 3) ag) ae))) ae)))) aD)) fun _ _=>aM (cq (aY (bF (ao (ok_am T).up (rmo hr) rfl T.mg_am T.F_am.kp T.b_am .nil bY (aa (pv 0) (aa (pv 2) (aa (pv 3) ae))))) (ai (bC (cU Em Eu Et a8 (pv 4) (aa (bw (aa (aA a7 (pv 2) ag) (aa (pv 3) ae))) ae)))) aD)) fun _ _=>dy (aC (pv 4)) fun _ _=>?_;apply aR (SqT.of ha) (v:=.int x) rfl ?_;apply aR (SqT.of ha) (v:=.int y) rfl ?_;apply aJ e1 (nl (by decide +kernel)) ?_;apply ⟨p,s,cs,rs,rfl,hc,?_⟩;apply ⟨x,_,rfl,?_⟩;by_cases hx:0<=x/\x<(cs.length:Int)+1+1
  ·rw [jz hx];apply aJ e1 (nl (by decide +kernel)) ?_;apply ⟨p,s,cs,rs,rfl,hc,?_⟩;apply ⟨y,_,rfl,?_⟩;by_cases hy:0<=y/\y<(rs.length:Int)+1+1
   ·rw [jz hy];left;rcases h with ⟨_,h⟩ | ⟨n,_⟩
    ·refine ⟨En _,fun l n1=>?_⟩;have s1:=ah.new (o:=HO.lst []) n1;have f1:=af (H:=H) (a:=l) (o:=HO.lst []);generalize upd H l (HO.lst [])=H1 at s1 f1 ⊢;obtain ⟨xs,f1,w1,lx⟩:∃ xs,H1 l=some (.lst xs)/\au H1 xs []/\xs.length<=0:=⟨[],f1,au.nil,A_ 0⟩
     apply cu (fun σ' H'=>∃ xs,σ'=[some (.ref p),some (.ref a),some (.int x),some (.int y),some (.ref l)]/\ah H H'/\H' l=some (.lst xs)/\xs.length<=1/\au H' xs ([]++(if rt cs rs (x - 1) y=true then [(x - 1,y)] else []))) ?_ ?_
     ·apply ⟨p,x - 1,y,s,cs,rs,rfl,hc.mono s1,?_⟩;left;by_cases c:rt cs rs (x - 1) y=true
      ·rw [if_pos c];apply bS f1 ?_;apply ⟨by show 2<=EF; decide,fun b hb=>?_⟩;have sb:=ah.new (o:=HO.tup [V.int (x - 1),V.int y]) hb;apply aW (sb _ _ f1) (aQ (by omega)) ?_;refine ⟨_,rfl,(s1.trans sb).later n1,af,by rw [Bd,EL]; omega,?_⟩;rw [if_pos c];exact ((w1.mono sb).upd (sb _ _ f1) (by intro ys z; cases z)).snoc (Pt.upd (q:=(x - 1,y)) ⟨b,rfl,af⟩ (sb _ _ f1) (by intro ys z; cases z))
      ·rw [if_neg c];apply ⟨_,rfl,s1,f1,by omega,?_⟩;rw [if_neg c,ET];exact w1
     ·clear s1 f1 w1 lx;rintro σ' H1 ⟨xs,rfl,s1,f1,lx,w1⟩;apply cu (fun σ' H'=>∃ xs,σ'=[some (.ref p),some (.ref a),some (.int x),some (.int y),some (.ref l)]/\ah H H'/\H' l=some (.lst xs)/\xs.length<=2/\au H' xs ([]++(if rt cs rs (x - 1) y=true then [(x - 1,y)] else [])++(if ups cs rs x (y - 1)=true then [(x,y - 1)] else []))) ?_ ?_
      ·apply ⟨p,x,y - 1,s,cs,rs,rfl,hc.mono s1,?_⟩;left;by_cases c:ups cs rs x (y - 1)=true
       ·rw [if_pos c];apply bS f1 ?_;apply ⟨by show 2<=EF; decide,fun b hb=>?_⟩;have sb:=ah.new (o:=HO.tup [V.int x,V.int (y - 1)]) hb;apply aW (sb _ _ f1) (aQ (by omega)) ?_;refine ⟨_,rfl,(s1.trans sb).later n1,af,by rw [Bd,EL]; omega,?_⟩;rw [if_pos c];exact ((w1.mono sb).upd (sb _ _ f1) (by intro ys z; cases z)).snoc (Pt.upd (q:=(x,y - 1)) ⟨b,rfl,af⟩ (sb _ _ f1) (by intro ys z; cases z))
       ·rw [if_neg c];apply ⟨_,rfl,s1,f1,by omega,?_⟩;rw [if_neg c,ET];exact w1
      ·clear s1 f1 w1 lx;rintro σ' H1 ⟨xs,rfl,s1,f1,lx,w1⟩;apply cu (fun σ' H'=>∃ xs,σ'=[some (.ref p),some (.ref a),some (.int x),some (.int y),some (.ref l)]/\ah H H'/\H' l=some (.lst xs)/\xs.length<=3/\au H' xs ([]++(if rt cs rs (x - 1) y=true then [(x - 1,y)] else [])++(if ups cs rs x (y - 1)=true then [(x,y - 1)] else [])++(if ups cs rs x y=true then [(x,y+1)] else []))) ?_ ?_
       ·apply ⟨p,x,y,s,cs,rs,rfl,hc.mono s1,?_⟩;left;by_cases c:ups cs rs x y=true
        ·rw [if_pos c];apply bS f1 ?_;apply ⟨by show 2<=EF; decide,fun b hb=>?_⟩;have sb:=ah.new (o:=HO.tup [V.int x,V.int (y+1)]) hb;apply aW (sb _ _ f1) (aQ (by omega)) ?_;refine ⟨_,rfl,(s1.trans sb).later n1,af,by rw [Bd,EL]; omega,?_⟩;rw [if_pos c];exact ((w1.mono sb).upd (sb _ _ f1) (by intro ys z; cases z)).snoc (Pt.upd (q:=(x,y+1)) ⟨b,rfl,af⟩ (sb _ _ f1) (by intro ys z; cases z))
        ·rw [if_neg c];apply ⟨_,rfl,s1,f1,by omega,?_⟩;rw [if_neg c,ET];exact w1
       ·clear s1 f1 w1 lx;rintro σ' H1 ⟨xs,rfl,s1,f1,lx,w1⟩;apply cu (fun σ' H'=>∃ xs,σ'=[some (.ref p),some (.ref a),some (.int x),some (.int y),some (.ref l)]/\ah H H'/\H' l=some (.lst xs)/\xs.length<=4/\au H' xs ([]++(if rt cs rs (x - 1) y=true then [(x - 1,y)] else [])++(if ups cs rs x (y - 1)=true then [(x,y - 1)] else [])++(if ups cs rs x y=true then [(x,y+1)] else [])++(if rt cs rs x y=true then [(x+1,y)] else []))) ?_ ?_
        ·apply ⟨p,x,y,s,cs,rs,rfl,hc.mono s1,?_⟩;left;by_cases c:rt cs rs x y=true
         ·rw [if_pos c];apply bS f1 ?_;apply ⟨by show 2<=EF; decide,fun b hb=>?_⟩;have sb:=ah.new (o:=HO.tup [V.int (x+1),V.int y]) hb;apply aW (sb _ _ f1) (aQ (by omega)) ?_;refine ⟨_,rfl,(s1.trans sb).later n1,af,by rw [Bd,EL]; omega,?_⟩;rw [if_pos c];exact ((w1.mono sb).upd (sb _ _ f1) (by intro ys z; cases z)).snoc (Pt.upd (q:=(x+1,y)) ⟨b,rfl,af⟩ (sb _ _ f1) (by intro ys z; cases z))
         ·rw [if_neg c];apply ⟨_,rfl,s1,f1,by omega,?_⟩;rw [if_neg c,ET];exact w1
        ·clear s1 f1 w1 lx;rintro σ' H1 ⟨xs,rfl,s1,f1,lx,w1⟩;left;exact h l xs H1 s1 n1 f1 w1
    ·exact absurd ⟨hx,hy⟩ n
   ·rw [gw hy];left;rcases h with ⟨n,_⟩ | ⟨_,q⟩
    ·exact absurd n.2 hy
    ·exact ⟨by show 1<=EF; decide,q⟩
  ·rw [gw hx];left;rcases h with ⟨n,_⟩ | ⟨_,q⟩
   ·exact absurd n.1 hx
   ·exact ⟨by show 1<=EF; decide,q⟩
theorem tK (c:Bool) (q:Int×Int):(if c=true then [q] else []).length=if c=true then 1 else 0:=by cases c<;>rfl
theorem nI (cs rs:List Int) (q:Int×Int):(nb cs rs q).length<=4:=by
 unfold nb;simp only [Bd,tK]
 repeat' split
 all_goals omega
def sp_ao (C:Ω):Sp:=fun vs H Q _=>∃ (p a:Ω) (q:Int×Int) (s:Int) (cs rs:List Int),vs=[.ref p,.ref a]/\aI C H p s cs rs/\H a=some (.tup [.int q.1,.int q.2])/\cR cs rs q/\∀ l xs H',ah H H'->H l=none->H' l=some (.lst xs)->au H' xs (nb cs rs q)->Q (.ref l) H'
theorem ok_ao (T:Txt K mg t):aP P w K mg base CX0 6 t.f_ao t.d_ao ["cloth","point"] (sp_ao t.a_aa) :=
 (okx_ao T).down fun vs H Q E hh=>by
  obtain ⟨p,a,q,s,cs,rs,e,hc,ha,hi,k⟩:=hh;exact ⟨p,a,q,s,cs,rs,e,hc,ha,.inl ⟨hi,k⟩⟩
end
section
theorem pY {α:Type} [DecidableEq α]:∀ (a b:List α),a.Nodup->(∀ x∈a,x∈b)->a.length<=b.length
 | [],_,_,_=>En _
 | x::a,b,hn,hs=>by
  rw [EO] at hn;have hx:=hs x θ;have ih:=pY a (b.erase x) hn.2 fun y hy=>by
   have:y≠x:=fun e=>hn.1 (e ▸ hy)
   exact (Ih this).mpr (hs y (Θ _ hy))
  rw [JL hx] at ih;have:=Jo hx
  rw [Ba];omega
theorem Ae {c:Bool} {q r:Int×Int}:r∈(if c=true then [q] else [])↔c=true/\r=q:=by cases c<;>simp
theorem dJ {cs rs:List Int} {q r:Int×Int}:r∈nb cs rs q↔(rt cs rs (q.1 - 1) q.2=true/\r=(q.1 - 1,q.2))\/(ups cs rs q.1 (q.2 - 1)=true/\r=(q.1,q.2 - 1))\/(ups cs rs q.1 q.2=true/\r=(q.1,q.2+1))\/(rt cs rs q.1 q.2=true/\r=(q.1+1,q.2)):=by
 unfold nb;simp only [EG,Ae];constructor
 ·rintro (((h | h) | h) | h)
  ·exact .inl h
  ·exact .inr (.inl h)
  ·exact .inr (.inr (.inl h))
  ·exact .inr (.inr (.inr h))
 ·rintro (h | h | h | h)
  ·exact .inl (.inl (.inl h))
  ·exact .inl (.inl (.inr h))
  ·exact .inl (.inr h)
  ·exact .inr h
theorem fY {cs rs:List Int} {x y:Int}:rt cs rs x y=true↔0<y/\y<(rs.length:Int)+1/\0<=x/\x<(cs.length:Int)+1/\(x+rs.getD (y - 1).toNat 0)%2=1:=by
 unfold rt;simp only [FL,decide_eq_true_eq,and_assoc]
theorem eG {cs rs:List Int} {x y:Int}:ups cs rs x y=true↔0<x/\x<(cs.length:Int)+1/\0<=y/\y<(rs.length:Int)+1/\(y+cs.getD (x - 1).toNat 0)%2=1:=by
 unfold ups;simp only [FL,decide_eq_true_eq,and_assoc]
theorem C5 {cs rs:List Int} {x y:Int} (h:rt cs rs (x - 1) y=true):rt cs rs x y=false:=by
 cases h2:rt cs rs x y with
 | false=>rfl
 | true=>have h:=fY.mp h; have h2:=fY.mp h2; omega
theorem Bi {cs rs:List Int} {x y:Int} (h:ups cs rs x (y - 1)=true):ups cs rs x y=false:=by
 cases h2:ups cs rs x y with
 | false=>rfl
 | true=>have h:=eG.mp h; have h2:=eG.mp h2; omega
theorem b7 (cs rs:List Int):Sm.Gr (nb cs rs):=by
 refine ⟨fun q=>?_,fun q=>?_,fun {a b} h=>?_,fun a h=>?_⟩
 ·unfold nb;obtain ⟨x,y⟩:=q;dsimp only;by_cases h1:rt cs rs (x - 1) y=true<;>by_cases h2:ups cs rs x (y - 1)=true<;>by_cases h3:ups cs rs x y=true<;>by_cases h4:rt cs rs x y=true <;>
   simp only [h1,h2,h3,h4,if_true,if_false,Hf,GU,EO,Bb,Ey,or_false,J9,GD,FJ,not_false_eq_true,and_true,true_and,not_or]<;>omega
 ·unfold nb;simp only [Bd,tK];have h1:rt cs rs (q.1 - 1) q.2=true->rt cs rs q.1 q.2=false:=C5;have h2:ups cs rs q.1 (q.2 - 1)=true->ups cs rs q.1 q.2=false:=Bi;generalize rt cs rs (q.1 - 1) q.2=A at h1;generalize rt cs rs q.1 q.2=B at h1;generalize ups cs rs q.1 (q.2 - 1)=C at h2;generalize ups cs rs q.1 q.2=D at h2
  cases A<;>cases B<;>cases C<;>cases D<;>simp at h1 h2 ⊢
 ·have hb:=dJ.mp h;clear h;refine dJ.mpr ?_;rcases hb with ⟨h,rfl⟩ | ⟨h,rfl⟩ | ⟨h,rfl⟩ | ⟨h,rfl⟩
  ·exact .inr (.inr (.inr ⟨h,Fg (by dsimp only; omega) rfl⟩))
  ·exact .inr (.inr (.inl ⟨h,Fg rfl (by dsimp only; omega)⟩))
  ·exact .inr (.inl ⟨by dsimp only; rw [show a.2+1 - 1=a.2 by omega]; exact h,Fg rfl (by dsimp only; omega)⟩)
  ·exact .inl ⟨by dsimp only; rw [show a.1+1 - 1=a.1 by omega]; exact h,Fg (by dsimp only; omega) rfl⟩
 ·rcases dJ.mp h with ⟨_,e⟩ | ⟨_,e⟩ | ⟨_,e⟩ | ⟨_,e⟩
  ·have:=congrArg JV e; dsimp only at this; omega
  ·have:=congrArg MQ e; dsimp only at this; omega
  ·have:=congrArg MQ e; dsimp only at this; omega
  ·have:=congrArg JV e; dsimp only at this; omega
theorem tR {cs rs:List Int} {q r:Int×Int} (h:r∈nb cs rs q):cR cs rs r:=by
 unfold cR;have hb:=dJ.mp h;clear h;rcases hb with ⟨h,rfl⟩ | ⟨h,rfl⟩ | ⟨h,rfl⟩ | ⟨h,rfl⟩
 ·have:=fY.mp h; dsimp only at *; omega
 ·have:=eG.mp h; dsimp only at *; omega
 ·have:=eG.mp h; dsimp only at *; omega
 ·have:=fY.mp h; dsimp only at *; omega
theorem fz {cs rs:List Int}:∀ {a b:Int×Int} {l:List (Int×Int)},b∈nb cs rs a->Sm.Go (nb cs rs) a b l->∀ x∈b::l,cR cs rs x
 | a,b,[],hb,_,x,hx=>by rw [Ξ.mp hx]; exact tR hb
 | a,b,c::l,hb,g,x,hx=>by
  rcases Bb.mp hx with e | hx
  ·rw [e]; exact tR hb
  ·exact fz (Sm.gy g).1 g.2 x hx
theorem iB {cs rs:List Int} (lc:cs.length<=39) (lr:rs.length<=39) {l:List (Int×Int)} (hn:l.Nodup) (hi:∀ q∈l,cR cs rs q):l.length<=1681:=by
 have:=pY l ((FG 1681).map fun k=>(((k / 41:Nat):Int),((k%41:Nat):Int))) hn fun q hq=>by
  obtain ⟨⟨a,b⟩,c,d⟩:=hi q hq;refine EE.mpr ⟨q.1.toNat*41+q.2.toNat,FE.mpr (by omega),Fg ?_ ?_⟩
  ·dsimp only; omega
  ·dsimp only; omega
 rwa [Aj,GL] at this
end
section
variable {P:ER} {w:E2} {K:W.Frag} {mg:Str->Option Δ} {base:FD} {t:Ad}
theorem xG (cs rs:List Int) (q:Int×Int):(nb cs rs q).length<=2:=(b7 cs rs).le2 q
theorem pI {H:Hp}:∀ {xs:List V} {ps:List (Int×Int)} {a:Int×Int},au H xs ps->au H (xs.filter fun v=>!decide (ck H v=a)) (ps.filter fun c=>!decide (c=a))
 | [],[],a,_=>au.nil
 | [],_::_,_,h=>by have:=h.1; simp at this
 | _::_,[],_,h=>by have:=h.1; simp at this
 | v::xs,p::ps,a,h=>by
  obtain ⟨v',r,e,h1,h2⟩:=h.inv
  cases e;have:=pI (a:=a) h2
  by_cases c:p=a
  ·have e1:(!decide (ck H v=a))=false:=by rw [h1.of]; simp [c]
   have e2:(!decide (p=a))=false:=by simp [c]
   rw [Lx (by rw [e1]; simp),Lx (by rw [e2]; simp)];exact this
  ·have e1:(!decide (ck H v=a))=true:=by rw [h1.of]; simp [c]
   have e2:(!decide (p=a))=true:=by simp [c]
   rw [Lw (by rw [e1]),Lw (by rw [e2])];exact au.cons h1 this
theorem eE {H:Hp} {xs:List V} {ps:List (Int×Int)} {q:Int×Int} (h:au H xs (ps++[q])):∃ v,atI xs (-1)=some v/\Pt H v q:=by
 have hl:=h.1;rw [Bd,EL] at hl;obtain ⟨ys,v,rfl⟩:∃ ys v,xs=ys++[v]:=⟨xs.dropLast,xs.getLast (fun e=>by rw [e] at hl; simp at hl),(Ff _).symm⟩
 rw [Bd,EL] at hl;refine ⟨v,o7 ys v,h.2 ps.length v q (by rw [FQ (by omega),show ps.length - ys.length=0 by omega]; rfl) (by simp)⟩
theorem B6 {a b h:Int×Int} {r m:List (Int×Int)} (e:r++[h]=b::m):∃ r0 z,a::r=r0++[z]/\Sm.fin a b m=(z,h):=by
 match m,e with
 | [],e =>
  have:r=[]:=by
   have:=congrArg Ij e
   rw [Bd] at this;exact FT (by simpa using this)
  subst this;simp only [Hf,IV,and_true] at e;exact ⟨[],a,rfl,by rw [e]; rfl⟩
 | c::m,e =>
  obtain ⟨m0,z,hm⟩:∃ m0 z,c::m=m0++[z]:=⟨(c::m).dropLast,(c::m).getLast (by simp),(Ff _).symm⟩
  rw [hm] at e ⊢;rw [<- GU] at e;have e1:=MM e rfl;have e2:=L7 e rfl;simp only [IV,and_true] at e2;subst e1 e2;refine ⟨(a::b::m0).dropLast,(Sm.fin a b m0).2,?_,by rw [Sm.eY]⟩;have hl:=Sm.eX a b m0;rw [K5 (by simp)] at hl;rw [<- Ez hl,Ff]
def sp_aL (C:Ω):Sp:=fun vs H Q _=>∃ (p a b:Ω) (qa qb:Int×Int) (s:Int) (cs rs:List Int),vs=[.ref p,.ref a,.ref b]/\aI C H p s cs rs/\cs.length<=39/\rs.length<=39/\H a=some (.tup [.int qa.1,.int qa.2])/\H b=some (.tup [.int qb.1,.int qb.2])/\cR cs rs qa/\qb∈nb cs rs qa /\
 ∀ l xs m H',ah H H'->H l=none->H' l=some (.lst xs)->Sm.Wlk (nb cs rs) qa qb m->au H' xs (qa::qb::m)->Q (.ref l) H'
theorem ok_aL (T:Txt K mg t):aP P w K mg base CX0 7 t.f_aL t.d_aL ["cloth","start","onward"] (sp_aL t.a_aa):=by
 refine T.F_aL.ok sc_aL (by walk_at "l") (fun _ _ _ s H vs Q E hr h=>?_)
 ·obtain ⟨p,a,b,qa,qb,s,cs,rs,rfl,hc,lc,lr,ha,hb,ia,adj,k⟩:=h;refine aM (aO 3 sc_aL.nd (cw (aa (pv 1) ae))) fun _ _=>aM (aO 4 sc_aL.nd (pv 2)) fun _ _=>aM (fU FI (bB (kg hr.units) (pv 4) (pv 1)) (aL (fG (i:=5) sc_aL.nd rfl (JW rfl) (ay (ar K rfl) (pv 3) (cA bN ag))) (aL (bC (cU Em Eu Et a8 (pv 3) (aa (pv 4) ae))) (aL (jF (i:=6) sc_aL.nd rfl (Fp rfl) (N:=["point","behind"]) (cap:=[none,some 5]) rfl ⟨rfl,rfl,rfl,rfl,rfl,rfl⟩ (bK (ao (ok_ao T) (rmo hr) rfl T.mg_ao T.F_ao.kp T.b_ao .nil aB (aa (pv 0) (aa (pv 4) ae)))) (fun _ _ _=>(aG (i:=0) (show (["point","behind"]:List Str).Nodup by decide +kernel) rfl (Fp rfl))) (fun _ _ _=>(jG (bB (kg hr.units) (pv 0) (pv 1)))) (fun _ _ _=>(pv 0)) (by rfl)) (aL (aY (bB dh (aq (bp K rfl) rfl T.no_len (by rfl) (aa (pv 6) ae)) ag) (ai (aC (pv 3))) aD) (ai (aO 4 sc_aL.nd (ay (ar K rfl) (pv 6) ag)))))))) fun _ _=>dy (aC (pv 3)) fun _ _=>?_;apply ⟨by show 1<=EF; decide,fun l n1=>?_⟩;have s1:=ah.new (o:=HO.lst [V.ref a]) n1;have e1:=af (H:=H) (a:=l) (o:=HO.lst [V.ref a]);generalize upd H l (HO.lst [V.ref a])=H1 at s1 e1 ⊢;left;have qab:qb≠qa:=fun e=>(b7 cs rs).irr qa (e ▸ adj);refine ⟨fun m σ' H'=>∃ (xs:List V) (h:Ω) (r m':List (Int×Int)) (qh:Int×Int) (o5 o6:Option V),m=2000 - r.length/\σ'=[some (.ref p),some (.ref a),some (.ref b),some (.ref l),some (.ref h),o5,o6]/\ah H H'/\H' l=some (.lst xs)/\au H' xs (qa::r)/\Pt H' (.ref h) qh/\r++[qh]=qb::m'/\Sm.Go (nb cs rs) qa qb m'/\qa∉r/\r.length<=1681,
   ⟨_,_,b,[],[],qb,none,none,rfl,rfl,s1,e1,au.cons ⟨a,rfl,s1 _ _ ha⟩ au.nil,⟨b,rfl,s1 _ _ hb⟩,rfl,trivial,(fun z=>nomatch z),En _⟩,?_⟩
  rintro m σ' H2 ⟨xs,h,r,m',qh,o5,o6,rfl,rfl,s2,e2,w2,ph,er,go,na,lr1⟩;obtain ⟨h',hh',ph'⟩:=ph
  cases hh';obtain ⟨r0,z0,er0,ef⟩:=B6 (a:=qa) er;apply kF ph' (s2 _ _ ha) ?_;by_cases c:qh=qa
  ·rw [ba (show ((qh.1,qh.2):Int×Int)=(qa.1,qa.2) from c)];left;subst c
   match m',er,go with
   | [],er,_ =>
    have:r=[]:=by
     have:=congrArg Ij er
     rw [Bd] at this;exact FT (by simpa using this)
    subst this;simp only [Hf,IV,and_true] at er;exact absurd er.symm qab
   | c::mm,er,go =>
    obtain ⟨m0,z,hm⟩:∃ m0 z,c::mm=m0++[z]:=⟨(c::mm).dropLast,(c::mm).getLast (by simp),(Ff _).symm⟩
    rw [hm] at er go;rw [<- GU] at er;have q1:=MM er rfl;have q2:=L7 er rfl;simp only [IV,and_true] at q2;subst q1 q2;obtain ⟨g1,g2⟩:=Sm.cD.mp go;have nam:qh∉m0:=fun x=>na (Θ _ x);exact k l xs m0 H2 s2 n1 e2 ⟨adj,g1,Sm.cm (b7 cs rs) adj m0 g1 nam,.inr g2⟩ w2
  ·rw [bO (show ¬ ((qh.1,qh.2):Int×Int)=(qa.1,qa.2) from c)];left;have ef1:(Sm.fin qa qb m').1=z0:=by rw [ef]
   have ef2:(Sm.fin qa qb m').2=qh:=by rw [ef]
   have nam:qa∉m':=by
    intro x;have:qa∈r++[qh]:=by rw [er]; exact Θ _ x
    rcases EG.mp this with x | x
    ·exact na x
    ·exact c (Ξ.mp x).symm
   have nd:=Sm.cm (b7 cs rs) adj m' go nam;have few:=iB lc lr nd (fun q hq=>by
    rcases Bb.mp hq with e | hq
    ·rw [e]; exact ia
    ·exact fz adj go q hq)
   have le:r.length=m'.length:=by
    have:=congrArg Ij er
    rw [Bd,EL,Ba] at this;omega
   rw [Ba,Ba] at few;have lx:xs.length=r.length+1:=by rw [w2.1,Ba]
   obtain ⟨vz,hz,pz⟩:=eE (by rw [<- er0]; exact w2);obtain ⟨az,rfl,haz⟩:=pz;have iq:cR cs rs qh:=fz adj go qh (by rw [<- er]; exact ED _ (Ξ.mpr rfl));refine ⟨fun σ' H'=>∃ (xs:List V) (h:Ω) (qc:Int×Int) (o5 o6:Option V),σ'=[some (.ref p),some (.ref a),some (.ref b),some (.ref l),some (.ref h),o5,o6]/\ah H H'/\H' l=some (.lst xs)/\au H' xs (qa::(r++[qh]))/\Pt H' (.ref h) qc/\Sm.oth (nb cs rs) z0 qh=[qc],?_,?_⟩
   ·rintro σ' H' ⟨xs,h,qc,o5,o6,rfl,s3,e3,w3,ph,eo⟩;refine ⟨_,?_,xs,h,r++[qh],m'++[qc],qc,o5,o6,rfl,rfl,s3,e3,w3,ph,by rw [er]; rfl,Sm.cD.mpr ⟨go,by rw [ef]; exact eo⟩,?_,?_⟩
    ·rw [Bd,EL]; omega
    ·intro x;rcases EG.mp x with x | x
     ·exact na x
     ·exact c (Ξ.mp x).symm
    ·rw [Bd,EL]; omega
   ·apply aE (SqL.of e2) hz ?_;apply bS e2 ?_;apply aW e2 (aQ (by omega)) ?_;have s3:=(s2.later (o:=.lst (xs++[.ref h])) n1)
    have e3:=af (H:=H2) (a:=l) (o:=HO.lst (xs++[.ref h]));have w3:au (L2.upd H2 l (.lst (xs++[.ref h]))) (xs++[.ref h]) (qa::(r++[qh])):=(w2.upd e2 (by intro ys z; cases z)).snoc (Pt.upd (q:=qh) ⟨h,rfl,ph'⟩ e2 (by intro ys z; cases z));have haz:=(Pt.upd (o:=.lst (xs++[.ref h])) (q:=z0) ⟨az,rfl,haz⟩ e2 (by intro ys z; cases z))
    have ph3:=(Pt.upd (o:=.lst (xs++[.ref h])) (q:=qh) ⟨h,rfl,ph'⟩ e2 (by intro ys z; cases z))
    generalize L2.upd H2 l (.lst (xs++[.ref h]))=H3 at s3 e3 w3 haz ph3 ⊢;obtain ⟨_,q1,haz⟩:=haz
    cases q1;obtain ⟨_,q1,ph3⟩:=ph3
    cases q1;apply ⟨p,h,qh,s,cs,rs,rfl,hc.mono s3,ph3,iq,fun lj ys H4 s4 _ e4 w4=>?_⟩;apply ⟨⟨_,SqL.of e4⟩,fun lw nw=>?_⟩;have l4:ys.length<=2:=by rw [w4.1]; exact xG cs rs qh
    refine fu (fun v=>v) (fun v=>!decide (ck H4 v=z0)) (SqL.of e4) (by omega) nw (fun x o H5 Q' hx s5 q=>?_) (fun x o H5 Q' hx _ s5 q=>?_) (fun H5 s5 e5=>?_)
    ·left;have px:=w4.mem x hx;obtain ⟨ax,rfl,hax⟩:=px;refine kF (s5 _ _ hax) (s5 _ _ (s4 _ _ haz)) ?_;left;exact q H5 (ah.refl _)
    ·left;exact q H5 (ah.refl _)
    ·rw [L5] at e5;have w5:=(pI (a:=z0) w4).mono s5;generalize (ys.filter fun v=>!decide (ck H4 v=z0))=us at e5 w5;have w5:au H5 us (Sm.oth (nb cs rs) z0 qh):=w5;have s35:=s4.trans s5
     have hzq:z0∈nb cs rs qh:=by
      have:=(b7 cs rs).sym (Sm.cM (b7 cs rs) adj go)
      rw [ef] at this;exact this
     apply bq e5 ?_;left;rcases Sm.hG (b7 cs rs) hzq with eo | ⟨qc,eo⟩
     ·rw [eo] at w5;have:us=[]:=FT w5.1
      subst this;rw [show decide ((([]:List V).length:Int)=0)=true from rfl];apply k l _ m' H5 (s3.trans s35) n1 (s35 _ _ e3) ⟨adj,go,nd,.inl (by rw [ef]; exact eo)⟩ ?_;rw [<- er];exact w3.mono s35
     ·rw [eo] at w5;obtain ⟨v,us',e,hv,wu⟩:=w5.inv;have:us'=[]:=FT wu.1
      subst this;subst e;rw [show decide ((([v]:List V).length:Int)=0)=false from rfl];apply aE (SqL.of e5) (bH (j:=0) rfl) ?_;left;obtain ⟨av,rfl,hav⟩:=hv;exact ⟨_,av,qc,_,_,rfl,s3.trans s35,s35 _ _ e3,w3.mono s35,⟨av,rfl,hav⟩,eo⟩
theorem pW {cs rs:List Int} {q:Int×Int} (h2:(nb cs rs q).length=2) (h:∀ r∈nb cs rs q,Ts.ple q r):nb cs rs q=[(q.1,q.2+1)]++[(q.1+1,q.2)]:=by
 have h1:rt cs rs (q.1 - 1) q.2=false:=by
  cases c:rt cs rs (q.1 - 1) q.2 with
  | false => rfl
  | true => have := h _ (dJ.mpr (.inl ⟨c, rfl⟩)); unfold Ts.ple at this; dsimp only at this; omega
 have h3:ups cs rs q.1 (q.2 - 1)=false:=by
  cases c:ups cs rs q.1 (q.2 - 1) with
  | false => rfl
  | true => have := h _ (dJ.mpr (.inr (.inl ⟨c, rfl⟩))); unfold Ts.ple at this; dsimp only at this; omega
 unfold nb at h2 ⊢;rw [h1,h3] at h2 ⊢
 cases c:ups cs rs q.1 q.2<;>cases d:rt cs rs q.1 q.2<;>rw [c,d] at h2<;>first | rfl | (simp at h2)
theorem dB {a b:Int×Int} {m:List (Int×Int)}:∃ ps,a::b::m=ps++[(Sm.fin a b m).2]:=by
 have hl:=Sm.eX a b m;rw [K5 (by simp)] at hl;exact ⟨(a::b::m).dropLast,by rw [<- Ez hl,Ff]⟩
theorem au.rev:∀ {H:Hp} {xs:List V} {ps:List (Int×Int)},au H xs ps->au H xs.reverse ps.reverse
 | H,[],[],_=>au.nil
 | H,[],_::_,h=>by have:=h.1; simp at this
 | H,_::_,[],h=>by have:=h.1; simp at this
 | H,v::xs,p::ps,h=>by
  obtain ⟨v',r,e,h1,h2⟩:=h.inv
  cases e;rw [HD,HD];exact (au.rev h2).snoc h1
theorem lq {cs rs:List Int} {f:Bool} {L:List (Int×Int)} (h:Sm.bz (nb cs rs) f L):∀ q∈L,cR cs rs q:=by
 obtain ⟨a,b,l,rfl,adj,go,_⟩:=h.path;intro q hq;rcases Bb.mp hq with e | hq
 ·rw [e]; exact tR ((b7 cs rs).sym adj)
 ·exact fz adj go q hq
def sp_ap (C:Ω):Sp:=fun vs H Q _=>∃ (p ll:Ω) (xs:List V) (qa qb:Int×Int) (m:List (Int×Int)) (s:Int) (cs rs:List Int),vs=[.ref p,.ref ll]/\aI C H p s cs rs/\cs.length<=39/\rs.length<=39/\H ll=some (.lst xs)/\au H xs (qa::qb::m)/\Sm.Rnd (nb cs rs) qa qb m/\cR cs rs qa /\
 ∀ l ys L H',ah H H'->H l=none->H' l=some (.lst ys)->Sm.bz (nb cs rs) true L->qa∈L->au H' ys L->Q (.ref l) H'
theorem ok_ap (T:Txt K mg t):aP P w K mg base CX0 8 t.f_ap t.d_ap ["cloth","line"] (sp_ap t.a_aa):=by
 refine T.F_ap.ok sc_ap (by walk_at "l") (fun _ _ _ s H vs Q E hr h=>?_)
 ·obtain ⟨p,ll,xs,qa,qb,m,s,cs,rs,rfl,hc,lc,lr,hl,wx,rd,ia,k⟩:=h;have G:=b7 cs rs;refine ⟨_,(aL (aO 2 sc_ap.nd (aq (o9 K rfl rfl hr.units) rfl T.no_min (by rfl) (aa (pv 1) ae))) (ai (aC (ao (ok_aL T) (rmo hr) rfl T.mg_aL T.F_aL.kp T.b_aL .nil aB (aa (pv 0) (aa (pv 2) (aa (ay (ar K rfl) (ao (ok_ao T) (rmo hr) rfl T.mg_ao T.F_ao.kp T.b_ao .nil aB (aa (pv 0) (aa (pv 2) ae))) (cA bN ag)) ae))))))),?_⟩;apply ue (ck H) hl (fun e=>by have:=wx.1; rw [e] at this; simp at this) (fun v hv=>wx.mem v hv) fun v hv hmin=>?_;obtain ⟨a,rfl,ha⟩:=wx.mem v hv;have hq:ck H (.ref a)∈qa::qb::m:=by rw [<- wx.map]; exact EE.mpr ⟨_,hv,rfl⟩
  have hmn:∀ r∈qa::qb::m,Ts.ple (ck H (.ref a)) r:=by
   intro r hr;rw [<- wx.map] at hr;obtain ⟨u,hu,rfl⟩:=EE.mp hr;exact hmin u hu
  generalize ck H (.ref a)=q at ha hq hmn
  have iq:cR cs rs q:=by
   rcases Bb.mp hq with e | hq
   ·rw [e]; exact ia
   ·exact fz rd.adj rd.go q hq
  have sh:=rd.shut G;have two:=rd.two G;have enb:=pW (two q hq) fun r hr=>hmn r (sh q hq r hr);apply ⟨p,a,q,s,cs,rs,rfl,hc,ha,iq,fun lj ys H1 s1 _ e1 w1=>?_⟩;rw [enb] at w1;obtain ⟨v,hv1,pv⟩:=eE w1;obtain ⟨b,rfl,hb⟩:=pv;apply aE (SqL.of e1) hv1 ?_;left;have adj:((q.1+1,q.2):Int×Int)∈nb cs rs q:=by rw [enb]; exact ED _ (Ξ.mpr rfl)
  refine ⟨p,a,b,q,(q.1+1,q.2),s,cs,rs,rfl,hc.mono s1,lc,lr,s1 _ _ ha,hb,iq,adj,fun l zs m' H2 s2 n2 e2 wk w2=>?_⟩;have rd2:=wk.round G sh two hq;have sub:∀ x∈q::(q.1+1,q.2)::m',x∈qa::qb::m:=Sm.gS G sh rd2.adj rd2.go q θ hq;refine k l zs (q::(q.1+1,q.2)::m') H2 (s1.trans s2) (s1.free n2) e2 ⟨(fun e=>by cases e),fun _=>⟨q,_,m',rfl,rd2,fun x hx=>hmn x (sub x hx),rfl⟩⟩ ?_ w2;exact Sm.gS G (rd2.shut G) rd.adj rd.go q hq θ qa θ
def sp_aw (C:Ω):Sp:=fun vs H Q _=>∃ (p a:Ω) (q:Int×Int) (s:Int) (cs rs:List Int),vs=[.ref p,.ref a]/\aI C H p s cs rs/\cs.length<=39/\rs.length<=39/\H a=some (.tup [.int q.1,.int q.2])/\(nb cs rs q).length=1/\cR cs rs q /\
 ∀ l ys L H',ah H H'->H l=none->H' l=some (.lst ys)->Sm.bz (nb cs rs) false L->q∈L->au H' ys L->Q (.ref l) H'
theorem ok_aw (T:Txt K mg t):aP P w K mg base CX0 8 t.f_aw t.d_aw ["cloth","end"] (sp_aw t.a_aa):=by
 refine T.F_aw.ok sc_aw (by walk_at "l") (fun _ _ _ s H vs Q E hr h=>?_)
 ·obtain ⟨p,a,q,s,cs,rs,rfl,hc,lc,lr,ha,one,iq,k⟩:=h;have G:=b7 cs rs;refine aM (aO 2 sc_aw.nd (ao (ok_aL T) (rmo hr) rfl T.mg_aL T.F_aL.kp T.b_aL .nil aB (aa (pv 0) (aa (pv 1) (aa (ay (ar K rfl) (ao (ok_ao T) (rmo hr) rfl T.mg_ao T.F_ao.kp T.b_ao .nil aB (aa (pv 0) (aa (pv 1) ae))) ag) ae))))) fun _ _=>aM (aY (bB (xQ hr.units) (ay (ar K rfl) (pv 2) (cA bN ag)) (pv 1)) (ai (aC (tZ K rfl rfl rfl T.no_list rfl T.no_reversed (pv 2)))) aD) fun _ _=>dy (aC (pv 2)) fun _ _=>?_;apply ⟨p,a,q,s,cs,rs,rfl,hc,ha,iq,fun lj ys H1 s1 _ e1 w1=>?_⟩;obtain ⟨y,ey⟩:∃ y,nb cs rs q=[y]:=by
   match hz:nb cs rs q,one with
   | [y],_=>exact ⟨y,rfl⟩
  rw [ey] at w1;obtain ⟨v,r,e,hv,wr⟩:=w1.inv;subst e;obtain ⟨b,rfl,hb⟩:=hv;apply aE (SqL.of e1) (bH (j:=0) rfl) ?_;apply ⟨p,a,b,q,y,s,cs,rs,rfl,hc.mono s1,lc,lr,s1 _ _ ha,hb,iq,by rw [ey]; exact Ξ.mpr rfl,fun l zs m' H2 s2 n2 e2 wk w2=>?_⟩;have op:=wk.open G one;obtain ⟨t1,t2⟩:=Sm.mG G op;obtain ⟨ps,eps⟩:=dB (a:=q) (b:=y) (m:=m');obtain ⟨vl,hvl,pl⟩:=eE (by rw [<- eps]; exact w2);apply aE (SqL.of e2) hvl ?_;apply yv (p:=(Sm.fin q y m').2) (q:=q) pl ⟨a,rfl,s2 _ _ (s1 _ _ ha)⟩ ?_
  cases hlt:Ts.plt (Sm.fin q y m').2 q with
  | true =>
   apply ug ?_;apply rR e2 fun l3 n3=>?_;left;have s3:=ah.new (o:=HO.lst zs.reverse) n3;exact k l3 _ _ _ (s1.trans (s2.trans s3)) (s1.free (s2.free n3)) af (t1 hlt) (F1.mpr θ) (w2.rev.mono s3)
  | false =>
   left;exact k l zs _ H2 (s1.trans s2) (s1.free n2) e2 (t2 hlt) θ w2
def sp_a4 (C:Ω):Sp:=fun vs H Q _=>∃ (p a:Ω) (q:Int×Int) (s:Int) (cs rs:List Int),vs=[.ref p,.ref a]/\aI C H p s cs rs/\cs.length<=39/\rs.length<=39/\H a=some (.tup [.int q.1,.int q.2])/\cR cs rs q /\
 (nb cs rs q=[]->∀ H',ah H H'->Q .non H') /\
 (nb cs rs q≠[]->∀ TT l f ys L H',ah H H'->H TT=none->H l=none->H' TT=some (.tup [.bl f,.ref l])->H' l=some (.lst ys)->Sm.bz (nb cs rs) f L->q∈L->au H' ys L->Q (.ref TT) H')
theorem ok_a4 (T:Txt K mg t):aP P w K mg base CX0 9 t.f_a4 t.d_a4 ["cloth","point"] (sp_a4 t.a_aa):=by
 refine T.F_a4.ok sc_a4 (by walk_at "l") (fun _ _ _ s H vs Q E hr h=>?_)
 ·obtain ⟨p,a,q,s,cs,rs,rfl,hc,lc,lr,ha,iq,k0,k⟩:=h;have G:=b7 cs rs;refine aM (aO 2 sc_a4.nd (ao (ok_ao T) (rmo hr) rfl T.mg_ao T.F_ao.kp T.b_ao .nil aB (aa (pv 0) (aa (pv 1) ae)))) fun _ _=>aM (aY (bB dh (aq (bp K rfl) rfl T.no_len (by rfl) (aa (pv 2) ae)) ag) (ai (aC i7)) aD) fun _ _=>aM (aO 3 sc_a4.nd (ao (ok_aL T) (rmo hr) rfl T.mg_aL T.F_aL.kp T.b_aL .nil aB (aa (pv 0) (aa (pv 1) (aa (ay (ar K rfl) (pv 2) ag) ae))))) fun _ _=>aM (aY (bB dh (aq (bp K rfl) rfl T.no_len (by rfl) (aa (ao (ok_ao T) (rmo hr) rfl T.mg_ao T.F_ao.kp T.b_ao .nil aB (aa (pv 0) (aa (ay (ar K rfl) (pv 3) (cA bN ag)) ae))) ae)) ag) (ai (aC (bw (aa fe (aa (ao (ok_aw T) (rmo hr) rfl T.mg_aw T.F_aw.kp T.b_aw .nil aB (aa (pv 0) (aa (ay (ar K rfl) (pv 3) (cA bN ag)) ae))) ae))))) aD) fun _ _=>dy (aC (bw (aa fe (aa (ao (ok_ap T) (rmo hr) rfl T.mg_ap T.F_ap.kp T.b_ap .nil aB (aa (pv 0) (aa (pv 3) ae))) ae)))) fun _ _=>?_;apply ⟨p,a,q,s,cs,rs,rfl,hc,ha,iq,fun lj ys H1 s1 _ e1 w1=>?_⟩;apply bq e1 ?_;left
  match hz:nb cs rs q,w1 with
  | [], w1 =>
   have:ys=[]:=FT w1.1
   subst this;rw [show decide ((([]:List V).length:Int)=0)=true from rfl];left;exact k0 hz _ s1
  | y :: dO, w1 =>
   have k:=k (by rw [hz]; simp);obtain ⟨v,r,e,hv,wr⟩:=w1.inv;subst e;obtain ⟨b,rfl,hb⟩:=hv;rw [bO (show ¬ (((V.ref b::r).length:Nat):Int)=0 by rw [Ba]; omega)];apply aE (SqL.of e1) (bH (j:=0) rfl) ?_;apply ⟨p,a,b,q,y,s,cs,rs,rfl,hc.mono s1,lc,lr,s1 _ _ ha,hb,iq,by rw [hz]; exact θ,fun l zs m' H2 s2 n2 e2 wk w2=>?_⟩;obtain ⟨ps,eps⟩:=dB (a:=q) (b:=y) (m:=m');obtain ⟨vl,hvl,pl⟩:=eE (by rw [<- eps]; exact w2);obtain ⟨al,rfl,hal⟩:=pl;have il:cR cs rs (Sm.fin q y m').2:=fz wk.adj wk.go _ (Sm.bP q y m').1;apply aE (SqL.of e2) hvl ?_;apply ⟨p,al,(Sm.fin q y m').2,s,cs,rs,rfl,hc.mono (s1.trans s2),hal,il,fun lj us H3 s3 _ e3 w3=>?_⟩;apply bq e3 ?_;rw [w3.1];left;by_cases c1:(nb cs rs (Sm.fin q y m').2).length=1
   ·rw [c1,show decide (((1:Nat):Int)=1)=true from rfl];apply aE (SqL.of (s3 _ _ e2)) hvl ?_;apply ⟨p,al,(Sm.fin q y m').2,s,cs,rs,rfl,hc.mono (s1.trans (s2.trans s3)),lc,lr,s3 _ _ hal,c1,il,fun lo os L H4 s4 n4 e4 td hin w4=>?_⟩;apply ⟨by show 2<=EF; decide,fun TT nT=>?_⟩;left;have sT:=ah.new (o:=HO.tup [V.bl false,V.ref lo]) nT;refine k TT lo false os L _ (s1.trans (s2.trans (s3.trans (s4.trans sT)))) (s1.free (s2.free (s3.free (s4.free nT)))) (s1.free (s2.free (s3.free n4))) af (sT _ _ e4) td ?_ (w4.mono sT);exact Sm.gS G (td.shut G) wk.adj wk.go _ (Θ _ (Sm.bP q y m').1) hin q θ
   ·rw [bO (show ¬ (((nb cs rs (Sm.fin q y m').2).length:Nat):Int)=1 by omega)];have rd:Sm.Rnd (nb cs rs) q y m':=⟨wk.adj,wk.go,by
     rcases wk.stop with h | h
     ·exact absurd ((wk.ended G).mpr h) c1
     ·exact h,wk.nd⟩
    apply ⟨p,l,zs,q,y,m',s,cs,rs,rfl,hc.mono (s1.trans (s2.trans s3)),lc,lr,s3 _ _ e2,w2.mono s3,rd,iq,fun lo os L H4 s4 n4 e4 td hin w4=>?_⟩;apply ⟨by show 2<=EF; decide,fun TT nT=>?_⟩;left;have sT:=ah.new (o:=HO.tup [V.bl true,V.ref lo]) nT;exact k TT lo true os L _ (s1.trans (s2.trans (s3.trans (s4.trans sT)))) (s1.free (s2.free (s3.free (s4.free nT)))) (s1.free (s2.free (s3.free n4))) af (sT _ _ e4) td hin (w4.mono sT)
end
noncomputable def ky (q:Int×Int):List Key:=[HM q.1,HM q.2]
theorem Cj {p q:Int×Int} (h:ky p=ky q):p=q:=by
 unfold ky at h;simp only [IV,Sum.inl.injEq,and_true] at h;exact Fg h.1 h.2
def cB (kvs:List (List Key×V)) (ps:List (Int×Int)):Prop:=kvs.map (·.1)=ps.map ky
theorem cB.len {kvs:List (List Key×V)} {ps:List (Int×Int)} (h:cB kvs ps):kvs.length=ps.length:=by
 have:=congrArg Ij h
 rwa [Aj,Aj] at this
theorem cB.val {kvs:List (List Key×V)} {ps:List (Int×Int)} (h:cB kvs ps) (q:Int×Int):(bG kvs (ky q)).isSome=decide (q∈ps):=by
 rw [<- dW];have e:(kvs.any fun kv=>decide (kv.1=ky q))=(kvs.map (·.1)).any fun k=>decide (k=ky q):=by rw [List.any_map]; rfl
 rw [e,show kvs.map (·.1)=ps.map ky from h,Hh,List.any_eq_true,decide_eq_true_eq];constructor
 ·rintro ⟨k,hk,z⟩;obtain ⟨p,hp,rfl⟩:=EE.mp hk;exact Cj (of_decide_eq_true z) ▸ hp
 ·intro hq;exact ⟨ky q,EE.mpr ⟨q,hq,rfl⟩,ba rfl⟩
theorem cB.put {kvs:List (List Key×V)} {ps:List (Int×Int)} {q:Int×Int} {v:V} (h:cB kvs ps) (hq:q∉ps):cB (cS kvs (ky q) v) (ps++[q]):=by
 have hn:bG kvs (ky q)=none:=by
  have:=h.val q
  rw [bO hq] at this
  cases e:bG kvs (ky q) with
  | none => rfl
  | some z => rw [e] at this; cases this
 rw [kE v hn];unfold cB;rw [FO,FO,show kvs.map (·.1)=ps.map ky from h];rfl
section
variable {P:ER} {w:E2} {K:W.Frag} {mg:Str->Option Δ} {base:FD} {t:Ad}
noncomputable abbrev Sm1:=Bool×List (Int×Int)
def SeV (H:Hp) (lf:Ω) (v:V) (e:Sm1):Prop:=∃ T l ys,v=.ref T/\l≠lf/\H T=some (.tup [.bl e.1,.ref l])/\H l=some (.lst ys)/\au H ys e.2
theorem SeV.mono {H H':Hp} {lf:Ω} {v:V} {e:Sm1} (s:ah H H') (h:SeV H lf v e):SeV H' lf v e:=by
 obtain ⟨T,l,ys,h1,h2,h3,h4,h5⟩:=h;exact ⟨T,l,ys,h1,h2,s _ _ h3,s _ _ h4,h5.mono s⟩
theorem SeV.lst {H:Hp} {lf:Ω} {v:V} {e:Sm1} {us:List V} {o:HO} (h:SeV H lf v e) (q:H lf=some (.lst us)):SeV (upd H lf o) lf v e:=by
 obtain ⟨T,l,ys,h1,h2,h3,h4,h5⟩:=h;exact ⟨T,l,ys,h1,h2,by rw [aj (cg h3 q (by intro z; cases z))]; exact h3,by rw [aj h2]; exact h4,h5.upd q (by intro ys z; cases z)⟩
theorem SeV.dct {H:Hp} {lf d:Ω} {v:V} {e:Sm1} {us:List (List Key×V)} {o:HO} (h:SeV H lf v e) (q:H d=some (.dT us)):SeV (upd H d o) lf v e:=by
 obtain ⟨T,l,ys,h1,h2,h3,h4,h5⟩:=h;exact ⟨T,l,ys,h1,h2,by rw [aj (cg h3 q (by intro z; cases z))]; exact h3,by rw [aj (cg h4 q (by intro z; cases z))]; exact h4,h5.upd q (by intro ys z; cases z)⟩
def PwS (H:Hp) (lf:Ω) (xs:List V) (L:List Sm1):Prop:=xs.length=L.length/\∀ (i:Nat) v e,xs[i]?=some v->L[i]?=some e->SeV H lf v e
theorem PwS.nil {H:Hp} {lf:Ω}:PwS H lf [] []:=⟨rfl,fun i v e h=>by simp at h⟩
theorem PwS.mono {H H':Hp} {lf:Ω} {xs:List V} {L:List Sm1} (s:ah H H') (h:PwS H lf xs L):PwS H' lf xs L:=⟨h.1,fun i v e a b=>(h.2 i v e a b).mono s⟩
theorem PwS.lst {H:Hp} {lf:Ω} {xs us:List V} {L:List Sm1} {o:HO} (h:PwS H lf xs L) (q:H lf=some (.lst us)):PwS (upd H lf o) lf xs L:=⟨h.1,fun i v e a b=>(h.2 i v e a b).lst q⟩
theorem PwS.dct {H:Hp} {lf d:Ω} {xs:List V} {L:List Sm1} {us:List (List Key×V)} {o:HO} (h:PwS H lf xs L) (q:H d=some (.dT us)):PwS (upd H d o) lf xs L:=⟨h.1,fun i v e a b=>(h.2 i v e a b).dct q⟩
theorem PwS.snoc {H:Hp} {lf:Ω} {xs:List V} {L:List Sm1} {v:V} {e:Sm1} (h:PwS H lf xs L) (hv:SeV H lf v e):PwS H lf (xs++[v]) (L++[e]):=by
 refine ⟨by rw [Bd,Bd,h.1]; rfl,fun i v' q' h1 h2=>?_⟩;by_cases hi:i<xs.length
 ·rw [GI hi] at h1;rw [GI (by rw [<- h.1]; exact hi)] at h2;exact h.2 i v' q' h1 h2
 ·rw [FQ (by omega)] at h1;rw [FQ (by rw [<- h.1]; omega),<- h.1] at h2
  cases hk:i - xs.length with
  | zero =>
   rw [hk] at h1 h2;simp only [Fj,F7] at h1 h2;rw [<- h1,<- h2]; exact hv
  | succ k => rw [hk] at h1; simp at h1
noncomputable def eU (H:Hp):V->Sm1
 | .ref T=>match H T with
  | some (.tup [.bl f, .ref l]) => match H l with
   | some (.lst ys)=>(f,ys.map (ck H))
   | _=>(false,[])
  | _ => (false, [])
 | _=>(false,[])
theorem SeV.of {H:Hp} {lf:Ω} {v:V} {e:Sm1} (h:SeV H lf v e):eU H v=e:=by
 obtain ⟨T,l,ys,rfl,_,h3,h4,h5⟩:=h;simp only [eU,h3,h4,h5.map]
theorem PwS.map {H:Hp} {lf:Ω} {xs:List V} {L:List Sm1} (h:PwS H lf xs L):xs.map (eU H)=L:=by
 refine Hr fun i=>?_;rw [EX];by_cases hi:i<xs.length
 ·have hi':i<L.length:=by rw [<- h.1]; exact hi
  rw [ς hi,ς hi',G8,(h.2 i _ _ (ς hi) (ς hi')).of]
 ·rw [Gg (by omega),Gg (by rw [<- h.1]; omega)]; rfl
theorem PwS.mem {H:Hp} {lf:Ω} {xs:List V} {L:List Sm1} (h:PwS H lf xs L):∀ v∈xs,SeV H lf v (eU H v)/\eU H v∈L:=by
 intro v hv;obtain ⟨i,hi⟩:=Fy.mp hv;have hl:i<L.length:=by rw [<- h.1]; exact (Bc.mp hi).1
 have:=h.2 i v _ hi (ς hl)
 rw [this.of];exact ⟨this,HN hl⟩
theorem yh {H:Hp} {lf:Ω}:∀ {xs:List V},(∀ v∈xs,SeV H lf v (eU H v))->PwS H lf xs (xs.map (eU H))
 | [],_=>PwS.nil
 | v::xs,h=>by
  have ih:=yh (xs:=xs) fun v hv=>h v (Θ _ hv);refine ⟨by rw [Aj],fun i v' e h1 h2=>?_⟩
  cases i with
  | zero => simp only [Fj, EW, F7] at h1 h2; rw [<- h1, <- h2]; exact h v θ
  | succ i => simp only [Fl, EW] at h1 h2; exact ih.2 i v' e h1 h2
noncomputable def hd (e:Sm1):Int×Int:=e.2.headD (0,0)
noncomputable def bu (L:List Sm1):List (Int×Int):=L.flatMap (·.2)
theorem bQ (L:List Sm1) (e:Sm1):bu (L++[e])=bu L++e.2:=by
 unfold bu;rw [MY];simp
theorem fS {L:List Sm1} {q:Int×Int}:q∈bu L↔∃ e∈L,q∈e.2:=JZ
structure dr (cs rs:List Int) (L:List Sm1):Prop where
 told:∀ e∈L,Sm.bz (nb cs rs) e.1 e.2
 nd:(bu L).Nodup
theorem dr.in_ {cs rs:List Int} {L:List Sm1} (h:dr cs rs L):∀ q∈bu L,cR cs rs q:=fun q hq=>by
 obtain ⟨e,he,hq⟩:=fS.mp hq;exact lq (h.told e he) q hq
theorem dr.add {cs rs:List Int} {L:List Sm1} (h:dr cs rs L) {e:Sm1} {q:Int×Int} (he:Sm.bz (nb cs rs) e.1 e.2) (hq:q∈e.2) (hn:q∉bu L):dr cs rs (L++[e]):=by
 refine ⟨fun e' he'=>?_,?_⟩
 ·rcases EG.mp he' with z | z
  ·exact h.told e' z
  ·rw [Ξ.mp z]; exact he
 ·rw [bQ,FZ];obtain ⟨_,_,_,_,_,_,nd⟩:=he.path;refine ⟨h.nd,nd,fun a ha b hb z=>?_⟩;subst z;obtain ⟨e',he',ha⟩:=fS.mp ha;have:=((h.told e' he').uniq (b7 cs rs) he ha hb).2
  exact hn (fS.mpr ⟨e',he',by rw [this]; exact hq⟩)
theorem dr.few {cs rs:List Int} (lc:cs.length<=39) (lr:rs.length<=39) {L:List Sm1} (h:dr cs rs L):(bu L).length<=1681/\L.length<=1681:=by
 have h1:=iB lc lr h.nd h.in_;refine ⟨h1,?_⟩;have:∀ (M:List Sm1),(∀ e∈M,Sm.bz (nb cs rs) e.1 e.2)->M.length<=(bu M).length:=by
  intro M
  induction M with
  | nil => intro _; exact En _
  | cons e M ih =>
   intro hM;have:=ih fun e' he'=>hM e' (Θ _ he')
   obtain ⟨a,b,l,ee,_⟩:=(hM e θ).path;unfold bu at this ⊢;rw [JI,Bd,ee,Ba,Ba,Ba];omega
 exact FA (this L h.told) h1
theorem i3 {L L':List Sm1} (h:L'.Perm L):(bu L').Perm (bu L):=h.flatMap_right _
theorem dr.perm {cs rs:List Int} {L L':List Sm1} (h:dr cs rs L) (p:L'.Perm L):dr cs rs L':=⟨fun e he=>h.told e (p.mem_iff.mp he),(i3 p).nodup_iff.mpr h.nd⟩
structure dX (cs rs:List Int) (L:List Sm1):Prop where
 some:dr cs rs L
 cov:∀ q,cR cs rs q->nb cs rs q≠[]->q∈bu L
 srt:L.Pairwise fun a b=>Ts.ple (hd a) (hd b)
structure uC (H:Hp) (lf ds:Ω) (L:List Sm1):Prop where
 lst:∃ xs,H lf=some (.lst xs)/\PwS H lf xs L
 dct:∃ kvs,H ds=some (.dT kvs)/\cB kvs (bu L)
theorem uC.mono {H H':Hp} {lf ds:Ω} {L:List Sm1} (s:ah H H') (h:uC H lf ds L):uC H' lf ds L :=
 ⟨let ⟨xs,h1,h2⟩:=h.lst; ⟨xs,s _ _ h1,h2.mono s⟩,let ⟨kvs,h1,h2⟩:=h.dct; ⟨kvs,s _ _ h1,h2⟩⟩
def sp_an:Sp:=fun vs H Q _=>∃ (T l:Ω) (f:Bool) (v:V) (ys:List V),vs=[.ref T]/\H T=some (.tup [.bl f,.ref l])/\H l=some (.lst (v::ys))/\Q v H
theorem ok_an (T:Txt K mg t):aP P w K mg base CX0 1 t.f_an t.d_an ["told"] sp_an:=by
 refine T.F_an.ok sc_an (by walk_at "l") (fun _ _ _ s H vs Q E hr h=>?_)
 ·obtain ⟨T,l,f,v,ys,rfl,h1,h2,q⟩:=h;refine ⟨_,(ai (aC (ay (ar K rfl) (ay (aN K rfl) (pv 0) ag) ag))),?_⟩;apply aR (SqT.of h1) (v:=.ref l) rfl ?_;apply aE (SqL.of h2) (bH (j:=0) rfl) ?_;exact q
def sp_aq (C:Ω):Sp:=fun vs H Q _=>∃ (p:Ω) (s:Int) (cs rs:List Int),vs=[.ref p]/\aI C H p s cs rs/\cs.length<=39/\rs.length<=39 /\
 ∀ l ys L H',ah H H'->H l=none->H' l=some (.lst ys)->dX cs rs L->PwS H' l ys L->Q (.ref l) H'
theorem ok_aq (T:Txt K mg t):aP P w K mg base CX0 10 t.f_aq t.d_aq ["cloth"] (sp_aq t.a_aa):=by
  refine T.F_aq.ok sc_aq (fun vs H Q E h=>?_) (fun cdv A outer s H vs Q E hr h=>?_)
  · obtain ⟨p,s,cs,rs,rfl,_⟩:=h; rfl
  · obtain ⟨p,s,cs,rs,rfl,hc,lc,lr,k⟩:=h
    obtain ⟨dx,a1,b1,g1,g2,g3⟩:=hc.ob;have nl:∀ {w h:Int} {m:Str},NoF m->(cfl s a1 b1 w h).lookup m=none:=fun x=>dH _ _ _ x;refine aM (aO 1 sc_aq.nd (cw ae)) fun _ _=>aM (aO 2 sc_aq.nd qg) fun _ _=>aM (cZ FI rfl (cY rfl T.no_au (aa (aA a7 (aT (pv 0) T.cl_aa T.m_ad (ok_ad T) (rmo hr) T.b_ad .nil aB) ag) ae)) (aG (i:=3) sc_aq.nd rfl (Fp rfl)) (ai (cZ FI rfl (cY rfl T.no_au (aa (aA a7 (aT (pv 0) T.cl_aa T.m_af (ok_af T) (rmo hr) T.b_af .nil aB) ag) ae)) (aG (i:=4) sc_aq.nd rfl (Fp rfl)) (aL (aO 5 sc_aq.nd (qk (yd (Ct (tJ hr) (bw (aa (pv 3) (aa (pv 4) ae))) (pv 2))) i7 (ao (ok_a4 T) (rmo hr) rfl T.mg_a4 T.F_a4.kp T.b_a4 .nil aB (aa (pv 0) (aa (bw (aa (pv 3) (aa (pv 4) ae))) ae))))) (ai (aY (bB tX (pv 5) i7) (aL (bC (cU Em Eu Et a8 (pv 1) (aa (pv 5) ae))) (ai (cZ FI rfl (bK (ay (aN K rfl) (pv 5) ag)) (aG (i:=6) sc_aq.nd rfl (Fp rfl)) (ai (t6 (tJ hr) (pv 2) (pv 6) fe rfl))))) aD)))))) fun _ _=>dy (aC (xV K rfl (ok_an T) (rmo hr) rfl T.no_sorted rfl T.mg_an T.b_an (pv 1))) fun _ _=>?_;apply ⟨En _,fun lf nf=>?_⟩;have s1:=ah.new (o:=HO.lst []) nf;have e1:=af (H:=H) (a:=lf) (o:=HO.lst []);generalize upd H lf (HO.lst [])=H1 at s1 e1 ⊢;apply fun ds nd=>?_;have s2:=s1.trans (ah.new (o:=HO.dT []) nd);have nds:H ds=none:=s1.free nd;have ga:uC (upd H1 ds (.dT [])) lf ds []:=⟨⟨[],ah.new nd _ _ e1,PwS.nil⟩,⟨[],af,rfl⟩⟩
    generalize upd H1 ds (HO.dT [])=H2 at s2 ga ⊢;apply aJ (s2 _ _ g1) (nl (by decide +kernel)) ?_;apply ⟨p,s,cs,rs,rfl,hc.mono s2,?_⟩;apply ⟨_,rfl,by omega,by omega,?_⟩;rw [show ((cs.length:Int)+1+1).toNat=cs.length+2 by omega];refine cX (fun x σ' H'=>∃ (L:List Sm1) (o3 o4 o5 o6:Option V),σ'=[some (.ref p),some (.ref lf),some (.ref ds),o3,o4,o5,o6]/\ah H H'/\uC H' lf ds L/\dr cs rs L/\∀ q,cR cs rs q->nb cs rs q≠[]->q.1<(x:Nat)->q∈bu L)
      ⟨[],none,none,none,none,rfl,s2,ga,⟨(fun e he=>nomatch he),GD⟩,fun q hq _ h=>by have:=hq.1.1; omega⟩ ?_ ?_
    · rintro x σ' H3 hx ⟨L,o3,o4,o5,o6,rfl,s3,ga3,so3,cov3⟩
      rw [Jz];apply aJ (s3 _ _ g1) (nl (by decide +kernel)) ?_;apply ⟨p,s,cs,rs,rfl,hc.mono s3,?_⟩;apply ⟨_,rfl,by omega,by omega,?_⟩;rw [show ((rs.length:Int)+1+1).toNat=rs.length+2 by omega];refine cX (fun y σ' H'=>∃ (L:List Sm1) (o4 o5 o6:Option V),σ'=[some (.ref p),some (.ref lf),some (.ref ds),some (.int (x:Nat)),o4,o5,o6]/\ah H H'/\uC H' lf ds L/\dr cs rs L/\∀ q,cR cs rs q->nb cs rs q≠[]->(q.1<(x:Nat)\/(q.1=(x:Nat)/\q.2<(y:Nat)))->q∈bu L)
        ⟨L,o4,o5,o6,rfl,s3,ga3,so3,fun q hq hn h=>cov3 q hq hn (by have:=hq.2.1; omega)⟩ ?_ ?_
      · rintro y σ' H4 hy ⟨L,o4,o5,o6,rfl,s4,ga4,so4,cov4⟩
        rw [Jz];have hin:cR cs rs (((x:Nat):Int),((y:Nat):Int)):=⟨⟨by dsimp only; omega,by dsimp only; omega⟩,by dsimp only; omega,by dsimp only; omega⟩
        have nxt:∀ L',(∀ q∈bu L,q∈bu L')->(nb cs rs (((x:Nat):Int),((y:Nat):Int))≠[]->(((x:Nat):Int),((y:Nat):Int))∈bu L') ->
            ∀ q,cR cs rs q->nb cs rs q≠[]->(q.1<(x:Nat)\/(q.1=(x:Nat)/\q.2<((y+1:Nat):Int)))->q∈bu L':=fun L' sub hp q hq hn h=>by
          by_cases hh:q.1<(x:Nat)\/(q.1=(x:Nat)/\q.2<(y:Nat))
          · exact sub q (cov4 q hq hn hh)
          · have:q=(((x:Nat):Int),((y:Nat):Int)):=Fg (by show q.1=_; omega) (by show q.2=_; omega)
            rw [this] at hn ⊢; exact hp hn
        generalize ((y:Nat):Int)=yy at hin nxt ⊢;clear cov4;apply ⟨by show 2<=EF; decide,fun a na=>?_⟩;have s5:=ah.new (o:=HO.tup [V.int (x:Nat),V.int yy]) na;have ea:=af (H:=H4) (a:=a) (o:=HO.tup [V.int (x:Nat),V.int yy]);generalize upd H4 a (HO.tup [V.int (x:Nat),V.int yy])=H5 at s5 ea ⊢;have ga5:=ga4.mono s5;have s5:=s4.trans s5;obtain ⟨kvs,ed,ke⟩:=ga5.dct;apply ⟨ds,_,rfl,lD.t (k:=ky (((x:Nat):Int),yy)) ed ea,?_⟩;rw [ke.val];by_cases hm:(((x:Nat):Int),yy)∈bu L
        · rw [ba hm]
          apply ⟨rfl,?_⟩;rw [show (!decide (V.non=V.non))=false by simp];left;exact ⟨L,_,_,_,rfl,s5,ga5,so4,nxt L (fun q hq=>hq) fun _=>hm⟩
        · rw [bO hm]
          apply ⟨by show 2<=EF; decide,fun b nb=>?_⟩;have s6:=ah.new (o:=HO.tup [V.int (x:Nat),V.int yy]) nb;have eb:=af (H:=H5) (a:=b) (o:=HO.tup [V.int (x:Nat),V.int yy]);generalize upd H5 b (HO.tup [V.int (x:Nat),V.int yy])=H6 at s6 eb ⊢;have ga6:=ga5.mono s6;have s6:=s5.trans s6;clear ed ke kvs ga5 ga4;apply ⟨p,b,(((x:Nat):Int),yy),s,cs,rs,rfl,hc.mono s6,lc,lr,eb,hin,fun hz H7 s7=>?_,fun hz T l f zs M H7 s7 nT nl eT el td hq px=>?_⟩
          · apply ⟨rfl,?_⟩;rw [show (!decide (V.non=V.non))=false by simp];left;exact ⟨L,_,_,_,rfl,s6.trans s7,ga6.mono s7,so4,nxt L (fun q hq=>hq) fun h=>absurd hz h⟩
          · have ga7:=ga6.mono s7
            obtain ⟨ys,ef,pr⟩:=ga7.lst
            have nlf:l≠lf:=by
              intro z;obtain ⟨ys',ef',_⟩:=ga6.lst;rw [z,ef'] at nl; cases nl
            have s7:=s6.trans s7;have so7:=so4.add (e:=(f,M)) td hq hm;have hsub:∀ q∈bu L,q∈bu (L++[(f,M)]):=fun q hq=>by rw [bQ]; exact E1 _ hq
            have hme:(((x:Nat):Int),yy)∈bu (L++[(f,M)]):=by rw [bQ]; exact ED _ hq
            apply ⟨rfl,?_⟩;rw [show (!decide (V.ref T=V.non))=true by simp];apply bS ef ?_;left;have ly:ys.length<=1681:=by rw [pr.1]; exact (so4.few lc lr).2
            refine aW ef (aQ (by omega)) ?_;have pr8:=(pr.lst (o:=.lst (ys++[V.ref T])) ef).snoc (e:=(f,M)) (SeV.lst (o:=.lst (ys++[V.ref T])) ⟨T,l,zs,rfl,nlf,eT,el,px⟩ ef);have ef8:=af (H:=H7) (a:=lf) (o:=.lst (ys++[V.ref T]));obtain ⟨kvs,ed,ke⟩:=ga7.dct;have ed8:upd H7 lf (.lst (ys++[V.ref T])) ds=some (.dT kvs):=(aj (cg ed ef (by intro z; cases z))).trans ed;have s8:=s7.later (o:=.lst (ys++[V.ref T])) nf;have el8:upd H7 lf (.lst (ys++[V.ref T])) l=some (.lst zs):=(aj nlf).trans el;have px8:=px.upd (o:=.lst (ys++[V.ref T])) ef (by intro ys z; cases z);have eT8:upd H7 lf (.lst (ys++[V.ref T])) T=_:=(aj (cg eT ef (by intro z; cases z))).trans eT;generalize upd H7 lf (.lst (ys++[V.ref T]))=H8 at pr8 ef8 ed8 s8 el8 px8 eT8 ⊢;clear ga7 ga6 ef ed el pr s7 s6 eT ea eb px;apply aR (SqT.of eT8) (v:=.ref l) rfl ?_;apply ⟨⟨_,SqL.of el8⟩,?_⟩;have nd8:(bu L++M).Nodup:=by have:=so7.nd; rwa [bQ] at this
            have fw:=(so7.few lc lr).1;rw [bQ,Bd] at fw;dsimp only at fw;refine i4 (K:=K) (a:=l) (xs:=zs) (fun i σ' H'=>∃ (o6:Option V) (kvs:List (List Key×V)),σ'=[some (.ref p),some (.ref lf),some (.ref ds),some (.int (x:Nat)),some (.int yy),some (.ref T),o6]/\ah H H'/\H' lf=some (.lst (ys++[V.ref T]))/\PwS H' lf (ys++[V.ref T]) (L++[(f,M)]) /\
                H' l=some (.lst zs)/\au H' zs M/\H' ds=some (.dT kvs)/\cB kvs (bu L++M.take i))
              ⟨_,kvs,rfl,s8,ef8,pr8,el8,px8,ed8,by rw [G4,ET]; exact ke⟩ (fun i σ' H' _ ⟨_,_,_,_,_,_,z,_⟩=>SqL.of z) ?_ ?_
            · rintro i v σ' H9 hv ⟨o6,kvs,rfl,s9,ef9,pr9,el9,px9,ed9,ke9⟩
              have hi:i<zs.length:=(Bc.mp hv).1;have hi':i<M.length:=by rw [<- px9.1]; exact hi
              obtain ⟨q,hq⟩:∃ q,M[i]?=some q:=⟨_,ς hi'⟩
              obtain ⟨c,rfl,hc⟩:=px9.2 i v q hv hq;have ht:M.take (i+1)=M.take i++[q]:=by rw [Gn,hq]; rfl
              have nq:q∉bu L++M.take i:=by
                have h1:(bu L++M.take (i+1)).Nodup:=by
                  rw [FZ] at nd8 ⊢;refine ⟨nd8.1,nd8.2.1.sublist (FW _ _),fun a ha b hb=>nd8.2.2 a ha b (E6 hb)⟩
                rw [ht,<- EI,FZ] at h1;exact fun z=>h1.2.2 q z q (by simp) rfl
              apply ⟨ds,_,rfl,qY.t (k:=ky q) ed9 hc ?_,?_⟩
              · have:=ke9.len
                rw [Bd,E7] at this;exact aQ (by omega)
              have ke10:=ke9.put (v:=.bl true) nq;rw [EI,<- ht] at ke10;exact ⟨_,_,rfl,s9.later (o:=.dT _) nds,(aj (cg ef9 ed9 (by intro z; cases z))).trans ef9,pr9.dct ed9,(aj (cg el9 ed9 (by intro z; cases z))).trans el9,px9.upd ed9 (by intro ys z; cases z),af,ke10⟩
            · rintro σ' H9 ⟨o6,kvs,rfl,s9,ef9,pr9,el9,px9,ed9,ke9⟩
              rw [EN (by rw [px9.1]; exact A_ _)] at ke9;exact ⟨L++[(f,M)],_,_,_,rfl,s9,⟨⟨_,ef9,pr9⟩,⟨kvs,ed9,by rw [bQ]; exact ke9⟩⟩,so7,nxt _ hsub fun _=>hme⟩
      · rintro σ' H4 ⟨L,o4,o5,o6,rfl,s4,ga4,so4,cov4⟩
        refine ⟨L,_,_,_,_,rfl,s4,ga4,so4,fun q hq hn h=>cov4 q hq hn ?_⟩;have h2:=hq.2.2;by_cases hh:q.1<(x:Nat)
        · exact .inl hh
        · exact .inr ⟨by omega,by omega⟩
    · rintro σ' H3 ⟨L,o3,o4,o5,o6,rfl,s3,ga3,so3,cov3⟩
      obtain ⟨xs,ef,px⟩:=ga3.lst;apply vJ ?_;left;have px':=px.mem;have hh:∀ v∈xs,∃ (T l b:Ω) (ys:List V),v=.ref T/\H3 T=some (.tup [.bl (eU H3 v).1,.ref l])/\H3 l=some (.lst (.ref b::ys))/\H3 b=some (.tup [.int (hd (eU H3 v)).1,.int (hd (eU H3 v)).2]):=fun v hv=>by
        obtain ⟨⟨T,l,ys,h1,_,h3,h4,h5⟩,h6⟩:=px' v hv;obtain ⟨a,b,m,ee,_⟩:=(so3.told _ h6).path;rw [ee] at h5;obtain ⟨v',r,e,hv',_⟩:=h5.inv;obtain ⟨c,rfl,hc⟩:=hv';refine ⟨T,l,c,r,h1,h3,by rw [<- e]; exact h4,?_⟩;unfold hd; rw [ee]; exact hc
      refine ⟨lf,xs,fun v=>hd (eU H3 v),rfl,SqL.of ef,fun v hv=>?_,fun v hv H4 Q1 s4 k1=>?_,fun l ys H4 s4 nl el pm pw=>?_⟩
      · obtain ⟨T,_,_,_,e,_⟩:=hh v hv
        exact ⟨T,e⟩
      · obtain ⟨T,l,b,ys,e,h1,h2,h3⟩:=hh v hv
        exact ⟨T,l,_,_,ys,by rw [e],s4 _ _ h1,s4 _ _ h2,k1 _ _ (ah.refl _) ⟨b,rfl,s4 _ _ h3⟩⟩
      · left
        have hm:∀ v∈ys,SeV H4 l v (eU H3 v):=fun v hv=>by
          obtain ⟨⟨T,l',ys',h1,h2,h3,h4,h5⟩,_⟩:=px' v (pm.mem_iff.mp hv);refine ⟨T,l',ys',h1,?_,s4 _ _ h3,s4 _ _ h4,h5.mono s4⟩;intro z; rw [z,nl] at h4; cases h4
        have pws:PwS H4 l ys (ys.map (eU H3)):=by
          have e:ys.map (eU H3)=ys.map (eU H4):=GK fun v hv=>(hm v hv).of.symm;rw [e];exact yh fun v hv=>by rw [(hm v hv).of]; exact hm v hv
        have pL:(ys.map (eU H3)).Perm L:=by
          have:=pm.map (eU H3)
          rwa [px.map] at this
        refine k l ys _ H4 (s3.trans s4) (s3.free nl) el ⟨so3.perm pL,fun q hq hn=>?_,?_⟩ pws
        · exact (i3 pL).mem_iff.mpr (cov3 q hq hn (by have:=hq.1.2; omega))
        · rw [FY]
          exact pw
def Sm (z:Int):Prop:=-1000000000000000000<z/\z<1000000000000000000
theorem jM {zs:List Int} {z:Int} (h:∀ y∈zs,Sm y) (hz:Sm z):∀ y∈zs++[z],Sm y:=fun y hy=>by
 rcases EG.mp hy with q | q
 ·exact h y q
 ·rw [Ξ.mp q]; exact hz
theorem su (r:Int) {m:Int} (h0:0<m) (h1:m<=1000003):Sm (r%m):=by
 have:=Ho r (by omega:m≠0)
 have:=Kf r h0
 unfold Sm; omega
def sp_aB (K:W.Frag):Sp:=fun vs H Q _=>∃ (a:Ω) (m:Nat) (ns:List Int),vs=[.ref a,.int m]/\SqL K H a (ns.map V.int)/\ns.length<=63/\m<=200 /\
 ∀ (l:Ω) (zs:List Int) (H':Hp),ah H H'->H' l=some (.lst (zs.map V.int))->m<=zs.length->zs.length<=300->(∀ z∈zs,Sm z)->Q (.ref l) H'
theorem fR (zs:List Int) (z:Int):zs.map V.int++[V.int z]=(zs++[z]).map V.int:=by simp
theorem ok_aB (T:Txt K mg t):aP P w K mg base CX0 1 t.f_aB t.d_aB ["_law_script","_law_many"] (sp_aB K):=by
 refine T.F_aB.ok sc_aB (by walk_at "l") (fun _ _ _ s H vs Q E hr h=>?_)
 ·obtain ⟨a,m,ns,rfl,hS,hl,hm,k⟩:=h;refine aM (aO 2 sc_aB.nd (cw ae)) fun _ _=>aM (aO 3 sc_aB.nd ag) fun _ _=>aM (cZ FI rfl (bK (pv 0)) (aG (i:=4) sc_aB.nd rfl (Fp rfl)) (aL (aO 3 sc_aB.nd (aA bU (aA a7 (aA fE (pv 3) ag) (pv 4)) ag)) (aL (aO 5 sc_aB.nd (aq B1 rfl T.no_abs (by rfl) (aa (pv 4) ae))) (aL (aY (bB dw (pv 5) (aA Cr ag ag)) (aL (bC (cU Em Eu Et a8 (pv 2) (aa (pv 4) ae))) (ai (aO 5 sc_aB.nd ag))) aD) (ai (fU FI (PW.pt (fV (bB By (pv 5) ag) (eD (bB dw (aq (bp K rfl) rfl T.no_len (by rfl) (aa (pv 2) ae)) (pv 1))))) (aL (bC (cU Em Eu Et a8 (pv 2) (aa (aA bU (pv 5) ag) ae))) (ai (aO 5 sc_aB.nd (aA tV (pv 5) ag)))))))))) fun _ _=>aM (fU FI (bB dw (aq (bp K rfl) rfl T.no_len (by rfl) (aa (pv 2) ae)) (pv 1)) (aL (aO 3 sc_aB.nd (aA bU (aA a7 (aA fE (pv 3) ag) ag) ag)) (ai (bC (cU Em Eu Et a8 (pv 2) (aa (aA bU (aA fE (pv 3) (pv 3)) ag) ae)))))) fun _ _=>dy (aC (pv 2)) fun _ _=>?_;apply ⟨En _,fun l hn=>?_⟩;left;have hz:∀ {zs:List Int},zs.length<=300->(zs.map V.int).length<sizeLine:=fun h=>by rw [Aj]; exact fm (by omega)
  refine ⟨⟨_,(ah.new hn).seq hS⟩,i4 (K:=K) (a:=a) (xs:=ns.map V.int) (fun i σ' H'=>∃ (zs:List Int) (mix:Int) (c r:Option V),σ'=[some (.ref a),some (.int m),some (.ref l),some (.int mix),c,r]/\ah H H'/\H' l=some (.lst (zs.map V.int))/\zs.length<=i+m/\∀ z∈zs,Sm z)
   ⟨[],1,none,none,rfl,ah.new hn,af,En _,fun z hz=>by cases hz⟩ (fun i σ' H' _ ⟨_,_,_,_,_,s,_⟩=>s.seq hS) ?_ ?_⟩
  ·rintro i y σ' H' hi ⟨zs,mix,c,r,rfl,s1,e1,lz,sm⟩;have hil:i<ns.length:=by have:=(Bc.mp hi).1; rwa [Aj] at this
   obtain ⟨z,rfl⟩:∃ z,y=V.int z:=by
    rw [EX] at hi
    cases e:ns[i]? with
    | none=>rw [e] at hi; cases hi
    | some z=>rw [e] at hi; exact ⟨z,(Ez hi).symm⟩
   apply bZ (.inr ⟨by decide,by decide⟩) ?_;apply bZ (by decide) ?_;apply bZ ⟨by decide,by decide,by decide⟩ ?_;apply jZ (fun hc=>?_) (fun _=>?_)
   ·have hc:=of_decide_eq_true hc
    have hcz:Sm z:=by
     unfold Sm;have e18:(10:Int) ^ 18=1000000000000000000:=by decide
     by_cases hz0:z<0
     ·rw [if_pos hz0] at hc; change -z<(10:Int) ^ 18 at hc; omega
     ·rw [if_neg hz0] at hc; change z<(10:Int) ^ 18 at hc; omega
    apply bS e1 ?_;apply aW e1 (hz (by omega)) ?_;rw [fR];apply ⟨fun n σ' H'=>∃ (zs:List Int) (mix:Int) (r:Int),σ'=[some (.ref a),some (.int m),some (.ref l),some (.int mix),some (.int z),some (.int r)]/\ah H H'/\H' l=some (.lst (zs.map V.int))/\zs.length<=i+1+m/\n=m - zs.length/\∀ z∈zs,Sm z,
     ⟨_,zs++[z],_,_,rfl,s1.later hn,af,by rw [Bd,EL]; omega,rfl,jM sm hcz⟩,?_⟩
    rintro n σ' H' ⟨zs,mix,r,rfl,s1,e1,lz,rfl,sm⟩;apply jZ (fun _=>?_) (fun _=>?_)
    ·apply bq e1 ?_;left;rw [Aj];refine jZ (fun h2=>?_) (fun h2=>?_)
     ·have h2:=of_decide_eq_true h2;refine ⟨fun σ' H'=>∃ (zs':List Int) (mix:Int) (r:Int),σ'=[some (.ref a),some (.int m),some (.ref l),some (.int mix),some (.int z),some (.int r)]/\ah H H'/\H' l=some (.lst (zs'.map V.int))/\zs'.length=zs.length+1/\∀ z∈zs',Sm z,?_,?_⟩
      ·rintro σ' H' ⟨zs',mix,r,rfl,s1,e1,lz',sm'⟩;exact ⟨m - zs'.length,by omega,zs',mix,r,rfl,s1,e1,by omega,rfl,sm'⟩
      ·apply bS e1 ?_;apply bZ (by decide) ?_;apply aW e1 (hz (by omega)) ?_;rw [fR];apply bZ ⟨by decide,by decide⟩ ?_;left;exact ⟨zs++[r%1000003],mix,_,rfl,s1.later hn,af,by rw [Bd,EL],jM sm (su r (by decide) (by decide))⟩
     ·left;exact ⟨zs,mix,_,_,rfl,s1,e1,lz,sm⟩
    ·left;exact ⟨zs,mix,_,_,rfl,s1,e1,lz,sm⟩
   ·apply ⟨fun n σ' H'=>∃ (zs:List Int) (mix:Int) (r:Int),σ'=[some (.ref a),some (.int m),some (.ref l),some (.int mix),some (.int z),some (.int r)]/\ah H H'/\H' l=some (.lst (zs.map V.int))/\zs.length<=i+1+m/\n=m - zs.length/\∀ z∈zs,Sm z,
     ⟨_,zs,_,_,rfl,s1,e1,by omega,rfl,sm⟩,?_⟩
    rintro n σ' H' ⟨zs,mix,r,rfl,s1,e1,lz,rfl,sm⟩;apply jZ (fun _=>?_) (fun _=>?_)
    ·apply bq e1 ?_;left;rw [Aj];refine jZ (fun h2=>?_) (fun h2=>?_)
     ·have h2:=of_decide_eq_true h2;refine ⟨fun σ' H'=>∃ (zs':List Int) (mix:Int) (r:Int),σ'=[some (.ref a),some (.int m),some (.ref l),some (.int mix),some (.int z),some (.int r)]/\ah H H'/\H' l=some (.lst (zs'.map V.int))/\zs'.length=zs.length+1/\∀ z∈zs',Sm z,?_,?_⟩
      ·rintro σ' H' ⟨zs',mix,r,rfl,s1,e1,lz',sm'⟩;exact ⟨m - zs'.length,by omega,zs',mix,r,rfl,s1,e1,by omega,rfl,sm'⟩
      ·apply bS e1 ?_;apply bZ (by decide) ?_;apply aW e1 (hz (by omega)) ?_;rw [fR];apply bZ ⟨by decide,by decide⟩ ?_;left;exact ⟨zs++[r%1000003],mix,_,rfl,s1.later hn,af,by rw [Bd,EL],jM sm (su r (by decide) (by decide))⟩
     ·left;exact ⟨zs,mix,_,_,rfl,s1,e1,lz,sm⟩
    ·left;exact ⟨zs,mix,_,_,rfl,s1,e1,lz,sm⟩
  ·rintro σ' H' ⟨zs,mix,c,r,rfl,s1,e1,lz,sm⟩;rw [Aj] at lz;apply ⟨fun n σ' H'=>∃ (zs:List Int) (mix:Int),σ'=[some (.ref a),some (.int m),some (.ref l),some (.int mix),c,r]/\(-(2 ^ 64)<mix/\mix<2 ^ 64\/True)/\ah H H'/\H' l=some (.lst (zs.map V.int))/\zs.length<=300/\n=m - zs.length/\∀ z∈zs,Sm z,
    ⟨_,zs,mix,rfl,.inr trivial,s1,e1,by omega,rfl,sm⟩,?_⟩
   rintro n σ' H' ⟨zs,mix,rfl,_,s1,e1,lz,rfl,sm⟩;apply bq e1 ?_;left;rw [Aj];refine jZ (fun h2=>?_) (fun h2=>?_)
   ·have h2:=of_decide_eq_true h2;refine ⟨fun σ' H'=>∃ (zs':List Int) (mix:Int),σ'=[some (.ref a),some (.int m),some (.ref l),some (.int mix),c,r]/\ah H H'/\H' l=some (.lst (zs'.map V.int))/\zs'.length=zs.length+1/\∀ z∈zs',Sm z,?_,?_⟩
    ·rintro σ' H' ⟨zs',mix,rfl,s1,e1,lz',sm'⟩;exact ⟨m - zs'.length,by omega,zs',mix,rfl,.inr trivial,s1,e1,by omega,rfl,sm'⟩
    ·apply bZ (.inr ⟨by decide,by decide⟩) ?_;apply bZ (by decide) ?_;apply bS e1 ?_;apply bZ (.inl ⟨by omega,by omega⟩) ?_;apply bZ (by decide) ?_;apply aW e1 (hz (by omega)) ?_;rw [fR];left;exact ⟨zs++[_],_,rfl,s1.later hn,af,by rw [Bd,EL],jM sm (su _ (by decide) (by decide))⟩
   ·have h2:¬ ((zs.length:Int)<m):=fun z=>h2 (ba z);left;exact k l zs H' s1 e1 (by omega) (by omega) sm
def sp_aV:Sp:=fun vs H Q _=>∃ (n:Int) (m:Nat),vs=[.int n,.int m]/\m<=100/\∀ (l:Ω) (bs:List Int) (H':Hp),ah H H'->H' l=some (.lst (bs.map V.int))->bs.length=m->(∀ z∈bs,z=0\/z=1)->Q (.ref l) H'
theorem jB {a b:Int} (ha:0<=a) (hb:0<b):a%b<=a:=by
 obtain ⟨m,rfl⟩:=L_ ha;obtain ⟨n,rfl⟩:=L_ (Int.le_of_lt hb);rw [<- Int.natCast_emod];exact Int.ofNat_le.mpr (Nat.mod_le _ _)
theorem Dv (n:Int):n%2=0\/n%2=1:=by omega
theorem ok_aV (T:Txt K mg t):aP P w K mg base CX0 1 t.f_aV t.d_aV ["_law_number","_law_many"] sp_aV:=by
 refine T.F_aV.ok sc_aV (by walk_at "l") (fun _ _ _ s H vs Q E hr h=>?_)
 ·obtain ⟨n,m,rfl,hm,k⟩:=h;refine aM (aO 2 sc_aV.nd (cw ae)) fun _ _=>aM (cZ FI rfl (cY rfl T.no_au (aa (pv 1) ae)) (aG (i:=3) sc_aV.nd rfl (Fp rfl)) (aL (bC (cU Em Eu Et a8 (pv 2) (aa (aA bU (pv 0) ag) ae))) (ai (aO 0 sc_aV.nd (aA tV (pv 0) ag))))) fun _ _=>dy (aC (pv 2)) fun _ _=>?_;apply ⟨En _,fun l hn=>?_⟩;apply ⟨m,rfl,by omega,by omega,?_⟩;rw [Gb];refine cX (fun i σ' H'=>∃ (n:Int) (bs:List Int) (c:Option V),σ'=[some (.int n),some (.int m),some (.ref l),c]/\ah H H'/\H' l=some (.lst (bs.map V.int))/\bs.length=i/\∀ z∈bs,z=0\/z=1)
   ⟨n,[],none,rfl,ah.new hn,af,rfl,fun z hz=>by cases hz⟩ ?_ ?_
  ·rintro i σ' H' hi ⟨n,bs,c,rfl,s1,e1,lb,hb⟩;apply bS e1 ?_;apply bZ (by decide) ?_;apply aW e1 (by rw [Aj]; exact fm (by omega)) ?_;rw [fR];apply bZ ⟨by decide,by decide⟩ ?_;apply ⟨_,bs++[n%2],_,rfl,s1.later hn,af,by rw [Bd,EL]; omega,fun z hz=>?_⟩;rcases EG.mp hz with h | h
   ·exact hb z h
   ·rw [Ξ.mp h]; exact Dv n
  ·rintro σ' H' ⟨n,bs,c,rfl,s1,e1,lb,hb⟩;left;exact k l bs H' s1 e1 lb hb
def sp_a1:Sp:=fun vs H Q _=>∃ (a:Ω) (m:Nat) (zs:List Int),vs=[.ref a,.int m]/\H a=some (.lst (zs.map V.int))/\4<=zs.length/\m<=100/\∀ (l:Ω) (bs:List Int) (H':Hp),ah H H'->H' l=some (.lst (bs.map V.int))->bs.length=m->(∀ z∈bs,z=0\/z=1)->Q (.ref l) H'
theorem ok_a1 (T:Txt K mg t):aP P w K mg base CX0 2 t.f_a1 t.d_a1 ["_law_some","_law_many"] sp_a1:=by
 refine T.F_a1.ok sc_a1 (by walk_at "l") (fun _ _ _ s H vs Q E hr h=>?_)
 ·obtain ⟨a,m,zs,rfl,ha,hl,hm,k⟩:=h;refine aM (aO 2 sc_a1.nd (aA a7 (aA a7 (ay (ar K rfl) (pv 0) ag) (aA fE ag (ay (ar K rfl) (pv 0) ag))) (aA fE (aA fE ag ag) (ay (ar K rfl) (pv 0) ag)))) fun _ _=>aM (aY (bB dh (aA bU (ay (ar K rfl) (pv 0) ag) ag) ag) (ai (aO 2 sc_a1.nd (cA bN (aA bU (ay (ar K rfl) (pv 0) ag) ag)))) aD) fun _ _=>aM (fG (i:=3) sc_a1.nd rfl (JW rfl) (ao (ok_aV T) (rmo hr) rfl T.mg_aV T.F_aV.kp T.b_aV .nil aB (aa (pv 2) (aa (pv 1) ae)))) fun _ _=>aM (aY (bB dh (aA bU (ay (ar K rfl) (pv 0) ag) ag) ag) (ai (fG (i:=3) sc_a1.nd rfl (JW rfl) (bW (N:=["_law_k","_law_row_here","_law_some"]) (cap:=[none,some 3,some 0]) rfl ⟨rfl,rfl,rfl,rfl,rfl,rfl⟩ (cY rfl T.no_au (aa (pv 1) ae)) (fun _ _ _=>(aG (i:=0) (show (["_law_k","_law_row_here","_law_some"]:List Str).Nodup by decide +kernel) rfl (Fp rfl))) (fun _ _ _=>bX) (fun _ _ _=>(ay (ar K rfl) (pv 1) (aA bU (pv 0) (aA a7 ag (aA bU (ay (ar K rfl) (pv 2) ag) ag)))))))) aD) fun _ _=>dy (aC (pv 3)) fun _ _=>?_;have I0:atI (zs.map V.int) 0=_:=bE (by decide) (by omega);have I1:atI (zs.map V.int) 1=_:=bE (by decide) (by omega);have I2:atI (zs.map V.int) 2=_:=bE (by decide) (by omega);have I3:atI (zs.map V.int) 3=_:=bE (by decide) (by omega);generalize zs.getD (0:Int).toNat 0=z0 at I0;generalize zs.getD (1:Int).toNat 0=z1 at I1;generalize zs.getD (2:Int).toNat 0=z2 at I2;generalize zs.getD (3:Int).toNat 0=z3 at I3
  -- behind the raw number: the bits,and the pattern
  apply aE (SqL.of ha) I0 ?_;apply aE (SqL.of ha) I1 ?_;apply bZ (.inl ⟨by decide,by decide⟩) ?_;apply bZ (.inl ⟨by decide,by decide⟩) ?_;apply aE (SqL.of ha) I2 ?_;apply bZ (.inl ⟨by decide,by decide⟩) ?_;apply aE (SqL.of ha) I3 ?_;apply bZ (by decide) ?_;apply jZ (fun _=>?_) (fun _=>?_)
  ·apply aE (SqL.of ha) I0 ?_;apply bZ (by decide) ?_;apply ⟨_,m,rfl,hm,fun l bs H1 s1 e1 lb hb=>?_⟩;apply aE (SqL.of (s1 _ _ ha)) I3 ?_;apply bZ (by decide) ?_;apply jZ (fun _=>?_) (fun _=>?_)
   ·apply ⟨m,rfl,by omega,by omega,fun l2 hn=>?_⟩;rw [Gb];refine jh (fun i=>.int (bs.getD (((0:Int)+(i:Nat))%(1+z1%4)).toNat 0)) (by omega) hn (fun i o H' Q' hi s2 q=>?_) (fun H' s2 e2=>?_)
    ·apply aE (SqL.of (s2 _ _ (s1 _ _ ha))) I1 ?_;apply bZ (by decide) ?_;left;have p1:0<1+z1%4:=by omega
     refine bZ p1 ?_;left;have q0:=Ho ((0:Int)+(i:Nat)) (by omega:1+z1%4≠0);have q1:((0:Int)+(i:Nat))%(1+z1%4)<=(0:Int)+(i:Nat):=jB (by omega) (by omega);refine aE (SqL.of (s2 _ _ e1)) (bE q0 (by omega)) ?_;exact q H' (ah.refl _)
    ·apply k l2 ((FG m).map fun i=>bs.getD (((0:Int)+(i:Nat))%(1+z1%4)).toNat 0) H' (s1.trans s2) (by rw [e2,FP]; rfl) (by rw [Aj,GL]) fun z hz=>?_;obtain ⟨i,hi,rfl⟩:=EE.mp hz;have hi:=FE.mp hi;have q0:=Ho ((0:Int)+(i:Nat)) (by omega:1+z1%4≠0);have q1:((0:Int)+(i:Nat))%(1+z1%4)<=(0:Int)+(i:Nat):=jB (by omega) (by omega);exact hb _ (L2.getD_mem (by omega))
   ·left;exact k l bs H1 s1 e1 lb hb
  ·apply ⟨_,m,rfl,hm,fun l bs H1 s1 e1 lb hb=>?_⟩;apply aE (SqL.of (s1 _ _ ha)) I3 ?_;apply bZ (by decide) ?_;apply jZ (fun _=>?_) (fun _=>?_)
   ·apply ⟨m,rfl,by omega,by omega,fun l2 hn=>?_⟩;rw [Gb];refine jh (fun i=>.int (bs.getD (((0:Int)+(i:Nat))%(1+z1%4)).toNat 0)) (by omega) hn (fun i o H' Q' hi s2 q=>?_) (fun H' s2 e2=>?_)
    ·apply aE (SqL.of (s2 _ _ (s1 _ _ ha))) I1 ?_;apply bZ (by decide) ?_;left;have p1:0<1+z1%4:=by omega
     refine bZ p1 ?_;left;have q0:=Ho ((0:Int)+(i:Nat)) (by omega:1+z1%4≠0);have q1:((0:Int)+(i:Nat))%(1+z1%4)<=(0:Int)+(i:Nat):=jB (by omega) (by omega);refine aE (SqL.of (s2 _ _ e1)) (bE q0 (by omega)) ?_;exact q H' (ah.refl _)
    ·apply k l2 ((FG m).map fun i=>bs.getD (((0:Int)+(i:Nat))%(1+z1%4)).toNat 0) H' (s1.trans s2) (by rw [e2,FP]; rfl) (by rw [Aj,GL]) fun z hz=>?_;obtain ⟨i,hi,rfl⟩:=EE.mp hz;have hi:=FE.mp hi;have q0:=Ho ((0:Int)+(i:Nat)) (by omega:1+z1%4≠0);have q1:((0:Int)+(i:Nat))%(1+z1%4)<=(0:Int)+(i:Nat):=jB (by omega) (by omega);exact hb _ (L2.getD_mem (by omega))
   ·left;exact k l bs H1 s1 e1 lb hb
structure eK (tupl:Bool) (H:Hp) (p:Ω) (s:Int) (cs rs:List Int):Prop where
 ob:∃ c r,H p=some (if tupl then .tup [.int s,.ref c,.ref r] else .lst [.int s,.ref c,.ref r])/\H c=some (.lst (cs.map V.int))/\H r=some (.lst (rs.map V.int))
 sh:s=0\/s=1
 bc:cQ cs
 br:cQ rs
theorem eK.mono {b:Bool} {H H':Hp} {p:Ω} {s:Int} {cs rs:List Int} (e:ah H H') (c:eK b H p s cs rs):eK b H' p s cs rs:=by
 obtain ⟨⟨a,b,h1,h2,h3⟩,x,y,z⟩:=c;exact ⟨⟨a,b,e _ _ h1,e _ _ h2,e _ _ h3⟩,x,y,z⟩
def sp_aX:Sp:=fun vs H Q _=>∃ (a:Ω) (zs:List Int),vs=[.ref a]/\H a=some (.lst (zs.map V.int))/\12<=zs.length/\∀ p s cs rs H',ah H H'->eK true H' p s cs rs->Q (.ref p) H'
theorem xY (i:Int):0<([9,9,16,40,6]:List Int).getD (i%5).toNat 0/\([9,9,16,40,6]:List Int).getD (i%5).toNat 0<=40:=by
 have h:=L2.getD_mem (zs:=([9,9,16,40,6]:List Int)) (k:=(i%5).toNat) (d:=0) (by simp; omega);symm at h;rcases h with h | h | h | h | h<;>rw [h]<;>decide
theorem xZ (i:Int):0<([9,16,16,6,40]:List Int).getD (i%5).toNat 0/\([9,16,16,6,40]:List Int).getD (i%5).toNat 0<=40:=by
 have h:=L2.getD_mem (zs:=([9,16,16,6,40]:List Int)) (k:=(i%5).toNat) (d:=0) (by simp; omega);symm at h;rcases h with h | h | h | h | h<;>rw [h]<;>decide
theorem ok_aX (T:Txt K mg t):aP P w K mg base CX0 3 t.f_aX t.d_aX ["_law_some"] sp_aX:=by
 refine T.F_aX.ok sc_aX (by walk_at "l") (fun _ _ _ s H vs Q E hr h=>?_)
 ·obtain ⟨a,zs,rfl,ha,hl,k⟩:=h;refine aM (aO 1 sc_aX.nd (aA a7 ag (aA bU (ay (ar K rfl) (pv 0) ag) (ay (ar K rfl) (cw (aa ag (aa ag (aa ag (aa ag (aa ag ae)))))) (aA bU (ay (ar K rfl) (pv 0) ag) ag))))) fun _ _=>aM (aO 2 sc_aX.nd (aA a7 ag (aA bU (ay (ar K rfl) (pv 0) ag) (ay (ar K rfl) (cw (aa ag (aa ag (aa ag (aa ag (aa ag ae)))))) (aA bU (ay (ar K rfl) (pv 0) ag) ag))))) fun _ _=>dy (aC (bw (aa (aA bU (ay (ar K rfl) (pv 0) ag) ag) (aa (ao (ok_a1 T) (rmo hr) rfl T.mg_a1 T.F_a1.kp T.b_a1 .nil aB (aa (dM (gu K rfl) (pv 0) (cE ag) fF) (aa (aA bV (pv 1) ag) ae))) (aa (ao (ok_a1 T) (rmo hr) rfl T.mg_a1 T.F_a1.kp T.b_a1 .nil aB (aa (dM (gu K rfl) (pv 0) (cE ag) fF) (aa (aA bV (pv 2) ag) ae))) ae))))) fun _ _=>?_;have I0:atI (zs.map V.int) 0=_:=bE (by decide) (by omega);have I1:atI (zs.map V.int) 1=_:=bE (by decide) (by omega);have I2:atI (zs.map V.int) 2=_:=bE (by decide) (by omega);have I3:atI (zs.map V.int) 3=_:=bE (by decide) (by omega);generalize zs.getD (0:Int).toNat 0=z0 at I0;generalize zs.getD (1:Int).toNat 0=z1 at I1;generalize zs.getD (2:Int).toNat 0=z2 at I2;generalize zs.getD (3:Int).toNat 0=z3 at I3;have m0:0<=z0%5:=by omega
  have m5:z0%5<5:=by omega
  apply aE (SqL.of ha) I1 ?_;apply ⟨by show 5<=EF; decide,fun l1 n1=>?_⟩;have s1:=ah.new (o:=HO.lst (([9,9,16,40,6]:List Int).map V.int)) n1;apply aE (SqL.of (s1 _ _ ha)) I0 ?_;apply bZ (by decide) ?_;apply aE (SqL.of (xs:=([9,9,16,40,6]:List Int).map V.int) af) (bE m0 m5) ?_;apply bZ (xY z0).1 ?_;apply aE (SqL.of (s1 _ _ ha)) I2 ?_;apply ⟨by show 5<=EF; decide,fun l2 n2=>?_⟩;have s2:=ah.new (o:=HO.lst (([9,16,16,6,40]:List Int).map V.int)) n2;apply aE (SqL.of (s2 _ _ (s1 _ _ ha))) I0 ?_;apply bZ (by decide) ?_;apply aE (SqL.of (xs:=([9,16,16,6,40]:List Int).map V.int) af) (bE m0 m5) ?_;apply bZ (xZ z0).1 ?_;left;have ha2:=s2 _ _ (s1 _ _ ha);refine aE (SqL.of ha2) I3 ?_;apply bZ (by decide) ?_;left;have va:=xY z0;have vb:=xZ z0;generalize ([9,9,16,40,6]:List Int).getD (z0%5).toNat 0=va' at va ⊢;generalize ([9,16,16,6,40]:List Int).getD (z0%5).toNat 0=vb' at vb ⊢;have wa0:=Ho z1 (by omega:va'≠0);have wa1:=Kf z1 va.1;have wb0:=Ho z2 (by omega:vb'≠0);have wb1:=Kf z2 vb.1;refine kG ha2 fun l3 n3=>?_;have s3:=ah.new (o:=HO.lst (dY (zs.map V.int) (some 4) none)) n3;apply ⟨l3,(z1%va').toNat,zs.drop 4,(by show [V.ref l3,V.int (1+z1%va' - 1)]=_; rw [show (1+z1%va' - 1:Int)=(((z1%va').toNat:Nat):Int) by omega]),by rw [af]; exact congrArg (fun x=>some (HO.lst x)) (mi (k:=4)),by rw [Fb]; omega,by omega,fun c cs H1 s4 ec lc bc=>?_⟩;left;have ha4:=s4 _ _ (s3 _ _ ha2);refine kG ha4 fun l5 n5=>?_;have s5:=ah.new (o:=HO.lst (dY (zs.map V.int) (some 8) none)) n5;apply ⟨l5,(z2%vb').toNat,zs.drop 8,(by show [V.ref l5,V.int (1+z2%vb' - 1)]=_; rw [show (1+z2%vb' - 1:Int)=(((z2%vb').toNat:Nat):Int) by omega]),by rw [af]; exact congrArg (fun x=>some (HO.lst x)) (mi (k:=8)),by rw [Fb]; omega,by omega,fun r rs H2 s6 er lr br=>?_⟩;apply ⟨by show 3<=EF; decide,fun p hp=>?_⟩;have s7:=ah.new (o:=HO.tup [V.int (z3%2),V.ref c,V.ref r]) hp;exact k p (z3%2) cs rs _ (s1.trans (s2.trans (s3.trans (s4.trans (s5.trans (s6.trans s7)))))) ⟨⟨c,r,af,s7 _ _ (s6 _ _ (s5 _ _ ec)),s7 _ _ er⟩,Dv z3,⟨by omega,bc⟩,⟨by omega,br⟩⟩
def sp_aZ (C:Ω):Sp:=fun vs H Q _=>∃ (p:Ω) (b:Bool) (s:Int) (cs rs:List Int),vs=[.ref p]/\eK b H p s cs rs/\∀ x H',ah H H'->aI C H' x s cs rs->Q (.ref x) H'
theorem ok_aZ (T:Txt K mg t):aP P w K mg base CX0 8 t.f_aZ t.d_aZ ["_law_plan_here"] (sp_aZ t.a_aa):=by
 refine T.F_aZ.ok sc_aZ (by walk_at "l") (fun _ _ _ s H vs Q E hr h=>?_)
 ·obtain ⟨p,b,s,cs,rs,rfl,pl,k⟩:=h;obtain ⟨⟨c,r,hp,hc,hr'⟩,sh,bc,br⟩:=id pl;refine ⟨_,(ai (aC (jE T.mk_aa (ok_ag T) (rmo hr) rfl T.mg_aa T.b_ag .nil aB (aa (ay (nB K rfl) (pv 0) ag) (aa (dC (iz K rfl) rfl T.no_list (by rfl) (aa (ay (nB K rfl) (pv 0) ag) ae)) (aa (dC (iz K rfl) rfl T.no_list (by rfl) (aa (ay (nB K rfl) (pv 0) ag) ae)) ae)))))),?_⟩;have ix:∀ {H':Hp} {i:Int} {v:V} {Q:VK},ah H H'->atI [V.int s,V.ref c,V.ref r] i=some v->Q v H'->rIx K (.ref p) (.int i) H' Q:=fun {H' i v Q} s1 e q=>by
   cases b
   ·exact AI (SqL.of (s1 _ _ hp)) e q
   ·exact AJ (SqT.of (s1 _ _ hp)) e q
  apply ix (ah.refl _) rfl ?_;apply ix (ah.refl _) rfl ?_;apply qw hc fun l1 n1=>?_;have s1:=ah.new (o:=HO.lst (cs.map V.int)) n1;apply ix s1 rfl ?_;apply qw (s1 _ _ hr') fun l2 n2=>?_;have s2:=ah.new (o:=HO.lst (rs.map V.int)) n2;left;intro x dx nx ndx nex;have s12:=s1.trans s2;have h1:upd (upd H l1 (.lst (cs.map V.int))) l2 (.lst (rs.map V.int)) l1=some (.lst (cs.map V.int)):=s2 _ _ af;have h2:upd (upd H l1 (.lst (cs.map V.int))) l2 (.lst (rs.map V.int)) l2=some (.lst (rs.map V.int)):=af;generalize upd (upd H l1 (.lst (cs.map V.int))) l2 (.lst (rs.map V.int))=H3 at h1 h2 s12 nx ndx ⊢;have s3:ah H3 (upd (upd H3 dx (.own x)) x (.ins t.a_aa dx [])):=(ah.new ndx).later nx;refine ⟨x,dx,l1,l2,s,cs,rs,rfl,af,s3 _ _ h1,s3 _ _ h2,sh,bc,br,fun H4 kp hC=>⟨rfl,?_⟩⟩;exact k x H4 (fun b o e=>kp b o (s3 b o (s12 b o e)) (bo (s12 b o e) nx)) hC
def sp_aR:Sp:=fun vs H Q _=>∃ (q:Ω) (w:Str) (k st s:Int) (cs rs bs:List Int),vs=[.ref q,.str w,.int k,.int st]/\eK true H q s cs rs/\gP w cs rs bs/\0<=k/\k<bs.length/\Q (.bl (decide ((st+bs.getD k.toNat 0)%2=1))) H
theorem Dq:¬ (("col":Str)="row"):=by decide +kernel
theorem ok_aR (T:Txt K mg t):aP P w K mg base CX0 1 t.f_aR t.d_aR ["_law_plan_here","_law_way","_law_k","_law_step"] sp_aR:=by
 refine T.F_aR.ok sc_aR (by walk_at "l") (fun _ _ _ s H vs Q E hr h=>?_)
 ·obtain ⟨q,w,k,st,s,cs,rs,bs,rfl,pl,hw,h0,h1,z⟩:=h;obtain ⟨⟨c,r,hq,hc,hr'⟩,sh,bc,br⟩:=id pl;refine aM (aO 4 sc_aR.nd (ay (aN K rfl) (pv 0) ag)) fun _ _=>aM (aY (bB dh (pv 1) cx) (ai (aO 4 sc_aR.nd (ay (aN K rfl) (pv 0) ag))) aD) fun _ _=>dy (aC (kj dh (aA bU (aA a7 (pv 3) (ay (ar K rfl) (pv 4) (pv 2))) ag) ag)) fun _ _=>?_;apply aR (SqT.of hq) (v:=.ref c) rfl ?_;left;rcases hw with ⟨rfl,rfl⟩ | ⟨rfl,rfl⟩
  ·rw [bO Dq];apply aE (SqL.of hc) (bE h0 h1) ?_;apply bZ (by decide) ?_;left;exact z
  ·rw [ba (rfl:("row":Str)="row")];apply aR (SqT.of hq) (v:=.ref r) rfl ?_;apply aE (SqL.of hr') (bE h0 h1) ?_;apply bZ (by decide) ?_;left;exact z
def D6 (d:GS):Prop:=(∃ i,d=.int i)\/(∃ b,d=.bool b)\/d=.none
def OkS (S:GS->Prop) (d:GS):Prop:=D6 d\/(∃ ds,d=.list ds/\ds.length<=5000/\∀ e∈ds,S e)\/∃ ds,d=.tuple ds/\ds.length<=5000/\∀ e∈ds,S e
def oQ (S:GS->Prop):Sp:=fun vs H Q _=>∃ (x y:V) (d:GS),vs=[x,y]/\S d/\Rep H d x/\Rep H d y/\∀ H',ah H H'->Q (.bl true) H'
theorem fh {S:GS->Prop} {n:Nat} (T:Txt K mg t) (G_aF:aP P w K mg base CX0 n t.f_aF t.d_aF ["_law_told","_law_due"] (oQ S)):aP P w K mg base CX0 (n+1) t.f_aF t.d_aF ["_law_told","_law_due"] (oQ (OkS S)):=by
 refine T.F_aF.ok sc_aF (by walk_at "l") (fun _ _ _ s H vs Q E hr h=>?_)
 ·obtain ⟨x,y,d,rfl,ok,rx,ry,k⟩:=h;refine aM (aY (PW.pt (ua (bB tW (aq (a9 K rfl) rfl T.no_a3 (by rfl) (aa (pv 0) (aa (b8 (v:=.ty "bool") rfl T.no_bool (by rfl:Fi "bool"=some (.type "bool")) rfl) ae))) (aq (a9 K rfl) rfl T.no_a3 (by rfl) (aa (pv 1) (aa (b8 (v:=.ty "bool") rfl T.no_bool (by rfl:Fi "bool"=some (.type "bool")) rfl) ae)))) (nR (bB tW (aq (a9 K rfl) rfl T.no_a3 (by rfl) (aa (pv 0) (aa (b8 (v:=.ty "int") rfl T.no_int (by rfl:Fi "int"=some (.type "int")) rfl) ae))) (aq (a9 K rfl) rfl T.no_a3 (by rfl) (aa (pv 1) (aa (b8 (v:=.ty "int") rfl T.no_int (by rfl:Fi "int"=some (.type "int")) rfl) ae))))))) (ai (aC fe)) aD) fun _ _=>aM (aY (PW.pt (ua (bB tW (aq (a9 K rfl) rfl T.no_a3 (by rfl) (aa (pv 0) (aa (b8 (v:=.ty "list") rfl T.no_list (by rfl:Fi "list"=some (.type "list")) rfl) ae))) (aq (a9 K rfl) rfl T.no_a3 (by rfl) (aa (pv 1) (aa (b8 (v:=.ty "list") rfl T.no_list (by rfl:Fi "list"=some (.type "list")) rfl) ae)))) (nR (bB tW (aq (a9 K rfl) rfl T.no_a3 (by rfl) (aa (pv 0) (aa (b8 (v:=.ty "tuple") rfl T.no_aA (by rfl:Fi "tuple"=some (.type "tuple")) rfl) ae))) (aq (a9 K rfl) rfl T.no_a3 (by rfl) (aa (pv 1) (aa (b8 (v:=.ty "tuple") rfl T.no_aA (by rfl:Fi "tuple"=some (.type "tuple")) rfl) ae))))))) (ai (aC fe)) aD) fun _ _=>aM (aY (PW.pt (fV (cO (bF (aq (a9 K rfl) rfl T.no_a3 (by rfl) (aa (pv 1) (aa (b8 (v:=.ty "list") rfl T.no_list (by rfl:Fi "list"=some (.type "list")) rfl) ae))))) (eD (cO (bF (aq (a9 K rfl) rfl T.no_a3 (by rfl) (aa (pv 1) (aa (b8 (v:=.ty "tuple") rfl T.no_aA (by rfl:Fi "tuple"=some (.type "tuple")) rfl) ae)))))))) (ai (aC (ki (kj dh (aq (a9 K rfl) rfl T.no_a3 (by rfl) (aa (pv 0) (aa (b8 (v:=.ty "str") rfl T.no_str (by rfl:Fi "str"=some (.type "str")) rfl) ae))) (aq (a9 K rfl) rfl T.no_a3 (by rfl) (aa (pv 1) (aa (b8 (v:=.ty "str") rfl T.no_str (by rfl:Fi "str"=some (.type "str")) rfl) ae)))) (km (kj (kc hr.units) (pv 0) (pv 1)))))) aD) fun _ _=>dy (aC (ki (kj dh (aq (bp K rfl) rfl T.no_len (by rfl) (aa (pv 0) ae)) (aq (bp K rfl) rfl T.no_len (by rfl) (aa (pv 1) ae))) (km (aq (sY K rfl rfl) rfl T.no_all (by rfl) (aa (bW (N:=["_law_one","_law_other"]) (cap:=[none,none]) rfl ⟨rfl,rfl,rfl,rfl,rfl,rfl⟩ (Al rfl T.no_zip (aa (pv 0) (aa (pv 1) ae))) (fun _ _ _=>(et (n:=2) K rfl rfl (bA (aG (i:=0) (show (["_law_one","_law_other"]:List Str).Nodup by decide +kernel) rfl (Fp rfl)) (bA (aG (i:=1) (show (["_law_one","_law_other"]:List Str).Nodup by decide +kernel) rfl (Fp rfl)) eC)))) (fun _ _ _=>bX) (fun _ _ _=>(ao G_aF (rmo hr) rfl T.mg_aF T.F_aF.kp T.b_aF .nil aB (aa (pv 0) (aa (pv 1) ae))))) ae))))) fun _ _=>?_;apply cG rx.ty (pO d) ?_;apply cG ry.ty (pO d) ?_;left;rw [ba rfl];apply cG rx.ty (tN d) ?_;apply cG ry.ty (tN d) ?_;left;rw [ba rfl];apply cG rx.ty (j3 d) ?_;apply cG ry.ty (j3 d) ?_;left;rw [ba rfl];apply cG rx.ty (gz d) ?_;apply cG ry.ty (gz d) ?_;left;rw [ba rfl];apply cG ry.ty (j3 d) ?_;left;rcases ok with sc | ⟨ds,rfl,hl,hS⟩ | ⟨ds,rfl,hl,hS⟩
  ·have e1:isD "list" d=false:=by rcases sc with ⟨i,rfl⟩ | ⟨b,rfl⟩ | rfl<;>simp [isD]
   have e2:isD "tuple" d=false:=by rcases sc with ⟨i,rfl⟩ | ⟨b,rfl⟩ | rfl<;>simp [isD]
   rw [e1];apply cG ry.ty (gz d) ?_;rw [e2];apply cG rx.ty (tO d) ?_;apply cG ry.ty (tO d) ?_;left;rw [ba rfl];left;have sd:HR d=true:=by rcases sc with ⟨i,rfl⟩ | ⟨b,rfl⟩ | rfl<;>rfl
   refine ⟨d,d,rx,ry,sd,sd,?_⟩;have e3:Fz d d=true:=by rcases sc with ⟨i,rfl⟩ | ⟨b,rfl⟩ | rfl<;>simp [Fz]
   rw [e3];exact k _ (ah.refl _)
  ·have e1:isD "list" (.list ds)=true:=by simp [isD]
   rw [e1];simp only [Rep] at rx ry;obtain ⟨a,xs,rfl,ha,ra⟩:=rx;obtain ⟨b,ys,rfl,hb,rb⟩:=ry;obtain ⟨l1,g1⟩:=fX ra;obtain ⟨l2,g2⟩:=fX rb;apply bq ha ?_;apply bq hb ?_;left;rw [ba (by omega:(xs.length:Int)=ys.length)];apply ⟨a,b,rfl,.inl ⟨⟨_,SqL.of ha⟩,⟨_,SqL.of hb⟩,fun l hn=>?_⟩⟩;refine rk (fun _=>.bl true) ha hb (by omega) (by omega) hn (fun i x y H' Q' ex ey s1 q=>?_) (fun H' s1 e=>?_)
   ·left;obtain ⟨d,hd,rd⟩:=g1 i x ex;obtain ⟨d',hd',rd'⟩:=g2 i y ey;rw [hd] at hd'
    cases hd';exact ⟨x,y,d,rfl,hS d (ES hd),rd.mono s1,rd'.mono s1,q⟩
   ·left;have e':H' l=some (.lst (((FG xs.length).map fun _=>true).map V.bl)):=by rw [e,FP]; rfl
    refine rP e' ?_;have e4:((FG xs.length).map fun _=>true).all id=true:=by simp
    rw [e4];exact k H' s1
  ·have e1:isD "list" (.tuple ds)=false:=by simp [isD]
   have e2:isD "tuple" (.tuple ds)=true:=by simp [isD]
   rw [e1];apply cG ry.ty (gz _) ?_;rw [e2];simp only [Rep] at rx ry;obtain ⟨a,xs,rfl,ha,ra⟩:=rx;obtain ⟨b,ys,rfl,hb,rb⟩:=ry;obtain ⟨l1,g1⟩:=fX ra;obtain ⟨l2,g2⟩:=fX rb;apply jI ha ?_;apply jI hb ?_;left;rw [ba (by omega:(xs.length:Int)=ys.length)];apply ⟨a,b,rfl,.inr ⟨⟨_,SqT.of ha⟩,⟨_,SqT.of hb⟩,fun l hn=>?_⟩⟩;refine pD (fun _=>.bl true) ha hb (by omega) (by omega) hn (fun i x y H' Q' ex ey s1 q=>?_) (fun H' s1 e=>?_)
   ·left;obtain ⟨d,hd,rd⟩:=g1 i x ex;obtain ⟨d',hd',rd'⟩:=g2 i y ey;rw [hd] at hd'
    cases hd';exact ⟨x,y,d,rfl,hS d (ES hd),rd.mono s1,rd'.mono s1,q⟩
   ·left;have e':H' l=some (.lst (((FG xs.length).map fun _=>true).map V.bl)):=by rw [e,FP]; rfl
    refine rP e' ?_;have e4:((FG xs.length).map fun _=>true).all id=true:=by simp
    rw [e4];exact k H' s1
def Ok5:GS->Prop:=OkS (OkS (OkS (OkS (OkS fun _=>False))))
theorem ok_aF (T:Txt K mg t):aP P w K mg base CX0 5 t.f_aF t.d_aF ["_law_told","_law_due"] (oQ Ok5) :=
 fh T (fh T (fh T (fh T (fh T ⟨fun vs H Q E h=>(by obtain ⟨_,_,_,_,h,_⟩:=h; exact h.elim),fun A outer s H args us vs Q E _ _ _ _ h=>(by obtain ⟨_,_,_,_,h,_⟩:=h; exact h.elim)⟩))))
end
theorem wO (s:Int) (cs rs:List Int) (x y:Int):uK s cs rs x y=0\/uK s cs rs x y=1:=by unfold uK; omega
section
variable {P:ER} {w:E2} {K:W.Frag} {mg:Str->Option Δ} {base:FD} {t:Ad}
noncomputable def shl (bs:List Int) (n:Int):List Int:=bs.map fun b=>(b+n)%2
theorem A5 (bs:List Int) (n:Int):(shl bs n).length=bs.length:=by unfold shl; rw [Aj]
theorem gr {bs:List Int} (h:cQ bs) (n:Int):cQ (shl bs n):=⟨by rw [A5]; exact h.1,fun z hz=>by
 unfold shl at hz;obtain ⟨b,_,rfl⟩:=EE.mp hz;omega⟩
def sp_av:Sp:=fun vs H Q _=>∃ (a:Ω) (n:Int) (bs:List Int),vs=[.ref a,.int n]/\H a=some (.lst (bs.map V.int))/\bs.length<=1000/\∀ l H',ah H H'->H l=none->H' l=some (.lst ((shl bs n).map V.int))->Q (.ref l) H'
theorem ok_av (T:Txt K mg t):aP P w K mg base CX0 1 t.f_av t.d_av ["bits","steps"] sp_av:=by
 refine T.F_av.ok sc_av (by walk_at "l") (fun _ _ _ s H vs Q E hr h=>?_)
 ·obtain ⟨a,n,bs,rfl,ha,hl,k⟩:=h;refine ⟨_,(ai (aC (bW (N:=["bit","steps"]) (cap:=[none,some 1]) rfl ⟨rfl,rfl,rfl,rfl,rfl,rfl⟩ (bK (pv 0)) (fun _ _ _=>(aG (i:=0) (show (["bit","steps"]:List Str).Nodup by decide +kernel) rfl (Fp rfl))) (fun _ _ _=>bX) (fun _ _ _=>(aA bU (aA a7 (pv 0) (pv 1)) ag))))),?_⟩;apply ⟨⟨_,SqL.of ha⟩,fun l hn=>?_⟩;refine fx (fun v=>match v with | .int i=>.int ((i+n)%2) | _=>.non) (SqL.of ha) (by rw [Aj]; exact hl) hn (fun x o H' Q' hx s1 q=>?_) (fun H' s1 e=>?_)
  ·obtain ⟨i,_,rfl⟩:=EE.mp hx;apply bZ (by decide) ?_;exact q H' (ah.refl _)
  ·left;exact k l H' s1 hn (by rw [e,FP]; unfold shl; rw [FP]; rfl)
def sp_al (C:Ω):Sp:=fun vs H Q _=>∃ (p:Ω) (s:Int) (cs rs:List Int),vs=[.ref p]/\aI C H p s cs rs/\(s=0\/s=1)/\cQ cs/\cQ rs/\∀ x H',ah H H'->aI C H' x s rs cs->Q (.ref x) H'
theorem ok_al (T:Txt K mg t):aP P w K mg base CX0 8 t.f_al t.d_al ["cloth"] (sp_al t.a_aa):=by
 refine T.F_al.ok sc_al (by walk_at "l") (fun _ _ _ s H vs Q E hr h=>?_)
 ·obtain ⟨p,s,cs,rs,rfl,hc,sh,bc,br,k⟩:=h;obtain ⟨dx,a,b,e1,e2,e3⟩:=hc.ob;have nl:∀ {w h:Int} {m:Str},NoF m->(cfl s a b w h).lookup m=none:=fun x=>dH _ _ _ x;refine ⟨_,(ai (aC (jE T.mk_aa (ok_ag T) (rmo hr) rfl T.mg_aa T.b_ag .nil aB (aa (aT (pv 0) T.cl_aa T.m_ai (ok_ai T) (rmo hr) T.b_ai .nil aB) (aa (aT (pv 0) T.cl_aa T.m_ak (ok_ak T) (rmo hr) T.b_ak .nil aB) (aa (aT (pv 0) T.cl_aa T.m_aj (ok_aj T) (rmo hr) T.b_aj .nil aB) ae)))))),?_⟩;apply aJ e1 (nl (by decide +kernel)) ?_;apply ⟨p,s,cs,rs,rfl,hc,?_⟩;apply aJ e1 (nl (by decide +kernel)) ?_;apply ⟨p,s,cs,rs,rfl,hc,fun l1 n1=>?_⟩;have s1:=ah.new (o:=HO.lst (rs.map V.int)) n1;apply aJ (s1 _ _ e1) (nl (by decide +kernel)) ?_;apply ⟨p,s,cs,rs,rfl,hc.mono s1,fun l2 n2=>?_⟩;have s2:=ah.new (o:=HO.lst (cs.map V.int)) n2;left;intro x dx nx ndx nex;have s12:=s1.trans s2;have h1:=s2 _ _ (af (H:=H) (a:=l1) (o:=HO.lst (rs.map V.int)));have h2:=af (H:=upd H l1 (HO.lst (rs.map V.int))) (a:=l2) (o:=HO.lst (cs.map V.int));generalize upd (upd H l1 (HO.lst (rs.map V.int))) l2 (HO.lst (cs.map V.int))=H3 at h1 h2 s12 nx ndx ⊢;have s3:ah H3 (upd (upd H3 dx (.own x)) x (.ins t.a_aa dx [])):=(ah.new ndx).later nx;refine ⟨x,dx,l1,l2,s,rs,cs,rfl,af,s3 _ _ h1,s3 _ _ h2,sh,br,bc,fun H4 kp hC=>⟨rfl,?_⟩⟩;exact k x H4 (fun b o e=>kp b o (s3 b o (s12 b o e)) (bo (s12 b o e) nx)) hC
theorem Ac {C p dx c r:Ω} {H1 H4:Hp} (nx:H1 p=none) (ndx:H1 dx=none) (kp:∀ b o,upd (upd H1 dx (.own p)) p (.ins C dx []) b=some o->b≠p->H4 b=some o):ah H1 H4:=fun b o e =>
 kp b o (((ah.new ndx).later nx) b o e) (bo e nx)
theorem wG {bs:List Int} (h:cQ bs):cQ bs.reverse:=⟨by rw [F0]; exact h.1,fun z hz=>h.2 z (F1.mp hz)⟩
def sp_at (C:Ω):Sp:=fun vs H Q _=>∃ (p:Ω) (s:Int) (cs rs:List Int),vs=[.ref p]/\aI C H p s cs rs/\(s=0\/s=1)/\cQ cs/\cQ rs /\
 ∀ x H',ah H H'->aI C H' x (uK s cs rs (cs.length:Nat) 0) cs.reverse (shl rs (cs.length:Nat))->Q (.ref x) H'
theorem ok_at (T:Txt K mg t):aP P w K mg base CX0 8 t.f_at t.d_at ["cloth"] (sp_at t.a_aa):=by
 refine T.F_at.ok sc_at (by walk_at "l") (fun _ _ _ s H vs Q E hr h=>?_)
 ·obtain ⟨p,s,cs,rs,rfl,hc,sh,bc,br,k⟩:=h;have lc:=bc.1;have lr:=br.1;obtain ⟨dx,a,b,e1,e2,e3⟩:=hc.ob;have nl:∀ {w h:Int} {m:Str},NoF m->(cfl s a b w h).lookup m=none:=fun x=>dH _ _ _ x;refine ⟨_,(aL (aO 1 sc_at.nd (aA bV (aT (pv 0) T.cl_aa T.m_ad (ok_ad T) (rmo hr) T.b_ad .nil aB) ag)) (ai (aC (jE T.mk_aa (ok_ag T) (rmo hr) rfl T.mg_aa T.b_ag .nil aB (aa (iN (pv 0) T.cl_aa T.m_ae (ok_ae T) (rmo hr) T.b_ae .nil aB (aa (pv 1) (aa ag ae))) (aa (tZ K rfl rfl rfl T.no_list rfl T.no_reversed (aT (pv 0) T.cl_aa T.m_aj (ok_aj T) (rmo hr) T.b_aj .nil aB)) (aa (ao (ok_av T) (rmo hr) rfl T.mg_av T.F_av.kp T.b_av .nil aB (aa (aT (pv 0) T.cl_aa T.m_ak (ok_ak T) (rmo hr) T.b_ak .nil aB) (aa (pv 1) ae))) ae))))))),?_⟩;apply aJ e1 (nl (by decide +kernel)) ?_;apply ⟨p,s,cs,rs,rfl,hc,?_⟩;left;rw [show (cs.length:Int)+1 - 1=((cs.length:Nat):Int) by omega];refine aJ e1 (nl (by decide +kernel)) ?_;apply ⟨p,(cs.length:Nat),0,s,cs,rs,rfl,hc,bc,br,by omega,by omega,by omega,by omega,fun H1 s1=>?_⟩;apply ug ?_;apply aJ (s1 _ _ e1) (nl (by decide +kernel)) ?_;apply ⟨p,s,cs,rs,rfl,hc.mono s1,fun l1 n1=>?_⟩;have s2:=ah.new (o:=HO.lst (cs.map V.int)) n1;refine rR af fun l2 n2=>?_;rw [<- List.map_reverse];have s3:=ah.new (o:=HO.lst (cs.reverse.map V.int)) n2;apply aJ (s3 _ _ (s2 _ _ (s1 _ _ e1))) (nl (by decide +kernel)) ?_;apply ⟨p,s,cs,rs,rfl,hc.mono (s1.trans (s2.trans s3)),fun l3 n3=>?_⟩;have s4:=ah.new (o:=HO.lst (rs.map V.int)) n3;apply ⟨l3,(cs.length:Nat),rs,rfl,af,by omega,fun l4 H4 s5 n4 e4=>?_⟩;left;intro x dx nx ndx nex;have s14:=s1.trans (s2.trans (s3.trans (s4.trans s5)));have h1:=s5 _ _ (s4 _ _ (af (H:=upd H1 l1 (HO.lst (cs.map V.int))) (a:=l2) (o:=HO.lst (cs.reverse.map V.int))));have s6:ah H4 (upd (upd H4 dx (.own x)) x (.ins t.a_aa dx [])):=(ah.new ndx).later nx;refine ⟨x,dx,l2,l4,_,cs.reverse,_,rfl,af,s6 _ _ h1,s6 _ _ e4,wO _ _ _ _ _,wG bc,gr br _,fun H5 kp hC=>⟨rfl,?_⟩⟩;exact k x H5 (fun b o e=>kp b o (s6 b o (s14 b o e)) (bo (s14 b o e) nx)) hC
theorem A6 {bs:List Int} (h:cQ bs) (n:Int):shl (shl bs n) n=bs:=by
 unfold shl;rw [FP];refine (GK fun b hb=>?_).trans (HS bs);have:=h.2 b hb
 show ((b+n)%2+n)%2=b
 omega
def sp_aN (C:Ω):Sp:=fun vs H Q _=>∃ (p:Ω) (s:Int) (cs rs:List Int),vs=[.ref p]/\aI C H p s cs rs/\(s=0\/s=1)/\cQ cs/\cQ rs/\∀ x H',ah H H'->aI C H' x s (shl cs 1) (shl rs 1)->Q (.ref x) H'
theorem ok_aN (T:Txt K mg t):aP P w K mg base CX0 8 t.f_aN t.d_aN ["cloth"] (sp_aN t.a_aa):=by
 refine T.F_aN.ok sc_aN (by walk_at "l") (fun _ _ _ s H vs Q E hr h=>?_)
 ·obtain ⟨p,s,cs,rs,rfl,hc,sh,bc,br,z⟩:=h;have lc:=bc.1;have lr:=br.1;obtain ⟨dx,a,b,e1,e2,e3⟩:=hc.ob;have nl:∀ {w h:Int} {m:Str},NoF m->(cfl s a b w h).lookup m=none:=fun x=>dH _ _ _ x;refine ⟨_,(ai (aC (jE T.mk_aa (ok_ag T) (rmo hr) rfl T.mg_aa T.b_ag .nil aB (aa (aT (pv 0) T.cl_aa T.m_ai (ok_ai T) (rmo hr) T.b_ai .nil aB) (aa (ao (ok_av T) (rmo hr) rfl T.mg_av T.F_av.kp T.b_av .nil aB (aa (aT (pv 0) T.cl_aa T.m_aj (ok_aj T) (rmo hr) T.b_aj .nil aB) (aa ag ae))) (aa (ao (ok_av T) (rmo hr) rfl T.mg_av T.F_av.kp T.b_av .nil aB (aa (aT (pv 0) T.cl_aa T.m_ak (ok_ak T) (rmo hr) T.b_ak .nil aB) (aa ag ae))) ae)))))),?_⟩;apply aJ e1 (nl (by decide +kernel)) ?_;apply ⟨p,s,cs,rs,rfl,hc,?_⟩;apply aJ e1 (nl (by decide +kernel)) ?_;apply ⟨p,s,cs,rs,rfl,hc,fun l1 n1=>?_⟩;have s1:=ah.new (o:=HO.lst (cs.map V.int)) n1;apply ⟨l1,1,cs,rfl,af,by omega,fun l2 H2 s2 n2 q2=>?_⟩;have s12:=s1.trans s2;apply aJ (s12 _ _ e1) (nl (by decide +kernel)) ?_;apply ⟨p,s,cs,rs,rfl,hc.mono s12,fun l3 n3=>?_⟩;have s3:=ah.new (o:=HO.lst (rs.map V.int)) n3;apply ⟨l3,1,rs,rfl,af,by omega,fun l4 H4 s4 n4 q4=>?_⟩;left;intro x dxx nx ndx nex;have sM:ah H4 (upd (upd H4 dxx (.own x)) x (.ins t.a_aa dxx [])):=(ah.new ndx).later nx;refine ⟨x,dxx,l2,l4,s,shl cs 1,shl rs 1,rfl,af,sM _ _ (s4 _ _ (s3 _ _ q2)),sM _ _ q4,sh,gr bc 1,gr br 1,fun H5 kp hC=>⟨rfl,?_⟩⟩;exact z x H5 (s12.trans (s3.trans (s4.trans (Ac (c:=0) (r:=0) nx ndx kp)))) hC
theorem vd (cs rs:List Int) (q:Int×Int):(nb cs rs q).Pairwise Ts.ple:=by
 unfold nb;obtain ⟨x,y⟩:=q;dsimp only;by_cases h1:rt cs rs (x - 1) y=true<;>by_cases h2:ups cs rs x (y - 1)=true<;>by_cases h3:ups cs rs x y=true<;>by_cases h4:rt cs rs x y=true <;>
  simp only [h1,h2,h3,h4,if_true,if_false,Hf,GU,Fe,Bb,Ey,or_false,false_or,forall_eq_or_imp,forall_eq,false_implies,implies_true,and_true,true_and,GP,Ts.ple,FJ]<;>omega
noncomputable def nbL (cs rs:List Int) (q:Int×Int):List (Int×Int) :=
 (if rt cs rs (q.1 - 1) q.2=true then [(q.1 - 1,q.2)] else [])++(if rt cs rs q.1 q.2=true then [(q.1+1,q.2)] else [])++((if ups cs rs q.1 (q.2 - 1)=true then [(q.1,q.2 - 1)] else [])++(if ups cs rs q.1 q.2=true then [(q.1,q.2+1)] else []))
theorem Af (cs rs:List Int) (q:Int×Int):(nb cs rs q).Perm (nbL cs rs q):=by
 unfold nb nbL;generalize (if rt cs rs (q.1 - 1) q.2=true then [(q.1 - 1,q.2)] else [])=A;generalize (if ups cs rs q.1 (q.2 - 1)=true then [(q.1,q.2 - 1)] else [])=B;generalize (if ups cs rs q.1 q.2=true then [(q.1,q.2+1)] else [])=C;generalize (if rt cs rs q.1 q.2=true then [(q.1+1,q.2)] else [])=D;rw [EI A B C,EI A (B++C) D,EI A D (B++C)];exact Gz _ IU
def sp_aC:Sp:=fun vs H Q _=>∃ (q:Ω) (x y s:Int) (cs rs:List Int),vs=[.ref q,.int x,.int y]/\eK true H q s cs rs/\∀ l ys H',ah H H'->H l=none->H' l=some (.lst ys)->au H' ys (nb cs rs (x,y))->Q (.ref l) H'
theorem ok_aC (T:Txt K mg t):aP P w K mg base CX0 2 t.f_aC t.d_aC ["_law_plan_here","_law_x","_law_y"] sp_aC:=by
 refine T.F_aC.ok sc_aC (by walk_at "l") (fun _ _ _ s H vs Q E hr h=>?_)
 ·obtain ⟨q,x,y,s,cs,rs,rfl,pl,z⟩:=h;obtain ⟨⟨c,r,hq,hc,hr'⟩,sh,bc,br⟩:=id pl;refine aM (aO 3 sc_aC.nd (aA a7 (aq (bp K rfl) rfl T.no_len (by rfl) (aa (ay (aN K rfl) (pv 0) ag) ae)) ag)) fun _ _=>aM (aO 4 sc_aC.nd (aA a7 (aq (bp K rfl) rfl T.no_len (by rfl) (aa (ay (aN K rfl) (pv 0) ag) ae)) ag)) fun _ _=>aM (aO 5 sc_aC.nd (cw ae)) fun _ _=>aM (cq (aY (dk dw dw ag (pv 2) (pv 4)) (ai (cZ FI rfl (xX (bw (aa (aA bV (pv 1) ag) (aa (pv 1) ae)))) (aG (i:=6) sc_aC.nd rfl (Fp rfl)) (ai (aY (PW.pt (fV (dk p9 dw ag (pv 6) (pv 3)) (eD (bF (ao (ok_aR T) (rmo hr) rfl T.mg_aR T.F_aR.kp T.b_aR .nil aB (aa (pv 0) (aa cx (aa (aA bV (pv 2) ag) (aa (pv 6) ae))))))))) (ai (bC (cU Em Eu Et a8 (pv 5) (aa (bw (aa (aA bV (aA a7 (aA fE ag (pv 6)) ag) (pv 1)) (aa (pv 2) ae))) ae)))) aD)))) aD)) fun _ _=>aM (cq (aY (dk dw dw ag (pv 1) (pv 3)) (ai (cZ FI rfl (xX (bw (aa (aA bV (pv 2) ag) (aa (pv 2) ae)))) (aG (i:=6) sc_aC.nd rfl (Fp rfl)) (ai (aY (PW.pt (fV (dk p9 dw ag (pv 6) (pv 4)) (eD (bF (ao (ok_aR T) (rmo hr) rfl T.mg_aR T.F_aR.kp T.b_aR .nil aB (aa (pv 0) (aa cx (aa (aA bV (pv 1) ag) (aa (pv 6) ae))))))))) (ai (bC (cU Em Eu Et a8 (pv 5) (aa (bw (aa (pv 1) (aa (aA bV (aA a7 (aA fE ag (pv 6)) ag) (pv 2)) ae))) ae)))) aD)))) aD)) fun _ _=>dy (aC (aq (cW K rfl) rfl T.no_sorted (by rfl) (aa (pv 5) ae))) fun _ _=>?_;apply aR (SqT.of hq) (v:=.ref c) rfl ?_;apply bq hc ?_;apply aR (SqT.of hq) (v:=.ref r) rfl ?_;apply bq hr' ?_;rw [Aj,Aj];apply ⟨En _,fun l n1=>?_⟩;have s1:=ah.new (o:=HO.lst []) n1;have f1:=af (H:=H) (a:=l) (o:=HO.lst []);generalize upd H l (HO.lst [])=H1 at s1 f1 ⊢;obtain ⟨xs,f1,w1,lx⟩:∃ xs,H1 l=some (.lst xs)/\au H1 xs []/\xs.length<=0:=⟨[],f1,au.nil,A_ 0⟩
  apply cu (fun σ' H'=>∃ xs o6,σ'=[some (.ref q),some (.int x),some (.int y),some (.int ((cs.length:Int)+1)),some (.int ((rs.length:Int)+1)),some (.ref l),o6]/\ah H H'/\H' l=some (.lst xs)/\xs.length<=0+2/\au H' xs ([]++((if rt cs rs (x - 1) y=true then [(x - 1,y)] else [])++(if rt cs rs x y=true then [(x+1,y)] else [])))) ?_ ?_
  ·left;by_cases c1:0<y
   ·rw [ba c1];left;by_cases c2:y<(rs.length:Int)+1
    ·rw [ba c2];apply ⟨by show 2<=EF; decide,fun b hb=>?_⟩;have sb:=ah.new (o:=HO.tup [V.int (x - 1),V.int x]) hb;have eb:=af (H:=H1) (a:=b) (o:=HO.tup [V.int (x - 1),V.int x]);have f1:=sb _ _ f1;have w1:=w1.mono sb;have s1:=s1.trans sb;generalize upd H1 b (HO.tup [V.int (x - 1),V.int x])=H2 at sb eb f1 w1 s1 ⊢;apply ⟨⟨_,SqT.of eb⟩,pK (K:=K) (a:=b) (xs:=[V.int (x - 1),V.int x]) (fun i σ' H'=>∃ (xs:List V) (o6:Option V),σ'=[some (.ref q),some (.int x),some (.int y),some (.int ((cs.length:Int)+1)),some (.int ((rs.length:Int)+1)),some (.ref l),o6]/\ah H H'/\H' b=some (.tup [V.int (x - 1),V.int x])/\H' l=some (.lst xs)/\xs.length<=0+i/\au H' xs ([]++((if 0<i/\rt cs rs (x - 1) y=true then [(x - 1,y)] else [])++(if 1<i/\rt cs rs x y=true then [(x+1,y)] else []))))
      ⟨xs,none,rfl,s1,eb,f1,lx,by rw [if_neg (by simp),if_neg (by simp),ET,ET]; exact w1⟩ (fun i σ' H' _ ⟨_,_,_,_,e,_⟩=>SqT.of e) ?_ ?_⟩
     ·rintro i v σ' H3 hv ⟨ys,o6,rfl,s3,e3,f3,l3,w3⟩;have hi:i<2:=(Bc.mp hv).1;obtain ⟨st,rfl,hst⟩:∃ st:Int,v=.int st/\((i=0/\st=x - 1)\/(i=1/\st=x)):=by
       match i,hi,hv with
       | 0,_,hv=>exact ⟨x - 1,(Ez hv).symm,.inl ⟨rfl,rfl⟩⟩
       | 1,_,hv=>exact ⟨x,(Ez hv).symm,.inr ⟨rfl,rfl⟩⟩
      have rte:rt cs rs st y=(decide (0<=st)&&decide (st<(cs.length:Int)+1)&&decide ((st+rs.getD (y - 1).toNat 0)%2=1)):=by
       unfold rt;rw [ba c1,ba c2]; rfl
      have keep:rt cs rs st y=false->au H3 ys ([]++((if 0<i+1/\rt cs rs (x - 1) y=true then [(x - 1,y)] else [])++(if 1<i+1/\rt cs rs x y=true then [(x+1,y)] else []))):=by
       intro hf;rcases hst with ⟨rfl,rfl⟩ | ⟨rfl,rfl⟩
       ·rw [if_neg (by simp),if_neg (by simp)] at w3;rw [if_neg (by rw [hf]; simp),if_neg (by simp)]; exact w3
       ·rw [if_neg (c:=1<1/\_) (by simp)] at w3;rw [if_neg (c:=1<1+1/\_) (by rw [hf]; simp)];have g:∀ (p:Prop) [Decidable p] (L:List (Int×Int)),(if 0<1/\p then L else [])=(if 0<1+1/\p then L else []):=fun p _ L=>by simp
        rw [g] at w3;exact w3
      left;by_cases c3:0<=st
      ·rw [ba c3] at rte ⊢;left;by_cases c4:st<(cs.length:Int)+1
       ·rw [ba c4] at rte ⊢;apply ⟨q,"row",y - 1,st,s,cs,rs,rs,rfl,pl.mono s3,.inr ⟨rfl,rfl⟩,by omega,by omega,?_⟩;left;have rte:rt cs rs st y=decide ((st+rs.getD (y - 1).toNat 0)%2=1):=rte;rw [<- rte];by_cases c5:rt cs rs st y=true
        ·rw [if_pos c5];apply bS f3 ?_;apply bZ (.inl ⟨by decide,by decide⟩) ?_;apply ⟨by show 2<=EF; decide,fun d hd=>?_⟩;have sd:=ah.new (o:=HO.tup [V.int (2*st+1 - x),V.int y]) hd;apply aW (sd _ _ f3) (aQ (by omega)) ?_;apply ⟨_,_,rfl,(s3.trans sd).later n1,?_,af,by rw [Bd,EL]; omega,?_⟩
         ·rw [aj (cg (sd _ _ e3) (sd _ _ f3) (by intro z; cases z))]; exact sd _ _ e3
         ·have w4:=((w3.mono sd).upd (o:=.lst (ys++[V.ref d])) (sd _ _ f3) (by intro ys z; cases z)).snoc (Pt.upd (o:=.lst (ys++[V.ref d])) (q:=(2*st+1 - x,y)) ⟨d,rfl,af⟩ (sd _ _ f3) (by intro ys z; cases z));rcases hst with ⟨rfl,rfl⟩ | ⟨rfl,rfl⟩
          ·rw [if_neg (by simp),if_neg (by simp),ET,ET] at w4;rw [if_pos (by rw [c5]; simp),if_neg (by simp),ET];have e:(2*(x - 1)+1 - x,y)=(x - 1,y):=Fg (by dsimp only; omega) rfl;rw [e] at w4;exact w4
          ·rw [if_neg (c:=1<1/\_) (by simp),ET,EI] at w4;rw [if_pos (c:=1<1+1/\_) (by rw [c5]; simp)];have e:(2*st+1 - st,y)=(st+1,y):=Fg (by dsimp only; omega) rfl;rw [e] at w4;have g:∀ (p:Prop) [Decidable p] (L:List (Int×Int)),(if 0<1/\p then L else [])=(if 0<1+1/\p then L else []):=fun p _ L=>by simp
           rw [g] at w4;exact w4
        ·rw [if_neg c5];left;exact ⟨_,_,rfl,s3,e3,f3,by omega,keep (by simpa using c5)⟩
       ·rw [bO c4] at rte ⊢;left;exact ⟨_,_,rfl,s3,e3,f3,by omega,keep (by rw [rte]; rfl)⟩
      ·rw [bO c3] at rte ⊢;left;exact ⟨_,_,rfl,s3,e3,f3,by omega,keep (by rw [rte]; rfl)⟩
     ·rintro σ' H3 ⟨ys,o6,rfl,s3,e3,f3,l3,w3⟩;refine ⟨_,_,rfl,s3,f3,l3,?_⟩;simp only [Ba,Jx] at w3;have g1:(0<0+1+1)=True:=by simp
      have g2:(1<0+1+1)=True:=by simp
      simp only [g1,g2,true_and] at w3;exact w3
    ·rw [bO c2];apply ⟨_,_,rfl,s1,f1,by omega,?_⟩;have e:∀ z,rt cs rs z y=false:=fun z=>by unfold rt; rw [bO c2]; simp
     rw [e,e];simp only [FJ,if_false,ET]; exact w1
   ·rw [bO c1];apply ⟨_,_,rfl,s1,f1,by omega,?_⟩;have e:∀ z,rt cs rs z y=false:=fun z=>by unfold rt; rw [bO c1]; simp
    rw [e,e];simp only [FJ,if_false,ET]; exact w1
  ·clear s1 f1 w1 lx;rintro σ' H1 ⟨xs,o6,rfl,s1,f1,lx,w1⟩;rw [Hf] at w1;generalize hA:((if rt cs rs (x - 1) y=true then [(x - 1,y)] else [])++(if rt cs rs x y=true then [(x+1,y)] else []))=PA at w1;apply cu (fun σ' H'=>∃ xs o6,σ'=[some (.ref q),some (.int x),some (.int y),some (.int ((cs.length:Int)+1)),some (.int ((rs.length:Int)+1)),some (.ref l),o6]/\ah H H'/\H' l=some (.lst xs)/\xs.length<=2+2/\au H' xs (PA++((if ups cs rs x (y - 1)=true then [(x,y - 1)] else [])++(if ups cs rs x y=true then [(x,y+1)] else [])))) ?_ ?_
   ·left;by_cases c1:0<x
    ·rw [ba c1];left;by_cases c2:x<(cs.length:Int)+1
     ·rw [ba c2];apply ⟨by show 2<=EF; decide,fun b hb=>?_⟩;have sb:=ah.new (o:=HO.tup [V.int (y - 1),V.int y]) hb;have eb:=af (H:=H1) (a:=b) (o:=HO.tup [V.int (y - 1),V.int y]);have f1:=sb _ _ f1;have w1:=w1.mono sb;have s1:=s1.trans sb;generalize upd H1 b (HO.tup [V.int (y - 1),V.int y])=H2 at sb eb f1 w1 s1 ⊢;apply ⟨⟨_,SqT.of eb⟩,pK (K:=K) (a:=b) (xs:=[V.int (y - 1),V.int y]) (fun i σ' H'=>∃ (xs:List V) (o6:Option V),σ'=[some (.ref q),some (.int x),some (.int y),some (.int ((cs.length:Int)+1)),some (.int ((rs.length:Int)+1)),some (.ref l),o6]/\ah H H'/\H' b=some (.tup [V.int (y - 1),V.int y])/\H' l=some (.lst xs)/\xs.length<=2+i/\au H' xs (PA++((if 0<i/\ups cs rs x (y - 1)=true then [(x,y - 1)] else [])++(if 1<i/\ups cs rs x y=true then [(x,y+1)] else []))))
       ⟨xs,o6,rfl,s1,eb,f1,lx,by rw [if_neg (by simp),if_neg (by simp),ET,ET]; exact w1⟩ (fun i σ' H' _ ⟨_,_,_,_,e,_⟩=>SqT.of e) ?_ ?_⟩
      ·rintro i v σ' H3 hv ⟨ys,o6,rfl,s3,e3,f3,l3,w3⟩;have hi:i<2:=(Bc.mp hv).1;obtain ⟨st,rfl,hst⟩:∃ st:Int,v=.int st/\((i=0/\st=y - 1)\/(i=1/\st=y)):=by
        match i,hi,hv with
        | 0,_,hv=>exact ⟨y - 1,(Ez hv).symm,.inl ⟨rfl,rfl⟩⟩
        | 1,_,hv=>exact ⟨y,(Ez hv).symm,.inr ⟨rfl,rfl⟩⟩
       have rte:ups cs rs x st=(decide (0<=st)&&decide (st<(rs.length:Int)+1)&&decide ((st+cs.getD (x - 1).toNat 0)%2=1)):=by
        unfold ups;rw [ba c1,ba c2]; rfl
       have keep:ups cs rs x st=false->au H3 ys (PA++((if 0<i+1/\ups cs rs x (y - 1)=true then [(x,y - 1)] else [])++(if 1<i+1/\ups cs rs x y=true then [(x,y+1)] else []))):=by
        intro hf;rcases hst with ⟨rfl,rfl⟩ | ⟨rfl,rfl⟩
        ·rw [if_neg (by simp),if_neg (by simp)] at w3;rw [if_neg (by rw [hf]; simp),if_neg (by simp)]; exact w3
        ·rw [if_neg (c:=1<1/\_) (by simp)] at w3;rw [if_neg (c:=1<1+1/\_) (by rw [hf]; simp)];have g:∀ (p:Prop) [Decidable p] (L:List (Int×Int)),(if 0<1/\p then L else [])=(if 0<1+1/\p then L else []):=fun p _ L=>by simp
         rw [g] at w3;exact w3
       left;by_cases c3:0<=st
       ·rw [ba c3] at rte ⊢;left;by_cases c4:st<(rs.length:Int)+1
        ·rw [ba c4] at rte ⊢;apply ⟨q,"col",x - 1,st,s,cs,rs,cs,rfl,pl.mono s3,.inl ⟨rfl,rfl⟩,by omega,by omega,?_⟩;left;have rte:ups cs rs x st=decide ((st+cs.getD (x - 1).toNat 0)%2=1):=rte;rw [<- rte];by_cases c5:ups cs rs x st=true
         ·rw [if_pos c5];apply bS f3 ?_;apply bZ (.inl ⟨by decide,by decide⟩) ?_;apply ⟨by show 2<=EF; decide,fun d hd=>?_⟩;have sd:=ah.new (o:=HO.tup [V.int x,V.int (2*st+1 - y)]) hd;apply aW (sd _ _ f3) (aQ (by omega)) ?_;apply ⟨_,_,rfl,(s3.trans sd).later n1,?_,af,by rw [Bd,EL]; omega,?_⟩
          ·rw [aj (cg (sd _ _ e3) (sd _ _ f3) (by intro z; cases z))]; exact sd _ _ e3
          ·have w4:=((w3.mono sd).upd (o:=.lst (ys++[V.ref d])) (sd _ _ f3) (by intro ys z; cases z)).snoc (Pt.upd (o:=.lst (ys++[V.ref d])) (q:=(x,2*st+1 - y)) ⟨d,rfl,af⟩ (sd _ _ f3) (by intro ys z; cases z));rcases hst with ⟨rfl,rfl⟩ | ⟨rfl,rfl⟩
           ·rw [if_neg (by simp),if_neg (by simp),ET,ET] at w4;rw [if_pos (by rw [c5]; simp),if_neg (by simp),ET];have e:(x,2*(y - 1)+1 - y)=(x,y - 1):=Fg rfl (by dsimp only; omega);rw [e] at w4;exact w4
           ·rw [if_neg (c:=1<1/\_) (by simp),ET,EI] at w4;rw [if_pos (c:=1<1+1/\_) (by rw [c5]; simp)];have e:(x,2*st+1 - st)=(x,st+1):=Fg rfl (by dsimp only; omega);rw [e] at w4;have g:∀ (p:Prop) [Decidable p] (L:List (Int×Int)),(if 0<1/\p then L else [])=(if 0<1+1/\p then L else []):=fun p _ L=>by simp
            rw [g] at w4;exact w4
         ·rw [if_neg c5];left;exact ⟨_,_,rfl,s3,e3,f3,by omega,keep (by simpa using c5)⟩
        ·rw [bO c4] at rte ⊢;left;exact ⟨_,_,rfl,s3,e3,f3,by omega,keep (by rw [rte]; rfl)⟩
       ·rw [bO c3] at rte ⊢;left;exact ⟨_,_,rfl,s3,e3,f3,by omega,keep (by rw [rte]; rfl)⟩
      ·rintro σ' H3 ⟨ys,o6,rfl,s3,e3,f3,l3,w3⟩;refine ⟨_,_,rfl,s3,f3,l3,?_⟩;simp only [Ba,Jx] at w3;have g1:(0<0+1+1)=True:=by simp
       have g2:(1<0+1+1)=True:=by simp
       simp only [g1,g2,true_and] at w3;exact w3
     ·rw [bO c2];apply ⟨_,_,rfl,s1,f1,by omega,?_⟩;have e:∀ z,ups cs rs x z=false:=fun z=>by unfold ups; rw [bO c2]; simp
      rw [e,e];simp only [FJ,if_false,ET]; exact w1
    ·rw [bO c1];apply ⟨_,_,rfl,s1,f1,by omega,?_⟩;have e:∀ z,ups cs rs x z=false:=fun z=>by unfold ups; rw [bO c1]; simp
     rw [e,e];simp only [FJ,if_false,ET]; exact w1
   ·clear s1 f1 w1 lx;rintro σ' H1 ⟨xs,o6,rfl,s1,f1,lx,w1⟩;left;rw [<- hA] at w1;refine vK f1 w1 (Af cs rs (x,y)) (vd cs rs (x,y)) fun l2 ys n2 w2=>?_;refine z l2 ys _ (s1.trans (ah.new n2)) (s1.free n2) af w2
noncomputable def ptD (q:Int×Int):PyData:=.tuple [.int q.1,.int q.2]
theorem yL {H:Hp} {v:V} {q:Int×Int} (h:Pt H v q):Rep H (ptD q) v:=by
 obtain ⟨a,rfl,ha⟩:=h;unfold ptD;simp only [Rep,RepL];exact ⟨a,_,rfl,ha,_,_,rfl,rfl,_,_,rfl,rfl,rfl⟩
theorem kI {H:Hp}:∀ {xs:List V} {ps:List (Int×Int)},au H xs ps->RepL H (ps.map ptD) xs
 | [],[],_=>by simp only [HW,RepL]
 | [],_::_,h=>by have:=h.1; simp at this
 | _::_,[],h=>by have:=h.1; simp at this
 | v::xs,p::ps,h=>by
  obtain ⟨v',r,e,h1,h2⟩:=h.inv
  cases e;simp only [EW,RepL];exact ⟨v,xs,rfl,yL h1,kI h2⟩
theorem nW {H:Hp} {l:Ω} {xs:List V} {ps:List (Int×Int)} (e:H l=some (.lst xs)) (h:au H xs ps):Rep H (.list (ps.map ptD)) (.ref l):=by
 simp only [Rep];exact ⟨l,xs,rfl,e,kI h⟩
theorem nF:∀ ps:List (Int×Int),G9 (ps.map ptD)=true
 | []=>rfl
 | _::r=>by simp [G9,Iw,ptD,nF r]
theorem jH {H:Hp} {xs:List V} {ps:List (Int×Int)} (h:au H xs ps) {ys:List V} (hs:∀ v∈ys,v∈xs):au H ys (ys.map (ck H)):=by
 refine ⟨by rw [Aj],fun i v q h1 h2=>?_⟩;rw [EX,h1] at h2;rw [<- Ez h2];exact h.mem v (hs v (ES h1))
theorem CC {H:Hp} {xs:List V} {ps:List (Int×Int)} (h:au H xs ps) (j:Nat):au H (xs.drop j++xs.take j) (ps.drop j++ps.take j):=by
 have:=jH h (ys:=xs.drop j++xs.take j) (fun v hv=>(EG.mp hv).elim F5 E6)
 rwa [FO,List.map_drop,List.map_take,h.map] at this
theorem Aq {H:Hp} {v:V} {xs:List V} {p:Int×Int} {ps:List (Int×Int)} (h:au H (v::xs) (p::ps)):au H ([v]++xs.reverse) (p::ps.reverse):=by
 have:=jH h (ys:=[v]++xs.reverse) (fun u hu=>by
  rcases EG.mp hu with z | z
  ·rw [Ξ.mp z]; exact θ
  ·exact Θ _ (F1.mp z))
 have e:=h.map;rw [EW] at e;injection e with e1 e2
 rwa [FO,List.map_reverse,e2,KP,e1] at this
theorem lV {cs rs:List Int} {a b:Int×Int} {l:List (Int×Int)} (r:Sm.Rnd (nb cs rs) a b l) (hm:∀ x∈a::b::l,Ts.ple a x) :
  (¬ b.1=a.1->Sm.bz (nb cs rs) true (a::b::l))/\(b.1=a.1->Sm.bz (nb cs rs) true (a::(b::l).reverse)):=by
 have G:=b7 cs rs;have h2:=r.two G a θ;have sh:=r.shut G;have nbl:=pW h2 fun x hx=>hm x (sh a θ x hx);have hb:=r.adj;rw [nbl] at hb;constructor
 ·intro h;refine ⟨(fun z=>by cases z),fun _=>⟨a,b,l,rfl,r,hm,?_⟩⟩;rcases EG.mp hb with z | z
  ·exact absurd (by rw [Ξ.mp z]) h
  ·exact Ξ.mp z
 ·intro h;obtain ⟨m,e,r'⟩:=r.back G;refine ⟨(fun z=>by cases z),fun _=>⟨a,_,m,e,r',fun x hx=>hm x ?_,?_⟩⟩
  ·rcases Bb.mp hx with z | z
   ·rw [z]; exact θ
   ·exact Θ _ (F1.mp z)
  ·obtain ⟨l1,l2⟩:=r.last G;rw [nbl] at l1;rcases EG.mp l1 with z | z
   ·exfalso
    have z:=Ξ.mp z;rcases EG.mp hb with y | y
    ·exact l2 (z.trans (Ξ.mp y).symm)
    ·have y:=Ξ.mp y;rw [y] at h;dsimp only at h;omega
   ·exact Ξ.mp z
def sp_aK:Sp:=fun vs H Q _=>∃ (l:Ω) (zs:List V) (a b:Int×Int) (m:List (Int×Int)) (cs rs:List Int),vs=[.ref l]/\H l=some (.lst zs)/\au H zs (a::b::m)/\Sm.Rnd (nb cs rs) a b m/\zs.length<=1681 /\
 ∀ T l' ys M H',ah H H'->H T=none->H l'=none->H' T=some (.tup [.bl true,.ref l'])->H' l'=some (.lst ys)->au H' ys M->Sm.bz (nb cs rs) true M->(∀ x∈a::b::m,x∈M)->Q (.ref T) H'
theorem ok_aK (T:Txt K mg t):aP P w K mg base CX0 1 t.f_aK t.d_aK ["_law_line"] sp_aK:=by
 refine T.F_aK.ok sc_aK (by walk_at "l") (fun _ _ _ s H vs Q E hr h=>?_)
 ·obtain ⟨l,zs,a,b,m,cs,rs,rfl,el,py,rd,lz,k⟩:=h;have G:=b7 cs rs;refine aM (aO 1 sc_aK.nd (cU Em PySem.F.slot_list_index PySem.F.type_list_index (u9 hr.units) (pv 0) (aa (aq (o9 K rfl rfl hr.units) rfl T.no_min (by rfl) (aa (pv 0) ae)) ae))) fun _ _=>aM (aO 0 sc_aK.nd (aA rJ (dM (gu K rfl) (pv 0) (cE (pv 1)) fF) (dM (gu K rfl) (pv 0) fF (cE (pv 1))))) fun _ _=>aM (cq (aY (bB dh (ay (aN K rfl) (ay (ar K rfl) (pv 0) ag) ag) (ay (aN K rfl) (ay (ar K rfl) (pv 0) ag) ag)) (ai (aO 0 sc_aK.nd (aA rJ (cw (aa (ay (ar K rfl) (pv 0) ag) ae)) (kq K rfl (pv 0) (cE ag) (cE (cA bN ag)))))) aD)) fun _ _=>dy (aC (bw (aa fe (aa (pv 0) ae)))) fun _ _=>?_;apply bS el ?_;left;have hne:zs≠[]:=fun z=>by have:=py.1; rw [z] at this; simp at this
  refine ue (ck H) el hne (fun v hv=>py.mem v hv) fun v hv hmin=>?_;left;obtain ⟨c,rfl,hc⟩:=py.mem v hv;have hpm:ck H (.ref c)∈a::b::m:=by rw [<- py.map]; exact EE.mpr ⟨_,hv,rfl⟩
  have hall:∀ x∈a::b::m,Ts.ple (ck H (.ref c)) x:=fun x hx=>by
   rw [<- py.map] at hx;obtain ⟨u,hu,rfl⟩:=EE.mp hx;exact hmin u hu
  generalize ck H (.ref c)=p0 at hc hpm hall;clear hmin;obtain ⟨j,hj⟩:=Fy.mp hpm;have hjl:=(Bc.mp hj).1;have ly:=py.1;refine ⟨l,zs,(a::b::m).map ptD,ptD p0,.ref c,j,ptD p0,rfl,rfl,el,kI py,yL ⟨c,rfl,hc⟩,nF _,by simp [ptD,Iw,G9],by simp [ptD,Im,Gm],by rw [EX,hj]; rfl,by unfold ptD; rw [zL,ba rfl],fun i dm hi hdm=>?_,?_⟩
  ·rw [EX] at hdm;obtain ⟨pi,hpi,rfl⟩:=JX.mp hdm;unfold ptD;rw [zL,bO];intro z;have:=(List.getElem?_inj (i:=i) (j:=j) (by omega) rd.nd).mp (by rw [hpi,hj,show pi=p0 from z])
   omega
  apply kG el fun l1 n1=>?_;rw [rl];have s1:=ah.new (o:=HO.lst (zs.drop j)) n1;have e1:=af (H:=H) (a:=l1) (o:=HO.lst (zs.drop j));generalize upd H l1 (HO.lst (zs.drop j))=H1 at s1 e1 ⊢;apply kG (s1 _ _ el) fun l2 n2=>?_;rw [rm];have s2:=ah.new (o:=HO.lst (zs.take j)) n2;have e2:=af (H:=H1) (a:=l2) (o:=HO.lst (zs.take j));generalize upd H1 l2 (HO.lst (zs.take j))=H2 at s2 e2 ⊢;apply rQ (s2 _ _ e1) e2 (by rw [Fb,E7]; exact FA (by omega:_<=1999) (by decide)) fun l3 n3=>?_;have s12:=s1.trans s2;have nl3:H l3=none:=s12.free n3;have s3:=ah.new (o:=HO.lst (zs.drop j++zs.take j)) n3;have e3:=af (H:=H2) (a:=l3) (o:=HO.lst (zs.drop j++zs.take j));generalize upd H2 l3 (HO.lst (zs.drop j++zs.take j))=H3 at s3 e3 ⊢;have s3:=s12.trans s3;have py3:=(CC py j).mono s3;obtain ⟨a1,b1,l1',eM,r1⟩:=Sm.Rnd.rot G (L:=a::b::m) j (by omega) ⟨a,b,m,rfl,rd⟩
  have ea1:a1=p0:=by
   rw [FH hjl,GU] at eM;injection eM with e _;rw [<- e];exact (Bc.mp hj).2
  subst ea1;have memr:∀ x∈a::b::m,x∈a1::b1::l1':=fun x hx=>by
   rw [<- eM];rw [<- Fx j (a::b::m)] at hx;exact EG.mpr ((EG.mp hx).symm)
  have memb:∀ x∈a1::b1::l1',x∈a::b::m:=fun x hx=>by
   rw [<- eM] at hx;exact (EG.mp hx).elim F5 E6
  obtain ⟨tA,tB⟩:=lV r1 fun x hx=>hall x (memb x hx);rw [eM] at py3;have l3':(zs.drop j++zs.take j).length<=1681:=by rw [Bd,Fb,E7]; omega
  generalize zs.drop j++zs.take j=ws at e3 py3 l3';obtain ⟨v0,r0,rfl,hv0,w0⟩:=py3.inv;obtain ⟨c0,rfl,hc0⟩:=hv0;obtain ⟨v1,r1',rfl,hv1,w1⟩:=w0.inv;obtain ⟨c1,rfl,hc1⟩:=hv1;apply cu (fun σ' H'=>∃ (l':Ω) (ys:List V) (M:List (Int×Int)),σ'=[some (.ref l'),some (.int (j:Nat))]/\ah H H'/\H l'=none/\H' l'=some (.lst ys)/\au H' ys M/\Sm.bz (nb cs rs) true M/\∀ x∈a::b::m,x∈M) ?_ ?_
  ·apply aE (SqL.of e3) (bH (j:=1) rfl) ?_;apply aR (SqT.of hc1) (v:=.int b1.1) rfl ?_;apply aE (SqL.of e3) (bH (j:=0) rfl) ?_;apply aR (SqT.of hc0) (v:=.int a1.1) rfl ?_;left;by_cases hx:b1.1=a1.1
   ·rw [ba hx];apply aE (SqL.of e3) (bH (j:=0) rfl) ?_;apply ⟨by show 1<=EF; decide,fun l4 n4=>?_⟩;have s4:=ah.new (o:=HO.lst [V.ref c0]) n4;have e4:=af (H:=H3) (a:=l4) (o:=HO.lst [V.ref c0]);generalize upd H3 l4 (HO.lst [V.ref c0])=H4 at s4 e4 ⊢;apply uh ?_;apply ⟨rfl,rfl,uf (s4 _ _ e3) (by simp) fun l5 n5=>?_⟩;have s5:=ah.new (o:=HO.lst ((V.ref c0::V.ref c1::r1').drop 1).reverse) n5;have e5:=af (H:=H4) (a:=l5) (o:=HO.lst ((V.ref c0::V.ref c1::r1').drop 1).reverse);generalize upd H4 l5 (HO.lst ((V.ref c0::V.ref c1::r1').drop 1).reverse)=H5 at s5 e5 ⊢;refine rQ (s5 _ _ e4) e5 (by rw [F0,Fb,EL]; exact FA (by omega:_<=1999) (by decide)) fun l6 n6=>?_;left;have s45:=s3.trans (s4.trans s5);have s6:=ah.new (o:=HO.lst ([V.ref c0]++((V.ref c0::V.ref c1::r1').drop 1).reverse)) n6;refine ⟨l6,_,_,rfl,s45.trans s6,s45.free n6,af,((Aq py3).mono (s4.trans (s5.trans s6))),tB hx,fun x hx=>?_⟩;rcases Bb.mp (memr x hx) with z | z
    ·rw [z]; exact θ
    ·exact Θ _ (F1.mpr z)
   ·rw [bO hx];left;exact ⟨l3,_,_,rfl,s3,nl3,e3,py3,tA hx,memr⟩
  ·rintro σ2 H4 ⟨l',ys,M,rfl,s4,n4,e4,p4,td,mm⟩;apply ⟨by show 2<=EF; decide,fun T1 nT=>?_⟩;left;have sT:=ah.new (o:=HO.tup [V.bl true,V.ref l']) nT;exact k T1 l' ys M _ (s4.trans sT) (s4.free nT) n4 af (sT _ _ e4) (p4.mono sT) td mm
theorem tG {H:Hp} {xs:List V} {ps:List (Int×Int)} (h:au H xs ps) (z:Int×Int):au H (xs.filter fun v=>!decide (ck H v=z)) (ps.filter fun c=>!decide (c=z)):=by
 have:=jH h (ys:=xs.filter fun v=>!decide (ck H v=z)) (fun v hv=>(FN.mp hv).1)
 rw [<- h.map,Ip];exact this
theorem qv {H:Hp} {Q:VK} {l m:Ω} {xs:List V} {ps:List (Int×Int)} (e:H l=some (.lst xs)) (h:au H xs ps) (e':H m=some (.lst [])) (q:Q (.bl ps.isEmpty) H) (hl:ps.length<=4):vC false (.ref l) (.ref m) H Q:=by
 refine ⟨.list (ps.map ptD),.list [],nW e h,by rw [Rep]; exact ⟨m,[],rfl,e',by rw [RepL]⟩,?_,by decide,?_⟩
 ·unfold HR;rw [FL];refine ⟨by simp only [Iw]; exact nF ps,ba ?_⟩
  have dp:∀ ps:List (Int×Int),Gm (ps.map ptD)<=1:=by
   intro ps
   induction ps with
   | nil=>exact En _
   | cons q r ih =>
    have e:Im (ptD q)<=1:=by simp [ptD,Im,Gm]
    simp only [EW,Gm];omega
  have:=dp ps
  simp only [Im];omega
 ·rw [if_neg (by decide)]
  cases ps with
  | nil => simp only [HW, Fz, GN]; exact q
  | cons p r => simp only [EW, Fz, GN]; exact q
theorem wD {α:Type} {xs:List α} (h:2<=xs.length):atI xs (-2)=xs[xs.length - 2]?:=by
 have e:ixN xs.length (-2)=some (xs.length - 2):=by
  unfold ixN;rw [if_neg (by decide),if_pos (by omega)]
  congr 1
  omega
 unfold atI;rw [e]; rfl
theorem ny:∀ (a b:Int×Int) (m:List (Int×Int)),∃ ps,a::b::m=ps++[(Sm.fin a b m).1,(Sm.fin a b m).2]
 | a,b,[]=>⟨[],rfl⟩
 | a,b,c::m=>by
  obtain ⟨ps,e⟩:=ny b c m;exact ⟨a::ps,by rw [e]; rfl⟩
theorem qr {H:Hp} {xs:List V} {ps:List (Int×Int)} {p q:Int×Int} (h:au H xs (ps++[p,q])):∃ v,atI xs (-2)=some v/\Pt H v p:=by
 have hl:=h.1;rw [Bd] at hl;have hl:xs.length=ps.length+2:=hl;refine ⟨xs[ps.length]'(by omega),by rw [wD (by omega),show xs.length - 2=ps.length by omega]; exact ς _,h.2 ps.length _ p (ς _) ?_⟩;rw [FQ (A_ _),Jv]; rfl
theorem uL {xs:List V}:dY xs none (some (-1))=xs.dropLast:=by
 unfold dY;rw [HT.fZ,HP,List.dropLast_eq_take]
 congr 1
 unfold HT.sIx;simp
 omega
theorem Ar {H:Hp} {xs:List V} {ps:List (Int×Int)} {p:Int×Int} (h:au H xs (ps++[p])):au H xs.dropLast ps:=by
 have:=jH h (ys:=xs.dropLast) (fun v hv=>List.dropLast_subset _ hv)
 rwa [List.map_dropLast,h.map,Ik] at this
theorem yf {H:Hp}:∀ {xs ys:List V} {ps qs:List (Int×Int)},au H xs ps->au H ys qs->au H (xs++ys) (ps++qs)
 | [],_,[],_,_,h=>h
 | [],_,_::_,_,h,_=>by have:=h.1; simp at this
 | _::_,_,[],_,h,_=>by have:=h.1; simp at this
 | v::xs,ys,p::ps,qs,h,h'=>by
  obtain ⟨v',r,e,h1,h2⟩:=h.inv
  cases e;exact au.cons h1 (yf h2 h')
def sp_aQ:Sp:=fun vs H Q _=>∃ (pp a:Ω) (q:Int×Int) (s:Int) (cs rs:List Int),vs=[.ref pp,.ref a]/\eK true H pp s cs rs/\cs.length<=39/\rs.length<=39/\H a=some (.tup [.int q.1,.int q.2])/\cR cs rs q /\
 (nb cs rs q=[]->∀ H',ah H H'->Q .non H') /\
 (nb cs rs q≠[]->∀ TT l f ys L H',ah H H'->H TT=none->H l=none->H' TT=some (.tup [.bl f,.ref l])->H' l=some (.lst ys)->Sm.bz (nb cs rs) f L->q∈L->au H' ys L->Q (.ref TT) H')
theorem ok_aQ (T:Txt K mg t):aP P w K mg base CX0 3 t.f_aQ t.d_aQ ["_law_plan_here","_law_point"] sp_aQ:=by
  refine T.F_aQ.ok sc_aQ (fun vs H Q E h=>?_) (fun cdv A outer s H vs Q E hr h=>?_)
  · obtain ⟨pp,a,q,s,cs,rs,rfl,_⟩:=h; rfl
  · obtain ⟨pp,a,q,s,cs,rs,rfl,pl,lc,lr,ha,iq,k0,k⟩:=h
    have G:=b7 cs rs;refine aM (aO 2 sc_aQ.nd (ao (ok_aC T) (rmo hr) rfl T.mg_aC T.F_aC.kp T.b_aC .nil aB (aa (pv 0) (aa (ay (aN K rfl) (pv 1) ag) (aa (ay (aN K rfl) (pv 1) ag) ae))))) fun _ _=>aM (aY (bB (kc hr.units) (pv 2) (cw ae)) (ai (aC i7)) aD) fun _ _=>aM (fG (i:=3) sc_aQ.nd rfl (JW rfl) (cw (aa (pv 1) (aa (ay (ar K rfl) (pv 2) ag) ae)))) fun _ _=>aM (cq (fU FI (bB (kg hr.units) (ay (ar K rfl) (pv 3) (cA bN ag)) (pv 1)) (aL (jF (i:=4) sc_aQ.nd rfl (Fp rfl) (N:=["_law_one","_law_line"]) (cap:=[none,some 3]) rfl ⟨rfl,rfl,rfl,rfl,rfl,rfl⟩ (bK (ao (ok_aC T) (rmo hr) rfl T.mg_aC T.F_aC.kp T.b_aC .nil aB (aa (pv 0) (aa (ay (aN K rfl) (ay (ar K rfl) (pv 3) (cA bN ag)) ag) (aa (ay (aN K rfl) (ay (ar K rfl) (pv 3) (cA bN ag)) ag) ae))))) (fun _ _ _=>(aG (i:=0) (show (["_law_one","_law_line"]:List Str).Nodup by decide +kernel) rfl (Fp rfl))) (fun _ _ _=>(jG (bB (kg hr.units) (pv 0) (ay (ar K rfl) (pv 1) (cA bN ag))))) (fun _ _ _=>(pv 0)) (by rfl)) (aL (aY (bB (kc hr.units) (pv 4) (cw ae)) (ai x9) aD) (ai (bC (cU Em Eu Et a8 (pv 3) (aa (ay (ar K rfl) (pv 4) ag) ae)))))))) fun _ _=>aM (aY (bB (kc hr.units) (ay (ar K rfl) (pv 3) (cA bN ag)) (pv 1)) (ai (aC (ao (ok_aK T) (rmo hr) rfl T.mg_aK T.F_aK.kp T.b_aK .nil aB (aa (dM (gu K rfl) (pv 3) fF (cE (cA bN ag))) ae)))) aD) fun _ _=>aM (cq (aY (bB dh (aq (bp K rfl) rfl T.no_len (by rfl) (aa (pv 2) ae)) ag) (aL (fG (i:=5) sc_aQ.nd rfl (JW rfl) (cw (aa (pv 1) (aa (ay (ar K rfl) (pv 2) ag) ae)))) (aL (cq (fU FI (bB dh (aq (bp K rfl) rfl T.no_len (by rfl) (aa (ao (ok_aC T) (rmo hr) rfl T.mg_aC T.F_aC.kp T.b_aC .nil aB (aa (pv 0) (aa (ay (aN K rfl) (ay (ar K rfl) (pv 5) (cA bN ag)) ag) (aa (ay (aN K rfl) (ay (ar K rfl) (pv 5) (cA bN ag)) ag) ae)))) ae)) ag) (ai (bC (cU Em Eu Et a8 (pv 5) (aa (ay (ar K rfl) (bW (N:=["_law_one","_law_back"]) (cap:=[none,some 5]) rfl ⟨rfl,rfl,rfl,rfl,rfl,rfl⟩ (bK (ao (ok_aC T) (rmo hr) rfl T.mg_aC T.F_aC.kp T.b_aC .nil aB (aa (pv 0) (aa (ay (aN K rfl) (ay (ar K rfl) (pv 5) (cA bN ag)) ag) (aa (ay (aN K rfl) (ay (ar K rfl) (pv 5) (cA bN ag)) ag) ae))))) (fun _ _ _=>(aG (i:=0) (show (["_law_one","_law_back"]:List Str).Nodup by decide +kernel) rfl (Fp rfl))) (fun _ _ _=>(jG (bB (kg hr.units) (pv 0) (ay (ar K rfl) (pv 1) (cA bN ag))))) (fun _ _ _=>(pv 0))) ag) ae)))))) (ai (fG (i:=3) sc_aQ.nd rfl (JW rfl) (aA rJ (kq K rfl (pv 5) (cE ag) (cE (cA bN ag))) (pv 3)))))) aD)) fun _ _=>aM (cq (aY (bB (xQ hr.units) (ay (ar K rfl) (pv 3) (cA bN ag)) (ay (ar K rfl) (pv 3) ag)) (ai (fG (i:=3) sc_aQ.nd rfl (JW rfl) (vt K rfl (pv 3) (cE (cA bN ag))))) aD)) fun _ _=>dy (aC (bw (aa fe (aa (pv 3) ae)))) fun _ _=>?_;apply aR (SqT.of ha) (v:=.int q.1) rfl ?_;apply aR (SqT.of ha) (v:=.int q.2) rfl ?_;apply ⟨pp,q.1,q.2,s,cs,rs,rfl,pl,fun ln us H1 s1 nn en wn=>?_⟩;have wn:au H1 us (nb cs rs q):=wn;apply ⟨En _,fun l0 n0=>?_⟩;have s2:=ah.new (o:=HO.lst []) n0;have e0:=af (H:=H1) (a:=l0) (o:=HO.lst []);generalize upd H1 l0 (HO.lst [])=H2 at s2 e0 ⊢;left;have wn:=wn.mono s2;have en:=s2 _ _ en;have s2:=s1.trans s2;refine qv en wn e0 ?_ (nI cs rs q)
    match hz:nb cs rs q,wn with
    | [],wn =>
      left;exact k0 hz _ s2
    | y::dO,wn =>
      have k:=k (by rw [hz]; simp);have hy:y∈nb cs rs q:=by rw [hz]; exact θ
      obtain ⟨v,r,e,hv,wr⟩:=wn.inv;subst e;obtain ⟨b,rfl,hb⟩:=hv;rw [show (y::dO).isEmpty=false from rfl];apply aE (SqL.of en) (bH (j:=0) rfl) ?_;apply ⟨by show 2<=EF; decide,fun ll nl=>?_⟩;have s3:=ah.new (o:=HO.lst [V.ref a,V.ref b]) nl;have e3:=af (H:=H2) (a:=ll) (o:=HO.lst [V.ref a,V.ref b]);generalize upd H2 ll (HO.lst [V.ref a,V.ref b])=H3 at s3 e3 ⊢;have w3:au H3 [V.ref a,V.ref b] [q,y]:=au.cons ⟨a,rfl,s3 _ _ (s2 _ _ ha)⟩ (au.cons ⟨b,rfl,s3 _ _ hb⟩ au.nil);have nll:H ll=none:=s2.free nl;have nlh2:=nl;have en3:=s3 _ _ en;have wn3:=wn.mono s3;have s3:=s2.trans s3;apply cu (fun σ' H'=>∃ (o4:Option V) (xs:List V) (m':List (Int×Int)),σ'=[some (.ref pp),some (.ref a),some (.ref ln),some (.ref ll),o4,none]/\ah H H'/\H' ln=some (.lst (V.ref b::r))/\au H' (V.ref b::r) (y::dO)/\H' ll=some (.lst xs)/\au H' xs (q::y::m')/\Sm.Go (nb cs rs) q y m'/\m'.length<=1681 /\
          ((∃ m0,m'=m0++[q]/\Sm.Rnd (nb cs rs) q y m0)\/(q∉y::m'/\Sm.oth (nb cs rs) (Sm.fin q y m').1 (Sm.fin q y m').2=[]))) ?_ ?_
      · apply ⟨fun m σ' H'=>∃ (o4:Option V) (xs:List V) (m':List (Int×Int)),m=2000 - m'.length/\σ'=[some (.ref pp),some (.ref a),some (.ref ln),some (.ref ll),o4,none]/\ah H H'/\H' ln=some (.lst (V.ref b::r))/\au H' (V.ref b::r) (y::dO)/\H' ll=some (.lst xs)/\au H' xs (q::y::m')/\Sm.Go (nb cs rs) q y m'/\m'.length<=1681/\q∉(y::m').dropLast,
          ⟨_,none,_,[],rfl,rfl,s3,en3,wn3,e3,w3,trivial,En _,by simp⟩,?_⟩
        rintro m σ' H4 ⟨o4,xs,m',rfl,rfl,s4,en4,wn4,e4,w4,go,lm,nd0⟩;obtain ⟨ps,eps⟩:=dB (a:=q) (b:=y) (m:=m');obtain ⟨vl,hvl,plast⟩:=eE (by rw [<- eps]; exact w4);obtain ⟨al,rfl,hal⟩:=plast;apply aE (SqL.of e4) hvl ?_;apply kF hal (s4 _ _ ha) ?_;by_cases c:(Sm.fin q y m').2=q
        · rw [ba (show (((Sm.fin q y m').2.1,(Sm.fin q y m').2.2):Int×Int)=(q.1,q.2) from c)]
          apply ⟨_,xs,m',rfl,s4,en4,wn4,e4,w4,go,lm,.inl ?_⟩
          cases m' with
          | nil=>exact absurd (show y=q from c) (fun e=>G.irr q (by rw [e] at hy; exact hy))
          | cons c0 mm =>
            obtain ⟨m0,z,hm⟩:∃ m0 z,c0::mm=m0++[z]:=⟨(c0::mm).dropLast,(c0::mm).getLast (by simp),(Ff _).symm⟩
            rw [hm] at go nd0 c ⊢;rw [Sm.eY] at c;dsimp only at c;subst c;obtain ⟨g1,g2⟩:=Sm.cD.mp go;have e:(y::(m0++[z])).dropLast=y::m0:=by rw [<- GU,Ik]
            rw [e] at nd0;exact ⟨m0,rfl,hy,g1,g2,Sm.cm G hy m0 g1 fun x=>nd0 (Θ _ x)⟩
        · rw [bO (show ¬ (((Sm.fin q y m').2.1,(Sm.fin q y m').2.2):Int×Int)=(q.1,q.2) from c)]
          have nq:q∉y::m':=fun x=>by
            have e:y::m'=(y::m').dropLast++[(Sm.fin q y m').2]:=by
              have h1:=Sm.eX q y m';rw [Ja] at h1;obtain ⟨d,hd⟩:=List.getLast?_eq_some_iff.mp h1;rw [hd,Ik]
            rw [e] at x;rcases EG.mp x with x | x
            · exact nd0 x
            · exact c (Ξ.mp x).symm
          have nd:=Sm.cm G hy m' go fun x=>nq (Θ _ x);have few:=iB lc lr nd (fun x hx=>by
            rcases Bb.mp hx with e | hx
            · rw [e]; exact iq
            · exact fz hy go x hx)
          rw [Ba,Ba] at few;obtain ⟨ps2,eps2⟩:=ny q y m';obtain ⟨v2,hv2,pl2⟩:=qr (by rw [<- eps2]; exact w4);obtain ⟨a2,rfl,ha2⟩:=pl2;apply ⟨fun σ' H'=>∃ (o4:Option V) (xs:List V) (qc:Int×Int),σ'=[some (.ref pp),some (.ref a),some (.ref ln),some (.ref ll),o4,none]/\ah H H'/\H' ln=some (.lst (V.ref b::r))/\au H' (V.ref b::r) (y::dO)/\H' ll=some (.lst xs)/\au H' xs (q::y::(m'++[qc]))/\Sm.oth (nb cs rs) (Sm.fin q y m').1 (Sm.fin q y m').2=[qc],?_,?_⟩
          · rintro σ' H' ⟨o4,xs,qc,rfl,s5,en5,wn5,e5,w5,eo⟩
            refine ⟨_,?_,o4,xs,m'++[qc],rfl,rfl,s5,en5,wn5,e5,w5,Sm.cD.mpr ⟨go,eo⟩,?_,?_⟩
            · rw [Bd,EL]; omega
            · rw [Bd,EL]; omega
            · rw [<- GU,Ik]; exact nq
          · apply aE (SqL.of e4) hvl ?_;apply aR (SqT.of hal) (v:=.int (Sm.fin q y m').2.1) rfl ?_;apply aE (SqL.of e4) hvl ?_;apply aR (SqT.of hal) (v:=.int (Sm.fin q y m').2.2) rfl ?_;apply ⟨pp,(Sm.fin q y m').2.1,(Sm.fin q y m').2.2,s,cs,rs,rfl,pl.mono s4,fun lj us H5 s5 nj ej wj=>?_⟩;have wj:au H5 us (nb cs rs (Sm.fin q y m').2):=wj;apply ⟨⟨_,SqL.of ej⟩,fun lw nw=>?_⟩;have l4:us.length<=4:=by rw [wj.1]; exact nI cs rs _
            refine fu (fun v=>v) (fun v=>!decide (ck H5 v=(Sm.fin q y m').1)) (SqL.of ej) (by omega) nw (fun x o H6 Q' hx s6 q=>?_) (fun x o H6 Q' hx _ s6 q=>?_) (fun H6 s6 e6=>?_)
            · apply aE (SqL.of (s6 _ _ (s5 _ _ e4))) hv2 ?_;left;obtain ⟨ax,rfl,hax⟩:=wj.mem x hx;refine kF (s6 _ _ hax) (s6 _ _ (s5 _ _ ha2)) ?_;left;exact q H6 (ah.refl _)
            · left
              exact q H6 (ah.refl _)
            rw [L5] at e6;have w6:=(tG wj (Sm.fin q y m').1).mono s6;have w6:au H6 _ (Sm.oth (nb cs rs) (Sm.fin q y m').1 (Sm.fin q y m').2):=w6;generalize (us.filter fun v=>!decide (ck H5 v=(Sm.fin q y m').1))=ws at e6 w6;have s46:=s5.trans s6;have en6:=s46 _ _ en4;have wn6:=wn4.mono s46;have e46:=s46 _ _ e4;have w46:=w4.mono s46;have s46:=s4.trans s46;apply ⟨En _,fun l7 n7=>?_⟩;have s7:=ah.new (o:=HO.lst []) n7;have e7:=af (H:=H6) (a:=l7) (o:=HO.lst []);generalize upd H6 l7 (HO.lst [])=H7 at s7 e7 ⊢;have hadj:=G.sym (Sm.cM G hy go);apply qv (s7 _ _ e6) (w6.mono s7) e7 ?_ (by rcases Sm.hG G hadj with h | ⟨z,h⟩<;>rw [h]<;>simp);rcases Sm.hG G hadj with h | ⟨qc,h⟩
            · rw [h]
              left;exact ⟨_,xs,m',rfl,s46.trans s7,s7 _ _ en6,wn6.mono s7,s7 _ _ e46,w46.mono s7,go,lm,.inr ⟨nq,h⟩⟩
            · rw [h] at w6 ⊢
              rw [show ([qc]:List (Int×Int)).isEmpty=false from rfl];left;obtain ⟨vc,r6,rfl,hvc,_⟩:=w6.inv;obtain ⟨cc,rfl,hcc⟩:=hvc;have e47:=s7 _ _ e46;refine bS e47 ?_;apply aE (SqL.of (s7 _ _ e6)) (bH (j:=0) rfl) ?_;left;have lx:=w4.1;rw [Ba,Ba] at lx;refine aW e47 (aQ (by omega)) ?_;have w8:=((w46.mono s7).upd (o:=.lst (xs++[V.ref cc])) e47 (by intro ys z; cases z)).snoc (Pt.upd (o:=.lst (xs++[V.ref cc])) (q:=qc) ⟨cc,rfl,s7 _ _ hcc⟩ e47 (by intro ys z; cases z));have lnl:ln≠ll:=by intro z; rw [z,nlh2] at en; cases en
              refine ⟨_,_,qc,rfl,(s46.trans s7).later (o:=.lst (xs++[V.ref cc])) nll,(aj lnl).trans (s7 _ _ en6),(wn6.mono s7).upd e47 (by intro ys z; cases z),af,?_,rfl⟩
              simpa using w8
      · rintro σ2 H4 ⟨o4,xs,m',rfl,s4,en4,wn4,e4,w4,go,lm,hcase⟩
        obtain ⟨ps,eps⟩:=dB (a:=q) (b:=y) (m:=m');obtain ⟨vl,hvl,plast⟩:=eE (by rw [<- eps]; exact w4);obtain ⟨al,rfl,hal⟩:=plast;have lx:=w4.1;rw [Ba,Ba] at lx;apply aE (SqL.of e4) hvl ?_;apply CT hal (s4 _ _ ha) ?_;rcases hcase with ⟨m0,rfl,rn⟩ | ⟨nq,hst⟩
        · have c:(Sm.fin q y (m0++[q])).2=q:=by rw [Sm.eY]
          rw [ba (show (((Sm.fin q y (m0++[q])).2.1,(Sm.fin q y (m0++[q])).2.2):Int×Int)=(q.1,q.2) from c)];apply kG e4 fun l5 n5=>?_;rw [uL];have s5:=ah.new (o:=HO.lst xs.dropLast) n5;have e5:=af (H:=H4) (a:=l5) (o:=HO.lst xs.dropLast);generalize upd H4 l5 (HO.lst xs.dropLast)=H5 at s5 e5 ⊢;have w5:=(Ar (ps:=q::y::m0) (by simpa using w4)).mono s5;apply ⟨l5,_,q,y,m0,cs,rs,rfl,e5,w5,rn,by rw [w5.1]; exact iB lc lr rn.nd (fun x hx=>(Bb.mp hx).elim (fun e=>by rw [e]; exact iq) (fz hy rn.go x)),fun T1 l' ys M H6 s6 nT nl' eT el' py td mm=>?_⟩;have s45:=s4.trans s5;exact k T1 l' true ys M H6 (s45.trans s6) (s45.free nT) (s45.free nl') eT el' td (mm q θ) py
        · have c:(Sm.fin q y m').2≠q:=fun z=>nq (by rw [<- z]; exact (Sm.bP q y m').1)
          rw [bO (show ¬ (((Sm.fin q y m').2.1,(Sm.fin q y m').2.2):Int×Int)=(q.1,q.2) from c)];left;have hadj:=G.sym (Sm.cM G hy go);refine cu (fun σ' H'=>∃ (l':Ω) (o4 o5:Option V) (ys:List V) (a1 b1:Int×Int) (l1:List (Int×Int)),σ'=[some (.ref pp),some (.ref a),some (.ref ln),some (.ref l'),o4,o5]/\ah H H'/\H l'=none/\H' l'=some (.lst ys)/\au H' ys (a1::b1::l1)/\Sm.jt (nb cs rs) a1 b1 l1/\q∈a1::b1::l1) ?_ ?_
          · apply bq en4 ?_;have lr1:=wn4.1;rw [lr1];left;have nd:=Sm.cm G hy m' go fun x=>nq (Θ _ x)
            match dO,hz,wn4 with
            | [],hz,wn4 =>
              rw [show decide ((([y]:List (Int×Int)).length:Int)=2)=false from rfl];left;exact ⟨ll,_,_,xs,q,y,m',rfl,s4,nll,e4,w4,⟨hy,go,by rw [hz]; rfl,hst,nd⟩,θ⟩
            | y2::y3::_,hz,wn4=>exact absurd (G.le2 q) (by rw [hz]; simp)
            | [y2],hz,wn4 =>
              rw [show decide ((([y,y2]:List (Int×Int)).length:Int)=2)=true from rfl];have hy2:y2∈nb cs rs q:=by rw [hz]; simp
              have hne:y≠y2:=fun z=>by have:=G.nd q; rw [hz,z] at this; simp at this
              obtain ⟨_,r2,e,_,wr2⟩:=wn4.inv;injection e with e1 e2;subst e1 e2;obtain ⟨v2,r3,e,hv2,_⟩:=wr2.inv;subst e;obtain ⟨b2,rfl,hb2⟩:=hv2;apply aE (SqL.of en4) (bH (j:=1) rfl) ?_;apply ⟨by show 2<=EF; decide,fun lb nlb=>?_⟩;have s5:=ah.new (o:=HO.lst [V.ref a,V.ref b2]) nlb;have e5:=af (H:=H4) (a:=lb) (o:=HO.lst [V.ref a,V.ref b2]);generalize upd H4 lb (HO.lst [V.ref a,V.ref b2])=H5 at s5 e5 ⊢;have w5:au H5 [V.ref a,V.ref b2] [q,y2]:=au.cons ⟨a,rfl,s5 _ _ (s4 _ _ ha)⟩ (au.cons ⟨b2,rfl,s5 _ _ hb2⟩ au.nil);have llb:ll≠lb:=by intro z; rw [z,nlb] at e4; cases e4
              have nlbH:H lb=none:=s4.free nlb;apply cu (fun σ' H'=>∃ (o4:Option V) (zs:List V) (m2:List (Int×Int)),σ'=[some (.ref pp),some (.ref a),some (.ref ln),some (.ref ll),o4,some (.ref lb)]/\ah H H'/\H' ll=some (.lst xs)/\au H' xs (q::y::m')/\H' lb=some (.lst zs)/\au H' zs (q::y2::m2)/\Sm.Go (nb cs rs) q y2 m2/\m2.length<=1681/\Sm.oth (nb cs rs) (Sm.fin q y2 m2).1 (Sm.fin q y2 m2).2=[]) ?_ ?_
              · apply ⟨fun m σ' H'=>∃ (o4:Option V) (zs:List V) (m2:List (Int×Int)),m=2000 - m2.length/\σ'=[some (.ref pp),some (.ref a),some (.ref ln),some (.ref ll),o4,some (.ref lb)]/\ah H H'/\H' ll=some (.lst xs)/\au H' xs (q::y::m')/\H' lb=some (.lst zs)/\au H' zs (q::y2::m2)/\Sm.Go (nb cs rs) q y2 m2/\m2.length<=1681/\q∉y2::m2,
                  ⟨_,_,_,[],rfl,rfl,s4.trans s5,s5 _ _ e4,w4.mono s5,e5,w5,trivial,En _,fun z=>G.irr q (by rw [<- Ξ.mp z] at hy2; exact hy2)⟩,?_⟩
                rintro m σ' H6 ⟨o4,zs,m2,rfl,rfl,s6,e6,w6,eb6,wb6,gb,lm2,nq2⟩;obtain ⟨ps3,eps3⟩:=dB (a:=q) (b:=y2) (m:=m2);obtain ⟨v3,hv3,pl3⟩:=eE (by rw [<- eps3]; exact wb6);obtain ⟨a3,rfl,ha3⟩:=pl3;obtain ⟨ps4,eps4⟩:=ny q y2 m2;obtain ⟨v4,hv4,pl4⟩:=qr (by rw [<- eps4]; exact wb6);obtain ⟨a4,rfl,ha4⟩:=pl4;have hadj2:=G.sym (Sm.cM G hy2 gb);apply aE (SqL.of eb6) hv3 ?_;apply aR (SqT.of ha3) (v:=.int (Sm.fin q y2 m2).2.1) rfl ?_;apply aE (SqL.of eb6) hv3 ?_;apply aR (SqT.of ha3) (v:=.int (Sm.fin q y2 m2).2.2) rfl ?_;apply ⟨pp,(Sm.fin q y2 m2).2.1,(Sm.fin q y2 m2).2.2,s,cs,rs,rfl,pl.mono s6,fun lj us H7 s7 nj ej wj=>?_⟩;have wj:au H7 us (nb cs rs (Sm.fin q y2 m2).2):=wj;apply bq ej ?_;rw [wj.1];left;have nd2:=Sm.cm G hy2 m2 gb fun x=>nq2 (Θ _ x);have few2:=iB lc lr nd2 (fun x hx=>(Bb.mp hx).elim (fun e=>by rw [e]; exact iq) (fz hy2 gb x));rw [Ba,Ba] at few2;by_cases hd:(nb cs rs (Sm.fin q y2 m2).2).length=2
                · rw [ba (by rw [hd]; rfl)]
                  obtain ⟨qc,hqc⟩:∃ qc,Sm.oth (nb cs rs) (Sm.fin q y2 m2).1 (Sm.fin q y2 m2).2=[qc]:=by
                    rcases Sm.hG G hadj2 with h | h
                    · have w:Sm.Wlk (nb cs rs) q y2 m2:=⟨hy2,gb,nd2,.inl h⟩
                      have:=(w.ended G).mpr h
                      omega
                    · exact h
                  apply ⟨fun σ' H'=>∃ (o4:Option V) (zs:List V),σ'=[some (.ref pp),some (.ref a),some (.ref ln),some (.ref ll),o4,some (.ref lb)]/\ah H H'/\H' ll=some (.lst xs)/\au H' xs (q::y::m')/\H' lb=some (.lst zs)/\au H' zs (q::y2::(m2++[qc])),?_,?_⟩
                  · rintro σ' H' ⟨o4,zs,rfl,s8,e8,w8,eb8,wb8⟩
                    refine ⟨_,?_,o4,zs,m2++[qc],rfl,rfl,s8,e8,w8,eb8,wb8,Sm.cD.mpr ⟨gb,hqc⟩,?_,?_⟩
                    · rw [Bd,EL]; omega
                    · rw [Bd,EL]; omega
                    · intro z
                      rw [<- GU] at z;rcases EG.mp z with z | z
                      · exact nq2 z
                      · have z:=Ξ.mp z
                        rw [<- z] at hqc;have rn:Sm.Rnd (nb cs rs) q y2 m2:=⟨hy2,gb,hqc,nd2⟩
                        have wk:Sm.Wlk (nb cs rs) q y m':=⟨hy,go,nd,.inl hst⟩
                        have h1:=(wk.ended G).mpr hst;have h2:=rn.two G _ (Sm.gS G (rn.shut G) hy go q θ θ _ (Θ _ (Sm.bP q y m').1));omega
                  · have s67:=s6.trans s7
                    have eb7:=s7 _ _ eb6;apply bS eb7 ?_;apply aE (SqL.of eb7) hv3 ?_;apply aR (SqT.of (s7 _ _ ha3)) (v:=.int (Sm.fin q y2 m2).2.1) rfl ?_;apply aE (SqL.of eb7) hv3 ?_;apply aR (SqT.of (s7 _ _ ha3)) (v:=.int (Sm.fin q y2 m2).2.2) rfl ?_;apply ⟨pp,(Sm.fin q y2 m2).2.1,(Sm.fin q y2 m2).2.2,s,cs,rs,rfl,pl.mono s67,fun lk us2 H8 s8 nk ek wk=>?_⟩;have wk:au H8 us2 (nb cs rs (Sm.fin q y2 m2).2):=wk;apply ⟨⟨_,SqL.of ek⟩,fun lw nw=>?_⟩;have l4:us2.length<=4:=by rw [wk.1]; exact nI cs rs _
                    refine fu (fun v=>v) (fun v=>!decide (ck H8 v=(Sm.fin q y2 m2).1)) (SqL.of ek) (by omega) nw (fun x o H9 Q' hx s9 qq=>?_) (fun x o H9 Q' hx _ s9 qq=>?_) (fun H9 s9 e9=>?_)
                    · apply aE (SqL.of (s9 _ _ (s8 _ _ eb7))) hv4 ?_;left;obtain ⟨ax,rfl,hax⟩:=wk.mem x hx;refine kF (s9 _ _ hax) (s9 _ _ (s8 _ _ (s7 _ _ ha4))) ?_;left;exact qq H9 (ah.refl _)
                    · left
                      exact qq H9 (ah.refl _)
                    rw [L5] at e9;have w9:=(tG wk (Sm.fin q y2 m2).1).mono s9;have w9:au H9 _ (Sm.oth (nb cs rs) (Sm.fin q y2 m2).1 (Sm.fin q y2 m2).2):=w9;rw [hqc] at w9;generalize (us2.filter fun v=>!decide (ck H8 v=(Sm.fin q y2 m2).1))=ws at e9 w9;obtain ⟨vc,r9,rfl,hvc,_⟩:=w9.inv;obtain ⟨cc,rfl,hcc⟩:=hvc;have s79:=s7.trans (s8.trans s9);have eb9:=s79 _ _ eb6;apply aE (SqL.of e9) (bH (j:=0) rfl) ?_;left;have lzz:=wb6.1;rw [Ba,Ba] at lzz;refine aW eb9 (aQ (by omega)) ?_;have wz:=((wb6.mono s79).upd (o:=.lst (zs++[V.ref cc])) eb9 (by intro ys z; cases z)).snoc (Pt.upd (o:=.lst (zs++[V.ref cc])) (q:=qc) ⟨cc,rfl,hcc⟩ eb9 (by intro ys z; cases z));refine ⟨_,_,rfl,(s6.trans s79).later (o:=.lst (zs++[V.ref cc])) nlbH,(aj llb).trans (s79 _ _ e6),(w6.mono s79).upd eb9 (by intro ys z; cases z),af,?_⟩
                    simpa using wz
                · rw [bO (by omega)]
                  apply ⟨_,zs,m2,rfl,s6.trans s7,s7 _ _ e6,w6.mono s7,s7 _ _ eb6,wb6.mono s7,gb,lm2,?_⟩;rcases Sm.hG G hadj2 with h | ⟨c2,h⟩
                  · exact h
                  · exfalso
                    have hc2:c2∈Sm.oth (nb cs rs) (Sm.fin q y2 m2).1 (Sm.fin q y2 m2).2:=by rw [h]; exact Ξ.mpr rfl
                    obtain ⟨x1,x2⟩:=Sm.aK.mp hc2;exact hd (Sm.two_len G x1 hadj2 x2)
              · rintro σ2 H6 ⟨o4,zs,m2,rfl,s6,e6,w6,eb6,wb6,gb,lm2,hst2⟩
                apply uh ?_;left;obtain ⟨vz,zs',ez,_,wz'⟩:=wb6.inv;subst ez;refine ⟨rfl,rfl,uf eb6 (by simp) fun l7 n7=>?_⟩;have s7:=ah.new (o:=HO.lst ((vz::zs').drop 1).reverse) n7;have e7:=af (H:=H6) (a:=l7) (o:=HO.lst ((vz::zs').drop 1).reverse);generalize upd H6 l7 (HO.lst ((vz::zs').drop 1).reverse)=H7 at s7 e7 ⊢;have e7:H7 l7=some (.lst zs'.reverse):=e7;have lzz:=wb6.1;rw [Ba,Ba,Ba] at lzz;apply rQ e7 (s7 _ _ e6) (by rw [F0]; exact FA (by omega:_<=5000) (by decide)) fun l8 n8=>?_;left;have s67:=s6.trans s7;have s8:=ah.new (o:=HO.lst (zs'.reverse++xs)) n8;obtain ⟨a1,b1,l1,ej,oj,_⟩:=Sm.vm G hy hy2 hne go gb hst hst2;have wj:=(yf ((wz'.mono s7).rev) (w6.mono s7)).mono s8;rw [ej] at wj;refine ⟨l8,_,_,_,a1,b1,l1,rfl,s67.trans s8,s67.free n8,af,wj,oj,?_⟩;rw [<- ej];exact ED _ θ
          · rintro σ2 H5 ⟨l',o4,o5,ys,a1,b1,l1,rfl,s5,nl',e5,w5,op,hq⟩
            obtain ⟨tA,tB⟩:=Sm.mG G op;obtain ⟨ps,eps⟩:=dB (a:=a1) (b:=b1) (m:=l1);obtain ⟨vl,hvl,plast⟩:=eE (by rw [<- eps]; exact w5);obtain ⟨v0,r0,e0,hv0,_⟩:=w5.inv;have ly:=w5.1;apply cu (fun σ' H'=>∃ (l':Ω) (o4 o5:Option V) (ys:List V) (M:List (Int×Int)),σ'=[some (.ref pp),some (.ref a),some (.ref ln),some (.ref l'),o4,o5]/\ah H H'/\H l'=none/\H' l'=some (.lst ys)/\au H' ys M/\Sm.bz (nb cs rs) false M/\q∈M) ?_ ?_
            · apply aE (SqL.of e5) hvl ?_;apply aE (SqL.of e5) (bH (j:=0) (by rw [e0]; rfl)) ?_;apply yv plast hv0 ?_;left
              cases hlt:Ts.plt (Sm.fin a1 b1 l1).2 a1 with
              | true =>
                apply AY ?_;apply ⟨rfl,rR e5 fun l6 n6=>?_⟩;left;have s6:=ah.new (o:=HO.lst ys.reverse) n6;exact ⟨l6,_,_,_,_,rfl,s5.trans s6,s5.free n6,af,w5.rev.mono s6,tA hlt,F1.mpr hq⟩
              | false =>
                left;exact ⟨l',_,_,_,_,rfl,s5,nl',e5,w5,tB hlt,hq⟩
            · rintro σ2 H6 ⟨l2,o4,o5,ys2,M,rfl,s6,n6,e6,w6,td,hqM⟩
              apply ⟨by show 2<=EF; decide,fun TT nT=>?_⟩;left;have sT:=ah.new (o:=HO.tup [V.bl false,V.ref l2]) nT;exact k TT l2 false ys2 M _ (s6.trans sT) (s6.free nT) n6 af (sT _ _ e6) td hqM (w6.mono sT)
theorem xy {L:List Sm1} {e:Sm1} (h:e∈L):e.2.length<=(bu L).length:=by
 induction L with
 | nil=>cases h
 | cons a L ih =>
  unfold bu at ih ⊢;rw [JI,Bd];rcases Bb.mp h with z | z
  ·rw [z]; omega
  ·have:=ih z; omega
def LnV (H:Hp) (v:V) (M:List (Int×Int)):Prop:=∃ l zs,v=.ref l/\H l=some (.lst zs)/\au H zs M
def mO (H:Hp) (xs:List V) (Ms:List (List (Int×Int))):Prop:=xs.length=Ms.length/\∀ (i:Nat) v M,xs[i]?=some v->Ms[i]?=some M->LnV H v M
theorem mO.nil {H:Hp}:mO H [] []:=⟨rfl,fun i v M h=>by simp at h⟩
theorem mO.cons {H:Hp} {v:V} {M:List (Int×Int)} {xs:List V} {Ms:List (List (Int×Int))} (h1:LnV H v M) (h:mO H xs Ms):mO H (v::xs) (M::Ms):=by
 refine ⟨by rw [Ba,Ba,h.1],fun i v' q' e1 e2=>?_⟩
 cases i with
 | zero=>simp only [Fj,F7] at e1 e2; rw [<- e1,<- e2]; exact h1
 | succ i=>simp only [Fl] at e1 e2; exact h.2 i v' q' e1 e2
noncomputable def xD (H:Hp):V->V
 | .ref T=>match H T with
  | some (.tup [_, x]) => x
  | _ => .non
 | _=>.non
noncomputable def Rs (L:List Sm1):List (List (Int×Int)):=(L.filter (·.1)).map (·.2)
theorem jQ {L:List Sm1} {M:List (Int×Int)}:M∈Rs L↔(true,M)∈L:=by
 unfold Rs;rw [EE];constructor
 ·rintro ⟨e,he,rfl⟩;rw [FN] at he;have:e=(true,e.2):=Fg he.2 rfl
  rw [<- this]; exact he.1
 ·exact fun h=>⟨_,FN.mpr ⟨h,rfl⟩,rfl⟩
theorem mC {H H':Hp} {lf:Ω} (s:ah H H'):∀ {xs:List V} {L:List Sm1},PwS H lf xs L->mO H' ((xs.filter fun v=>(eU H v).1).map (xD H)) (Rs L)
 | [],[],_=>mO.nil
 | [],_::_,h=>by have:=h.1; simp at this
 | _::_,[],h=>by have:=h.1; simp at this
 | v::xs,e::L,h=>by
  have ih:=mC s (xs:=xs) (L:=L) ⟨by have:=h.1; simpa using this,fun i v e h1 h2=>h.2 (i+1) v e (by simpa using h1) (by simpa using h2)⟩;have hv:=h.2 0 v e rfl rfl;unfold Rs at ih ⊢;rw [F2,F2,hv.of];by_cases c:e.1=true
  ·rw [if_pos c,if_pos c,EW,EW];obtain ⟨T1,l,ys,rfl,_,eT,el,py⟩:=hv;exact mO.cons ⟨l,ys,by simp only [xD,eT],s _ _ el,py.mono s⟩ ih
  ·rw [if_neg c,if_neg c]; exact ih
def sp_aE (C:Ω):Sp:=fun vs H Q _=>∃ (p:Ω) (s:Int) (cs rs:List Int),vs=[.ref p]/\aI C H p s cs rs/\cs.length<=39/\rs.length<=39 /\
 ∀ l ys L H',ah H H'->H l=none->H' l=some (.lst ys)->dX cs rs L->mO H' ys (Rs L)->Q (.ref l) H'
theorem ok_aE (T:Txt K mg t):aP P w K mg base CX0 11 t.f_aE t.d_aE ["cloth"] (sp_aE t.a_aa):=by
 refine T.F_aE.ok sc_aE (by walk_at "l") (fun _ _ _ s H vs Q E hr h=>?_)
 ·obtain ⟨p,s,cs,rs,rfl,hc,lc,lr,k⟩:=h;refine ⟨_,(ai (aC (bW (N:=["told"]) (cap:=[none]) rfl ⟨rfl,rfl,rfl,rfl,rfl,rfl⟩ (bK (ao (ok_aq T) (rmo hr) rfl T.mg_aq T.F_aq.kp T.b_aq .nil aB (aa (pv 0) ae))) (fun _ _ _=>(aG (i:=0) (show (["told"]:List Str).Nodup by decide +kernel) rfl (Fp rfl))) (fun _ _ _=>(jG (bF (ay (aN K rfl) (pv 0) ag)))) (fun _ _ _=>(ay (aN K rfl) (pv 0) ag))))),?_⟩;apply ⟨p,s,cs,rs,rfl,hc,lc,lr,fun lf xs L H1 s1 nf ef al px=>?_⟩;have fw:=al.some.few lc lr;apply ⟨⟨_,SqL.of ef⟩,fun lw nw=>?_⟩;refine fu (xD H1) (fun v=>(eU H1 v).1) (SqL.of ef) (by rw [px.1]; omega) nw (fun x o H5 Q' hx s5 q=>?_) (fun x o H5 Q' hx _ s5 q=>?_) (fun H5 s5 e5=>?_)
  ·obtain ⟨⟨T1,l,ys,rfl,_,eT,el,py⟩,_⟩:=px.mem x hx;apply aR (SqT.of (s5 _ _ eT)) (v:=.bl (eU H1 (.ref T1)).1) rfl ?_;left;exact q H5 (ah.refl _)
  ·obtain ⟨⟨T1,l,ys,rfl,_,eT,el,py⟩,_⟩:=px.mem x hx;apply aR (SqT.of (s5 _ _ eT)) (v:=.ref l) rfl ?_;left;have e:xD H1 (.ref T1)=.ref l:=by simp only [xD,eT]
   rw [e] at q;exact q H5 (ah.refl _)
  ·left;exact k lw _ L H5 (s1.trans s5) (s1.free nw) e5 al (mC s5 px)
theorem dU {cs rs:List Int} {M:List (Int×Int)} (h:Sm.bz (nb cs rs) true M):Wn.Cyc M:=by
 refine ⟨h.nd,?_,fun k hk=>?_⟩
 ·obtain ⟨a,b,l,rfl,o,_⟩:=h.rd rfl
  cases l with
  | nil =>
   have hm:a∈Sm.oth (nb cs rs) a b:=by rw [show Sm.oth (nb cs rs) a b=[a] from o.stop]; simp
   exact absurd rfl (Sm.aK.mp hm).2
  | cons c l => simp only [Ba]; omega
 ·obtain ⟨p,q,h1,h2,h3⟩:=h.step (b7 cs rs) hk (.inr rfl);rw [Wn.gt_eq (show M[Wn.pv M.length k]?=some p from h1),Wn.gt_eq h2];unfold Wn.Adj;rcases dJ.mp h3 with ⟨_,rfl⟩ | ⟨_,rfl⟩ | ⟨_,rfl⟩ | ⟨_,rfl⟩<;>dsimp only<;>omega
theorem lp {cs rs:List Int} (lc:cs.length<=39) (lr:rs.length<=39) {M:List (Int×Int)} {f:Bool} (h:Sm.bz (nb cs rs) f M):∀ p∈M,(0<=p.1/\p.1<=40)/\0<=p.2/\p.2<=40:=fun p hp=>by
 have:=lq h p hp
 unfold cR at this;omega
structure fN (H0 H:Hp) (d:Ω) (M:Int->List Int) (n:Nat):Prop where
 nd:H0 d=none
 ob:∃ kvs:List (Key×V),H d=some (.dK kvs)/\kvs.length<=n/\(kvs.map (·.1)).Nodup/\(∀ y:Int,bG kvs (.inl y)=none->M y=[]) /\
  (∀ k v,bG kvs k=some v->∃ y l,k=.inl y/\v=.ref l/\l≠d/\H0 l=none/\H l=some (.lst ((M y).map V.int)))/\∀ k k' v,bG kvs k=some v->bG kvs k'=some v->k=k'
theorem fN.new {H0 H:Hp} {d:Ω} (n:H0 d=none) (e:H d=some (.dK [])):fN H0 H d (fun _=>[]) 0 :=
 ⟨n,[],e,A_ _,GD,fun _ _=>rfl,fun s v h=>(by cases h),fun s s' v h=>(by cases h)⟩
theorem fN.mono {H0 H H':Hp} {d:Ω} {M:Int->List Int} {n:Nat} (h:fN H0 H d M n) (m:ah H H'):fN H0 H' d M n:=by
 obtain ⟨kvs,h1,h2,h3,h4,h5,h6⟩:=h.ob;refine ⟨h.nd,kvs,m _ _ h1,h2,h3,h4,fun k v hv=>?_,h6⟩;obtain ⟨y,l,e1,e2,q1,q2,q3⟩:=h5 k v hv;exact ⟨y,l,e1,e2,q1,q2,m _ _ q3⟩
theorem fN.le {H0 H:Hp} {d:Ω} {M:Int->List Int} {n m:Nat} (h:fN H0 H d M n) (hm:n<=m):fN H0 H d M m :=
 let ⟨kvs,h1,h2,h3⟩:=h.ob; ⟨h.nd,kvs,h1,FA h2 hm,h3⟩
noncomputable def BY (M:Int->List Int) (y x:Int):Int->List Int:=fun z=>if z=y then M z++[x] else M z
theorem fN.add {H0 H:Hp} {d l:Ω} {M:Int->List Int} {n:Nat} {kvs:List (Key×V)} {y x:Int} (h:fN H0 H d M n) (e:H d=some (.dK kvs)) (hv:bG kvs (.inl y)=some (.ref l)):H l=some (.lst ((M y).map V.int))/\fN H0 (L2.upd H l (.lst ((M y).map V.int++[.int x]))) d (BY M y x) n:=by
  obtain ⟨kvs',h1,h2,h3,h4,h5,h6⟩:=h.ob;rw [e] at h1
  cases h1;obtain ⟨y',l',e1,e2,q1,q2,q3⟩:=h5 _ _ hv;injection e1 with e1;injection e2 with e2;subst e1 e2;refine ⟨q3,h.nd,kvs,by rw [aj q1.symm]; exact e,h2,h3,fun z hz=>?_,fun k v hk=>?_,h6⟩
  · unfold BY
    rw [if_neg (fun c=>by rw [c,hv] at hz; cases hz)];exact h4 z hz
  · unfold BY
    obtain ⟨z,l2,e3,e4,r1,r2,r3⟩:=h5 k v hk;by_cases hz:z=y
    · subst hz e3
      rw [hv] at hk
      cases hk;injection e4 with e4;subst e4;exact ⟨z,l,rfl,rfl,q1,q2,by rw [if_pos rfl,af,FO]; rfl⟩
    · have:l2≠l:=fun c=>hz (by
        have:=h6 k (.inl y) v hk (by rw [hv,e4,c])
        rw [e3] at this;injection this)
      exact ⟨z,l2,e3,e4,r1,r2,by rw [if_neg hz,aj this]; exact r3⟩
theorem fN.put {H0 H:Hp} {d l:Ω} {M:Int->List Int} {n:Nat} {kvs:List (Key×V)} {y:Int} (h:fN H0 H d M n) (e:H d=some (.dK kvs)) (hv:bG kvs (.inl y)=none) (hl:H l=some (.lst [])) (n0:H0 l=none) (nd:l≠d) (fr:∀ k v,bG kvs k=some v->v≠.ref l):fN H0 (L2.upd H d (.dK (cS kvs (.inl y) (.ref l)))) d M (n+1):=by
 obtain ⟨kvs',h1,h2,h3,h4,h5,h6⟩:=h.ob;rw [e] at h1
 cases h1;have hM:=h4 y hv;have vp:∀ k,bG (cS kvs (.inl y) (.ref l)) k=if k=.inl y then some (.ref l) else bG kvs k:=fun k=>qU _ _ _ _
 refine ⟨h.nd,_,af,by have:=d8 kvs (.inl y) (.ref l); omega,?_,fun z hz=>?_,fun k v hk=>?_,fun k k' v hk hk'=>?_⟩
 ·rw [kE _ hv,FO,FZ];refine ⟨h3,by simp,fun a ha b hb z=>?_⟩;simp only [EW,HW,Ξ] at hb;subst hb z;have:=qS.mpr ha
  rw [hv] at this
  cases this
 ·rw [vp] at hz;by_cases c:(HM z:Key)=.inl y
  ·rw [if_pos c] at hz; cases hz
  ·rw [if_neg c] at hz; exact h4 z hz
 ·rw [vp] at hk;by_cases c:k=.inl y
  ·rw [if_pos c] at hk
   cases hk;exact ⟨y,l,c,rfl,nd,n0,by rw [aj nd,hM]; exact hl⟩
  ·rw [if_neg c] at hk;obtain ⟨z,l2,e3,e4,r1,r2,r3⟩:=h5 k v hk;exact ⟨z,l2,e3,e4,r1,r2,by rw [aj r1]; exact r3⟩
 ·rw [vp] at hk hk';by_cases c:k=.inl y<;>by_cases c':k'=.inl y
  ·rw [c,c']
  ·rw [if_pos c] at hk;rw [if_neg c'] at hk'
   cases hk;exact absurd rfl (fr k' _ hk')
  ·rw [if_neg c] at hk;rw [if_pos c'] at hk'
   cases hk';exact absurd rfl (fr k _ hk)
  ·rw [if_neg c] at hk;rw [if_neg c'] at hk';exact h6 k k' v hk hk'
theorem wF {α:Type} {zs:List α} {k:Nat} (h:k<zs.length):atI zs ((k:Int) - 1)=zs[Wn.pv zs.length k]?:=by
 unfold Wn.pv;by_cases e:k=0
 ·subst e;rw [if_pos rfl];obtain ⟨i,b,rfl⟩:∃ i b,zs=i++[b]:=⟨zs.dropLast,zs.getLast (by intro z; rw [z] at h; simp at h),(Ff _).symm⟩
  rw [show ((0:Nat):Int) - 1=-1 by decide,o7,Bd,EL,Nat.add_sub_cancel,FQ (A_ _),Jv];rfl
 ·rw [if_neg e,show (k:Int) - 1=((k - 1:Nat):Int) by omega];rw [ς (show k - 1<zs.length by omega)];exact bH (ς (show k - 1<zs.length by omega))
def sp_aU:Sp:=fun vs H Q _=>∃ (l:Ω) (zs:List V) (M:List (Int×Int)),vs=[.ref l]/\H l=some (.lst zs)/\au H zs M/\M.length<=1681/\∀ d H',ah H H'->fN H H' d (Wn.rw M) 1681->Q (.ref d) H'
theorem ok_aU (T:Txt K mg t):aP P w K mg base CX0 1 t.f_aU t.d_aU ["line"] sp_aU:=by
  refine T.F_aU.ok sc_aU (fun vs H Q E h=>?_) (fun cdv A outer s H vs Q E hr h=>?_)
  · obtain ⟨l,zs,M,rfl,_⟩:=h; rfl
  · obtain ⟨l,zs,M,rfl,el,py,hz,k⟩:=h
    have ly:=py.1;refine aM (aO 1 sc_aU.nd xU) fun _ _=>aM (cZ FI rfl (cY rfl T.no_au (aa (aq (bp K rfl) rfl T.no_len (by rfl) (aa (pv 0) ae)) ae)) (aG (i:=2) sc_aU.nd rfl (Fp rfl)) (aL (aO 3 sc_aU.nd (ay (ar K rfl) (pv 0) (aA bV (pv 2) ag))) (aL (aO 4 sc_aU.nd (ay (ar K rfl) (pv 0) (pv 2))) (ai (cq (aY (bB dh (ay (aN K rfl) (pv 3) ag) (ay (aN K rfl) (pv 4) ag)) (ai (bC (cU Em Eu Et a8 (vq (pv 1) (aq (zG rfl) rfl T.no_min (by rfl) (aa (ay (aN K rfl) (pv 3) ag) (aa (ay (aN K rfl) (pv 4) ag) ae))) (cw ae) ⟨rfl,rfl,rfl,rfl⟩) (aa (ay (aN K rfl) (pv 3) ag) ae)))) aD)))))) fun _ _=>dy (aC (pv 1)) fun _ _=>?_;left;intro d nd;have s1:=ah.new (o:=HO.dK []) nd;have e1:=af (H:=H) (a:=d) (o:=HO.dK []);generalize upd H d (HO.dK [])=H1 at s1 e1 ⊢;apply bq (s1 _ _ el) ?_;refine ⟨_,rfl,by omega,by omega,?_⟩;rw [Gb];refine cX (fun i σ' H'=>∃ (o2 o3 o4:Option V),σ'=[some (.ref l),some (.ref d),o2,o3,o4]/\ah H H'/\fN H H' d (Wn.rwk M i) i) ⟨none,none,none,rfl,s1,fN.new nd e1⟩ ?_ ?_
    · rintro i σ' H2 hi ⟨o2,o3,o4,rfl,s2,rw2⟩
      rw [Jz];have el2:=s2 _ _ el;have hp:Wn.pv zs.length i<zs.length:=Wn.pv_lt hi;obtain ⟨b1,eb1,hb1⟩:=py.2 _ _ _ (ς hp) (ς (by omega));obtain ⟨b2,eb2,hb2⟩:=py.2 _ _ _ (ς hi) (ς (show i<M.length by omega));have g1:=Wn.gt_eq (ς (show Wn.pv zs.length i<M.length by omega));have g2:=Wn.gt_eq (ς (show i<M.length by omega));rw [<- g1] at hb1;rw [<- g2] at hb2;rw [ly] at hb1;have hb1:=s2 _ _ hb1;have hb2:=s2 _ _ hb2;have a1:atI zs ((i:Int) - 1)=some (.ref b1):=by rw [wF hi,ς hp,eb1]
      have a2:atI zs ((i:Nat):Int)=some (.ref b2):=bH (by rw [ς hi,eb2]);clear g1 g2 eb1 eb2;apply aE (SqL.of el2) a1 ?_;apply aE (SqL.of el2) a2 ?_;apply cu (fun σ' H'=>σ'=[some (.ref l),some (.ref d),some (.int (i:Nat)),some (.ref b1),some (.ref b2)]/\ah H H'/\fN H H' d (Wn.rwk M (i+1)) (i+1)) ?_ ?_
      · have dv:Wn.vw (Wn.gt M (Wn.pv M.length i)) (Wn.gt M i)=if (Wn.gt M (Wn.pv M.length i)).1=(Wn.gt M i).1 then some ((Wn.gt M (Wn.pv M.length i)).1,if (Wn.gt M i).2<(Wn.gt M (Wn.pv M.length i)).2 then (Wn.gt M i).2 else (Wn.gt M (Wn.pv M.length i)).2) else none:=rfl
        have rN:=Wn.rwk_none (M:=M) (k:=i);have rS:=fun {x y:Int}=>Wn.rwk_some (M:=M) (k:=i) (x:=x) (y:=y);generalize Wn.gt M (Wn.pv M.length i)=p at hb1 dv rN rS;generalize Wn.gt M i=q at hb2 dv rN rS;obtain ⟨px,py'⟩:=p;obtain ⟨qx,qy⟩:=q;dsimp only at hb1 hb2 dv;apply aR (SqT.of hb1) (v:=.int px) rfl ?_;apply aR (SqT.of hb2) (v:=.int qx) rfl ?_;left;by_cases c:px=qx
        · rw [ba c]
          rw [if_pos c] at dv;rw [rS dv];generalize hmn:(if qy<py' then qy else py')=mn;obtain ⟨kvs,g1,g2,g3,g4,g5,g6⟩:=rw2.ob;apply vF ?_;apply AG g1 ?_;apply aR (SqT.of hb1) (v:=.int py') rfl ?_;apply aR (SqT.of hb2) (v:=.int qy) rfl ?_;left;rw [hmn];refine nwL fun ln H3 sln nln eln=>?_;have s3:=s2.trans sln;have rw3:=rw2.mono sln;have g13:=sln _ _ g1;have hln:H ln=none:=s2.free nln;refine ⟨kvs,.inl mn,rfl,g13,E_ g2 (aQ (by omega)),fun v hv=>?_,fun hv=>?_⟩
          · obtain ⟨y',l',ey,rfl,q1,q2,q3⟩:=g5 _ _ hv
            have ad:=rw3.add (x:=px) g13 hv;refine bS ad.1 ?_;apply aR (SqT.of (sln _ _ hb1)) (v:=.int px) rfl ?_;apply aW ad.1 ?_ ?_
            · rw [Aj]
              have:=Wn.rwk_len M i mn
              exact aQ (by omega)
            · exact ⟨rfl,s3.later q2,ad.2.le (by omega)⟩
          · have pt:=rw3.put g13 hv eln hln (fun z=>by rw [z,g1] at nln; cases nln) (fun k v hk e=>by
              obtain ⟨y',l',_,e2,_,_,q3⟩:=g5 k v hk;rw [e2] at e;injection e with e;rw [<- e,q3] at nln
              cases nln)
            have v4:bG (cS kvs (HM mn) (V.ref ln)) (.inl mn)=some (.ref ln):=by rw [qU,if_pos rfl]
            have eln4:upd H3 d (.dK (cS kvs (HM mn) (V.ref ln))) d=_:=af;have s4:ah H (upd H3 d (.dK (cS kvs (HM mn) (V.ref ln)))):=s3.later nd;have hb14:upd H3 d (.dK (cS kvs (HM mn) (V.ref ln))) b1=_:=(aj (cg (sln _ _ hb1) g13 (by intro z; cases z))).trans (sln _ _ hb1);generalize upd H3 d (.dK (cS kvs (HM mn) (V.ref ln)))=H4 at pt eln4 s4 hb14 ⊢;have ad:=pt.add (x:=px) eln4 v4;refine bS ad.1 ?_;apply aR (SqT.of hb14) (v:=.int px) rfl ?_;apply aW ad.1 ?_ ?_
            · rw [Aj]
              have:=Wn.rwk_len M i mn
              exact aQ (by omega)
            · exact ⟨rfl,s4.later hln,ad.2⟩
        · rw [bO c]
          rw [if_neg c] at dv;rw [rN dv];left;exact ⟨rfl,s2,rw2.le (by omega)⟩
      · rintro σ' H3 ⟨rfl,s3,rw3⟩
        exact ⟨_,_,_,rfl,s3,rw3⟩
    · rintro σ' H2 ⟨o2,o3,o4,rfl,s2,rw2⟩
      apply k d H2 s2 ?_;rw [ly,Wn.rwk_all] at rw2;exact rw2.le (by omega)
end
section
variable {K:W.Frag} {σ:L2.St} {H:Hp} {Q:VK} {te:TE} {cap:List (Option Nat)} {l:Ω}
theorem rj {a b y:Int} (hz:(b - a).toNat<=5000) (hl:H l=none)
  (step:∀ (i:Nat) o H' (Q':VK),i<(b - a).toNat->ah H H'->(∀ c H5,ah H' H5->H5 c=some (.tup [.int (a+(i:Nat)),.int y])->Q' (.ref c) H5)->te (((eQ (none::cap) σ).set 0 o).set 0 (some (.int (a+(i:Nat))))) H' Q')
  (fin:∀ ys H',ah H H'->H' l=some (.lst ys)->au H' ys (Wn.span a b y)->Q (.ref l) H'):gO (Itr a (b - a).toNat) (cT 0) gU te (none::cap) l σ H Q:=by
 have tk:∀ i,i<(b - a).toNat->(Wn.span a b y).take (i+1)=(Wn.span a b y).take i++[(a+((i:Nat):Int),y)]:=fun i hi=>by
  unfold Wn.span;rw [Gn,EX,List.getElem?_range hi];rfl
 have ln:(Wn.span a b y).length=(b - a).toNat:=by unfold Wn.span; rw [Aj,GL]
 refine ⟨(b - a).toNat,fun i ys σ' H'=>(∃ o,σ'=(eQ (none::cap) σ).set 0 o)/\ah H H'/\H' l=some (.lst ys)/\au H' ys ((Wn.span a b y).take i),⟨⟨none,rfl⟩,ah.new hl,af,by rw [G4]; exact au.nil⟩,?_,?_⟩
 ·rintro i ys σ' H' hi ⟨⟨o,rfl⟩,s,e,pz⟩;refine ⟨hi,fun x H2 z=>?_⟩;obtain ⟨e2,rfl⟩:=z;subst e2;refine b9 (dA (lF ?_));refine step i o H2 _ hi s fun c H5 s5 hc=>⟨s5 _ _ e,?_,?_⟩
  ·have:=pz.1
   rw [E7,ln] at this;exact E_ (show ys.length<=5000 by omega) (by decide)
  ·exact ⟨⟨_,Iz ..⟩,(s.trans s5).later hl,af,by rw [tk i hi]; exact ((pz.mono s5).upd (s5 _ _ e) (by intro ys z; cases z)).snoc (Pt.upd (q:=(a+((i:Nat):Int),y)) ⟨c,rfl,hc⟩ (s5 _ _ e) (by intro ys z; cases z))⟩
 ·rintro ys σ' H' ⟨_,s,e,pz⟩;rw [EN (by rw [ln]; exact A_ _)] at pz;exact ⟨A_ _,fin ys H' s e pz⟩
theorem au.app {H:Hp}:∀ {xs ys:List V} {ps qs:List (Int×Int)},au H xs ps->au H ys qs->au H (xs++ys) (ps++qs)
 | [],_,[],_,_,h=>h
 | [],_,_::_,_,h,_=>by have:=h.1; simp at this
 | _::_,_,[],_,h,_=>by have:=h.1; simp at this
 | x::xs,ys,p::ps,qs,h,h'=>by
  obtain ⟨v,r,e,h1,h2⟩:=h.inv
  cases e;exact au.cons h1 (au.app h2 h')
end
section
variable {P:ER} {w:E2} {K:W.Frag} {mg:Str->Option Δ} {base:FD} {t:Ad}
theorem mD {K:W.Frag} {a:Ω} {xs:List V} {ps:List (Int×Int)} {H:Hp} {Q:VK} (e:H a=some (.lst xs)) (h:au H xs ps)
  (k:∀ (l:Ω) (ys:List V) (qs:List (Int×Int)),H l=none->au (L2.upd H l (.lst ys)) ys qs->qs.Perm ps->qs.Pairwise Ts.ple->Q (.ref l) (L2.upd H l (.lst ys))):qt K [.ref a] H Q:=by
 refine qA (ck H) e (fun v hv=>h.mem v hv) fun l ys hn hp hw=>k l ys (ys.map (ck H)) hn ?_ ((hp.map (ck H)).trans (JN h.map)) (FY.mpr hw);exact au.mono (ah.new hn) (nU fun v hv=>h.mem v (hp.mem_iff.mp hv))
structure gK (M C:List (Int×Int)):Prop where
 so:C.Pairwise Ts.ple
 nd:C.Nodup
 ms:∀ q,q∈C↔Wn.ins M q=true
theorem gK.uniq {M C C':List (Int×Int)} (h:gK M C) (h':gK M C'):C=C':=by
 refine nP ?_ h.so h'.so;exact (LR h.nd h'.nd).mpr fun q=>(h.ms q).trans (h'.ms q).symm
theorem zR {M l:List (Int×Int)} (c:Wn.Cyc M) (bx:∀ p∈M,(0<=p.1/\p.1<=40)/\0<=p.2/\p.2<=40) (nd:l.Nodup) (h:∀ q∈l,Wn.ins M q=true):l.length<=1600 :=
 Wn.nodup_few (n:=40) nd fun q hq=>by have:=c.box (x0:=0) (x1:=40) (y0:=0) (y1:=40) bx (h q hq); omega
def sp_aG:Sp:=fun vs H Q _=>∃ (l:Ω) (zs:List V) (M:List (Int×Int)),vs=[.ref l]/\H l=some (.lst zs)/\au H zs M/\M.length<=1681/\Wn.Cyc M/\(∀ p∈M,(0<=p.1/\p.1<=40)/\0<=p.2/\p.2<=40) /\
 ∀ l' ys C H',ah H H'->H l'=none->H' l'=some (.lst ys)->au H' ys C->gK M C->Q (.ref l') H'
theorem ok_aG (T:Txt K mg t):aP P w K mg base CX0 2 t.f_aG t.d_aG ["line"] sp_aG:=by
 refine T.F_aG.ok sc_aG (by walk_at "l") (fun _ _ _ s H vs Q E hr h=>?_)
 ·obtain ⟨l,zs,M,rfl,el,py,hz,cy,bx,k⟩:=h;refine aM (aO 1 sc_aG.nd (cw ae)) fun _ _=>aM (Ao (cZ FI rfl (xW (Cu LP LO PySem.F.type_dict_items xF (ao (ok_aU T) (rmo hr) rfl T.mg_aU T.F_aU.kp T.b_aU .nil aB (aa (pv 0) ae)))) (et (n:=2) K rfl rfl (bA (aG (i:=2) sc_aG.nd rfl (JW rfl)) (bA (aG (i:=3) sc_aG.nd rfl (Fp rfl)) eC))) (aL (aO 4 sc_aG.nd (aq (cW K rfl) rfl T.no_sorted (by rfl) (aa (pv 3) ae))) (ai (cZ FI rfl (vy rfl T.no_au (aa ag (aa (aq (bp K rfl) rfl T.no_len (by rfl) (aa (pv 4) ae)) (aa ag ae)))) (aG (i:=5) sc_aG.nd rfl (Fp rfl)) (ai (bC (cU Em PySem.F.slot_list_extend PySem.F.type_list_extend u7 (pv 1) (aa (bW (N:=["x","y"]) (cap:=[none,some 2]) rfl ⟨rfl,rfl,rfl,rfl,rfl,rfl⟩ (vx rfl T.no_au (aa (ay (ar K rfl) (pv 4) (pv 5)) (aa (ay (ar K rfl) (pv 4) (aA a7 (pv 5) ag)) ae))) (fun _ _ _=>(aG (i:=0) (show (["x","y"]:List Str).Nodup by decide +kernel) rfl (Fp rfl))) (fun _ _ _=>bX) (fun _ _ _=>(bw (aa (pv 0) (aa (pv 1) ae))))) ae))))))))) fun _ _=>dy (aC (aq (cW K rfl) rfl T.no_sorted (by rfl) (aa (pv 1) ae))) fun _ _=>?_;apply nwL fun lf H1 slf nlf elf=>?_;apply ⟨l,zs,M,rfl,slf _ _ el,py.mono slf,hz,fun d H2 s2 rw2=>?_⟩;obtain ⟨kvs,g1,g2,g3,g4,g5,g6⟩:=rw2.ob;have nd:H d=none:=slf.free rw2.nd;have elf2:=s2 _ _ elf;have s02:=slf.trans s2;have dlf:d≠lf:=fun z=>by have:=rw2.nd; rw [z,elf] at this; cases this
  apply CN g1 ?_;refine yF g1 fun v nv=>?_;have sv:=ah.new (o:=iy "dict_items" v d) nv;have ev:=af (H:=H2) (a:=v) (o:=iy "dict_items" v d);generalize upd H2 v (iy "dict_items" v d)=H3 at sv ev ⊢;refine ⟨v,d,kvs,rfl,ev,sv _ _ g1,fun FF hFF=>?_⟩;have m4:gV [d,lf] H2 (upd H3 d FF):=fun b o e nb=>by rw [aj (fun z=>nb (by simp [z]))]; exact sv _ _ e
  have s4:ah H (upd H3 d FF):=fun b o e=>by rw [aj (bo e nd)]; exact sv _ _ (s02 _ _ e)
  have e4:=af (H:=H3) (a:=d) (o:=FF);have l4:upd H3 d FF lf=some (.lst []):=by rw [aj dlf.symm]; exact sv _ _ elf2
  have dF:∃ φ,FF=.ext φ:=hFF.ext;generalize upd H3 d FF=H4 at m4 s4 e4 l4 ⊢;refine rq (fun i σ' H'=>∃ (o2 o3 o4 o5:Option V) (xs:List V) (ps:List (Int×Int)),σ'=[some (.ref l),some (.ref lf),o2,o3,o4,o5]/\ah H H'/\gV [d,lf] H2 H'/\H' d=some FF/\H' lf=some (.lst xs)/\au H' xs ps/\ps.Nodup/\∀ q,q∈ps↔Wn.ins M q=true/\(HM q.2:Key)∈(kvs.take i).map (·.1))
   ⟨none,none,none,none,[],[],rfl,s4,m4,e4,l4,au.nil,GD,fun q=>by simp⟩ ?_ ?_ ?_
  ·rintro i σ' H' _ ⟨_,_,_,_,_,_,rfl,_,_,e,_⟩;exact e
  ·rintro i kk x b σ' H5 hk ⟨o2,o3,o4,o5,xs,ps,rfl,s5,m5,e5,l5,px,pnd,pms⟩ nb;have hik:i<kvs.length:=(Bc.mp hk).1;obtain ⟨y,ll,rfl,rfl,q1,q2,q3⟩:=g5 _ _ (uz g3 hk);have tki:(kvs.take (i+1)).map (·.1)=(kvs.take i).map (·.1)++[.inl y]:=by rw [Gn,hk,FO]; rfl
   have nyk:(HM y:Key)∉(kvs.take i).map (·.1):=fun z=>by
    have h1:((kvs.take (i+1)).map (·.1)).Nodup:=g3.sublist (List.Sublist.map _ (FW _ _));rw [tki,FZ] at h1;exact h1.2.2 _ z _ (by simp) rfl
   rw [show kV (HM y)=V.int y from rfl];have s6:=ah.new (o:=HO.tup [V.int y,V.ref ll]) nb;have e6:=af (H:=H5) (a:=b) (o:=HO.tup [V.int y,V.ref ll]);generalize upd H5 b (HO.tup [V.int y,V.ref ll])=H6 at s6 e6 ⊢;have llf:ll≠lf:=fun z=>by rw [z,elf] at q2; cases q2
   have hll5:H5 ll=some (.lst ((Wn.rw M y).map V.int)):=m5 _ _ q3 (by simp only [Bb,Ey,or_false]; exact fun z=>z.elim q1 llf);refine iR e6 rfl ?_;apply kH (s6 _ _ hll5) fun lm ms nm pm pw=>?_;obtain ⟨slt,sev,scl⟩:=cy.row pm pw;have lmf:lm≠lf:=fun z=>by rw [z,s6 _ _ l5] at nm; cases nm
   have s7:=s6.trans (ah.new (o:=HO.lst (ms.map V.int)) nm);have e7:=af (H:=H6) (a:=lm) (o:=HO.lst (ms.map V.int));generalize upd H6 lm (HO.lst (ms.map V.int))=H7 at s7 e7 ⊢;have cyb:∀ q∈ps++Wn.cl y ms,Wn.ins M q=true:=fun q hq=>by
    rcases EG.mp hq with z | z
    ·exact ((pms q).mp z).1
    ·exact ((scl q).mp z).2
   have cyn:(ps++Wn.cl y ms).Nodup:=by
    rw [FZ];refine ⟨pnd,Wn.cl_nd y slt,fun p hp q hq z=>?_⟩;subst z;have h1:=((pms p).mp hp).2;rw [((scl p).mp hq).1] at h1;exact nyk h1
   have bnd:∀ j,(ps++Wn.cl y (ms.take (2*j))).length<=1600:=fun j=>by
    obtain ⟨r,e⟩:=Wn.cl_pre y j ms
    have h1:(ps++Wn.cl y (ms.take (2*j))).Nodup:=by
     rw [e,<- EI] at cyn;exact (FZ.mp cyn).1
    refine zR cy bx h1 fun q hq=>cyb q ?_;rw [e,<- EI];exact E1 _ hq
   have lms:ms.length<=1681:=by rw [pm.length_eq]; have:=Wn.rwk_len M M.length y; rw [Wn.rwk_all] at this; omega
   apply bq e7 ?_;rw [Aj];apply ⟨_,_,rfl,by omega,by omega,by omega,?_⟩;have c2:jT 0 ((ms.length:Nat):Int)*2=ms.length:=by unfold jT; omega
   refine pJ (fun j σ' H'=>∃ (o5:Option V) (xs:List V),σ'=[some (.ref l),some (.ref lf),some (.int y),some (.ref ll),some (.ref lm),o5]/\ah H H'/\gV [d,lf] H2 H'/\H' d=some FF/\H' lm=some (.lst (ms.map V.int))/\H' lf=some (.lst xs)/\au H' xs (ps++Wn.cl y (ms.take (2*j))))
    ⟨o5,xs,rfl,s5.trans s7,m5.trans (s7.butL _),s7 _ _ e5,e7,s7 _ _ l5,by rw [Nat.mul_zero,G4,show Wn.cl y []=[] from rfl,ET]; exact px.mono s7⟩ ?_ ?_
   ·rintro j σ' H8 hj ⟨o5,xs,rfl,s8,m8,e8,lm8,l8,px8⟩;have hj1:2*j+1<ms.length:=by omega
    obtain ⟨ma,hma⟩:∃ ma,ms[2*j]?=some ma:=⟨_,ς (by omega)⟩
    obtain ⟨mb,hmb⟩:∃ mb,ms[2*j+1]?=some mb:=⟨_,ς hj1⟩
    have ia:atI (ms.map V.int) (0+((j:Nat):Int)*2)=some (.int ma):=by
     rw [show 0+((j:Nat):Int)*2=((2*j:Nat):Int) by omega];exact bH (by rw [EX,hma]; rfl)
    have ib:atI (ms.map V.int) (0+((j:Nat):Int)*2+1)=some (.int mb):=by
     rw [show 0+((j:Nat):Int)*2+1=((2*j+1:Nat):Int) by omega];exact bH (by rw [EX,hmb]; rfl)
    have rM:∀ z∈ms,0<=z/\z<=40:=fun z hz=>by
     have h1:=(cy.ends (Wn.mem_rw.mp (pm.mem_iff.mp hz))).1;exact (bx _ h1).1
    have ra:=rM ma (ES hma);have rb:=rM mb (ES hmb);apply bS l8 ?_;apply AU ?_;apply aE (SqL.of lm8) ia ?_;apply aE (SqL.of lm8) ib ?_;apply ⟨_,_,rfl,⟨by omega,by omega,by omega,by omega⟩,fun lc nc=>?_⟩;refine rj (y:=y) (by omega) nc (fun i' o H' Q' _ s9 q=>?_) fun ys H9 s9 e9 py9=>?_
    ·apply nwT fun c H5 sc nc ec=>?_;exact q c H5 sc ec
    ·left;have l9:=s9 _ _ l8;have lcf:lc≠lf:=fun z=>by rw [z,l8] at nc; cases nc
     have bj:=bnd (j+1);rw [Wn.cl_take y j hma hmb,<- EI] at bj;have px9:=(px8.mono s9).app py9;refine ⟨lf,lc,xs,ys,rfl,rfl,l9,e9,?_,?_⟩
     ·have h1:=px9.1;rw [Bd] at h1;exact Kv (aQ (by omega))
     ·have mu:gV [d,lf] H9 (upd H9 lf (.lst (xs++ys))):=(gV.refl _ _).upd (by simp);refine ⟨_,_,rfl,(s8.trans s9).later nlf,(m8.trans (s9.butL _)).trans mu,?_,?_,af,?_⟩
      ·rw [aj dlf]; exact s9 _ _ e8
      ·rw [aj lmf]; exact s9 _ _ lm8
      ·rw [Wn.cl_take y j hma hmb,<- EI];exact px9.upd l9 (by intro ys z; cases z)
   ·rintro σ' H8 ⟨o5,xs,rfl,s8,m8,e8,lm8,l8,px8⟩;rw [show 2*jT 0 ((ms.length:Nat):Int)=ms.length by omega,EN (A_ _)] at px8;refine ⟨_,_,_,_,xs,_,rfl,s8,m8,e8,l8,px8,cyn,fun q=>?_⟩;rw [EG,pms,scl,tki,EG,Ξ];constructor
    ·rintro (⟨h1,h2⟩ | ⟨h1,h2⟩)
     ·exact ⟨h1,.inl h2⟩
     ·exact ⟨h2,.inr (by rw [h1])⟩
    ·rintro ⟨h1,h2 | h2⟩
     ·exact .inl ⟨h1,h2⟩
     ·exact .inr ⟨by injection h2,h1⟩
  ·rintro σ' H5 ⟨o2,o3,o4,o5,xs,ps,rfl,s5,m5,e5,l5,px,pnd,pms⟩;refine ⟨_,⟨d,kvs,FF,hFF,e5,rfl⟩,?_⟩;have s6:ah H (upd H5 d (.dK kvs)):=s5.later nd;have l6:upd H5 d (.dK kvs) lf=some (.lst xs):=by rw [aj dlf.symm]; exact l5
   have px6:=px.upd (o:=.dK kvs) e5 (by obtain ⟨φ,rfl⟩:=dF; intro ys z; cases z);generalize upd H5 d (.dK kvs)=H6 at s6 l6 px6 ⊢;apply mD l6 px6 fun l' ys qs nl' py' pq sq=>?_;apply k l' ys qs _ (s6.later (s6.free nl')) (s6.free nl') af py' ⟨sq,pq.nodup_iff.mpr pnd,fun q=>?_⟩;rw [pq.mem_iff,pms];refine ⟨fun h=>h.1,fun h=>⟨h,?_⟩⟩;rw [EN (A_ _)];obtain ⟨a,_,ha,_⟩:=cy.between h;have hr:=Wn.mem_rw.mpr ha;by_cases hv:bG kvs (.inl q.2)=none
   ·rw [g4 _ hv] at hr; cases hr
   ·exact qS.mp (by cases e:bG kvs (.inl q.2) with | none=>exact absurd e hv | some z=>rfl)
def sp_a2:Sp:=fun vs H Q _=>∃ (l:Ω) (zs:List V) (M:List (Int×Int)),vs=[.ref l]/\H l=some (.lst zs)/\au H zs M/\M.length<=1681/\Wn.Cyc M/\(∀ p∈M,(0<=p.1/\p.1<=40)/\0<=p.2/\p.2<=40) /\
 ∀ C H',ah H H'->gK M C->Q (.int (C.length:Nat)) H'
theorem ok_a2 (T:Txt K mg t):aP P w K mg base CX0 3 t.f_a2 t.d_a2 ["line"] sp_a2:=by
 refine T.F_a2.ok sc_a2 (by walk_at "l") (fun _ _ _ s H vs Q E hr h=>?_)
 ·obtain ⟨l,zs,M,rfl,el,py,hz,cy,bx,k⟩:=h;refine ⟨_,(ai (aC (aq (bp K rfl) rfl T.no_len (by rfl) (aa (ao (ok_aG T) (rmo hr) rfl T.mg_aG T.F_aG.kp T.b_aG .nil aB (aa (pv 0) ae)) ae)))),?_⟩;apply ⟨l,zs,M,rfl,el,py,hz,cy,bx,fun l' ys C H' s1 _ e1 p1 ic=>?_⟩;apply bq e1 ?_;left;rw [p1.1];exact k C H' s1 ic
end
section
theorem fA {cs rs:List Int} {e:Sm1} (h:Sm.bz (nb cs rs) e.1 e.2):hd e∈e.2/\nb cs rs (hd e)≠[]:=by
 obtain ⟨a,b,l,z,hb,_⟩:=h.path;unfold hd;rw [z];exact ⟨θ,fun z=>by rw [List.headD_cons] at z; rw [z] at hb; cases hb⟩
theorem jx {cs rs:List Int} {L:List Sm1} (h:dr cs rs L):L.Nodup:=by
 have key:∀ (L:List Sm1),(∀ e∈L,e.2≠[])->(bu L).Nodup->L.Nodup:=by
  intro L
  induction L with
  | nil => intro _ _; exact GD
  | cons e L ih =>
   intro hne hn;unfold bu at hn ih;rw [JI,FZ] at hn;refine EO.mpr ⟨fun hm=>?_,ih (fun e he=>hne e (Θ _ he)) hn.2.1⟩;obtain ⟨q,hq⟩:=Lh _ (hne e θ);exact hn.2.2 q hq q (JZ.mpr ⟨e,hm,hq⟩) rfl
 refine key L (fun e he z=>?_) h.nd;have:=(fA (h.told e he)).1
 rw [z] at this; cases this
theorem oZ {cs rs:List Int} {L L':List Sm1} (h:dX cs rs L) (h':dX cs rs L') {e:Sm1} (he:e∈L):e∈L':=by
 have td:=h.some.told e he;obtain ⟨m1,m2⟩:=fA td;obtain ⟨e',he',hq⟩:=fS.mp (h'.cov _ (lq td _ m1) m2);obtain ⟨z1,z2⟩:=td.uniq (b7 cs rs) (h'.some.told e' he') m1 hq;rw [show e=e' from Fg z1 z2]; exact he'
theorem mP {cs rs:List Int} {L L':List Sm1} (h:dX cs rs L) (h':dX cs rs L'):L=L':=by
 have:=Sm.nt (c:=fun _=>true) (le:=fun a b=>Ts.ple (hd a) (hd b)) (jx h.some) (jx h'.some) h.srt h'.srt (fun a ha b hb h1 h2=>by
  have e:hd a=hd b:=Sm.kB h1 h2;have t1:=h.some.told a ha;have t2:=h.some.told b hb;obtain ⟨z1,z2⟩:=t1.uniq (b7 cs rs) t2 (fA t1).1 (by rw [e]; exact (fA t2).1);exact Fg z1 z2) fun e _=>⟨oZ h h',oZ h' h⟩
 rwa [MZ.mpr fun _ _=>rfl,MZ.mpr fun _ _=>rfl] at this
theorem qm {α β κ ν:Type} {ka:α->κ} {kb:β->κ} {va:α->ν} {vb:β->ν}:∀ {a:List α} {b:List β},(a.map ka).Perm (b.map kb)->(∀ x∈a,∀ y∈b,ka x=kb y->va x=vb y)->(a.map va).Perm (b.map vb):=by
 intro a
 induction a with
 | nil =>
  intro b h _;rw [HW] at h;rw [List.map_eq_nil_iff.mp (Lm.mp h)];exact .nil
 | cons x a ih =>
  intro b h k;obtain ⟨y,hy,e⟩:=EE.mp (h.mem_iff.mp (EE.mpr ⟨x,θ,rfl⟩));obtain ⟨b1,b2,rfl⟩:=List.append_of_mem hy;have hp:(b1++y::b2).Perm (y::(b1++b2)):=List.perm_middle;have h2:=h.trans (hp.map kb);rw [EW,EW,e] at h2;have h3:=ih ((LS _).mp h2) fun x hx z hz=>k x (Θ _ hx) z (hp.mem_iff.mpr (Θ _ hz));refine JM ?_ (hp.map vb).symm;rw [EW,EW,k x θ y hy e.symm];exact h3.cons _
variable {cs rs cs' rs':List Int} {f:Int×Int->Int×Int} {L L':List Sm1}
theorem zZ (lk:Sm.cK (nb cs rs) (nb cs' rs') f) {q:Int×Int} (hq:nb cs rs q≠[]):cR cs' rs' (f q)/\nb cs' rs' (f q)≠[]:=by
 obtain ⟨r,hr⟩:=Lh _ hq;have:=lk.adj q r hr
 exact ⟨tR ((b7 cs' rs').sym this),List.ne_nil_of_mem this⟩
theorem pP (h:dX cs rs L) (h':dX cs' rs' L') (lk:Sm.cK (nb cs rs) (nb cs' rs') f) {e:Sm1} (he:e∈L):∃ e'∈L',e'.1=e.1/\e'.2.Perm (e.2.map f):=by
 have td:=h.some.told e he;obtain ⟨m1,m2⟩:=fA td;obtain ⟨i1,i2⟩:=zZ lk m2;obtain ⟨e',he',hq⟩:=fS.mp (h'.cov _ i1 i2);exact ⟨e',he',lk.told (b7 cs rs) (b7 cs' rs') td (h'.some.told e' he') m1 hq⟩
theorem fo {a b:List (Int×Int)} (e:Ts.srt a=Ts.srt b):a.Perm b:=(Ts.dS a).symm.trans ((JN e).trans (Ts.dS b))
theorem iT (h:dX cs rs L) {e e':Sm1} (he:e∈L) (he':e'∈L) (p:e.2.Perm e'.2):e=e':=by
 have td:=h.some.told e he;obtain ⟨z1,z2⟩:=td.uniq (b7 cs rs) (h.some.told e' he') (fA td).1 (p.mem_iff.mp (fA td).1);exact Fg z1 z2
theorem ql (lk:Sm.cK (nb cs rs) (nb cs' rs') f) {a b:List (Int×Int)} (p:(a.map f).Perm (b.map f)):a.Perm b:=by
 have:=p.map f
 rw [FP,FP,show f∘f=id from funext lk.inv,HS,HS] at this;exact this
noncomputable def kf (f:Int×Int->Int×Int) (e:Sm1):List (Int×Int)×Bool:=(Ts.srt (e.2.map f),e.1)
theorem mr (h:dX cs rs L) (h':dX cs' rs' L') (lk:Sm.cK (nb cs rs) (nb cs' rs') f):(L'.map (kf id)).Perm (L.map (kf f)):=by
 have nm:∀ {α β:Type} {g:α->β} {l:List α},l.Nodup->(∀ x∈l,∀ y∈l,g x=g y->x=y)->(l.map g).Nodup:=by
  intro α β g l hn hi;unfold Jq;rw [FY];exact hn.imp_of_mem fun {a b} ha hb ne e=>ne (hi a ha b hb e)
 refine Sm.d9 (nm (jx h'.some) fun a ha b hb e=>iT h' ha hb ?_) (nm (jx h.some) fun a ha b hb e=>iT h ha hb (ql lk (fo (Lv e).1))) (fun k hk=>?_) fun k hk=>?_
 ·have:=fo (Lv e).1
  rwa [HS,HS] at this
 ·obtain ⟨e',he',rfl⟩:=EE.mp hk;obtain ⟨e,he,e1,e2⟩:=pP h' h lk.symm he';refine EE.mpr ⟨e,he,?_⟩;unfold kf;have e3:=e2.map f;rw [FP,show f∘f=id from funext lk.inv] at e3;rw [e1,Ts.jq e3]
 ·obtain ⟨e,he,rfl⟩:=EE.mp hk;obtain ⟨e',he',e1,e2⟩:=pP h h' lk he;refine EE.mpr ⟨e',he',?_⟩;unfold kf;rw [e1,HS,Ts.jq e2]
theorem nE (h:dX cs rs L) (lk:Sm.cK (nb cs rs) (nb cs' rs') f) {a b:Sm1} (ha:a∈L) (hb:b∈L) (e:(kf f a).1=(kf f b).1):a.1=b.1:=by
 rw [iT h ha hb (ql lk (fo e))]
theorem zY (cs rs:List Int):Sm.cK (nb cs rs) (nb cs rs) id:=⟨fun _=>rfl,fun _ _ h=>h,fun _ _ h=>h⟩
theorem Ck {a b:List (Int×Int)} (h1:Ts.ll a b=false) (h2:Ts.ll b a=false):a=b:=by
 induction a generalizing b with
 | nil =>
  cases b with
  | nil => rfl
  | cons q b => cases h1
 | cons p a ih =>
  cases b with
  | nil => cases h2
  | cons q b =>
   unfold Ts.ll at h1 h2;by_cases e:p=q
   ·rw [if_pos e] at h1;rw [if_pos e.symm] at h2;rw [e,ih h1 h2]
   ·rw [if_neg e] at h1;rw [if_neg fun z=>e z.symm] at h2;have:=Ts.iO e
    rw [h1,h2] at this
    cases this
theorem tM (h:dX cs rs L) (h':dX cs' rs' L') (lk:Sm.cK (nb cs rs) (nb cs' rs') f) {M M':List (List (Int×Int)×Bool)} (p:M.Perm (L.map (kf f))) (p':M'.Perm (L'.map (kf id)))
  (s:M.Pairwise fun a b=>Ts.ll b.1 a.1=false) (s':M'.Pairwise fun a b=>Ts.ll b.1 a.1=false):M'=M:=by
 refine Ts.uy (p'.trans ((mr h h' lk).trans p.symm)) (fun x hx y hy h1 h2=>?_) s' s;have e:=Ck h2 h1;obtain ⟨a,ha,rfl⟩:=EE.mp (p'.mem_iff.mp hx);obtain ⟨b,hb,rfl⟩:=EE.mp (p'.mem_iff.mp hy);exact Fg e (nE h' (zY cs' rs') ha hb e)
end
section
variable {cs rs cs' rs':List Int} {M M':List (Int×Int)}
theorem jD (td:Sm.bz (nb cs rs) true M) (cy:Wn.Cyc M) {x y:Int}:(x,y)∈Wn.W M↔(x,y)∈M/\(x,y+1)∈nb cs rs (x,y):=by
  have G:=b7 cs rs;have st:∀ k,k<M.length->Wn.gt M (Wn.pv M.length k)∈M/\Wn.gt M k∈M/\Wn.gt M k∈nb cs rs (Wn.gt M (Wn.pv M.length k)):=fun k hk=>by
    obtain ⟨p,q,h1,h2,h3⟩:=td.step G hk (.inr rfl);rw [Wn.gt_eq (show M[Wn.pv M.length k]?=some p from h1),Wn.gt_eq h2];exact ⟨ES h1,ES h2,h3⟩
  unfold Wn.W;rw [IE];constructor
  · rintro ⟨k,hk,e⟩
    have hk:=FE.mp hk;obtain ⟨m1,m2,a⟩:=st k hk;rcases Wn.vw_some (cy.adj k hk) e with ⟨e1,e2⟩ | ⟨e1,e2⟩
    · rw [e1] at m1 a
      rw [e2] at a;exact ⟨m1,a⟩
    · rw [e2] at m2 a
      rw [e1] at a;exact ⟨m2,G.sym a⟩
  · rintro ⟨hm,ha⟩
    obtain ⟨k,hk⟩:=List.getElem?_of_mem hm;have kl:=(Bc.mp hk).1;have l3:=cy.len;have gk:Wn.gt M k=(x,y):=Wn.gt_eq hk;obtain ⟨k',hk',pk⟩:∃ k',k'<M.length/\Wn.pv M.length k'=k:=by
      by_cases c:k+1=M.length
      · exact ⟨0,by omega,by unfold Wn.pv; rw [if_pos rfl]; omega⟩
      · exact ⟨k+1,by omega,by unfold Wn.pv; rw [if_neg (by omega)]; omega⟩
    obtain ⟨m1,_,a1⟩:=st k kl;obtain ⟨_,m2,a2⟩:=st k' hk';rw [gk] at a1;rw [pk,gk] at a2;have a1:=G.sym a1;have hpv:=Wn.pv_lt kl;have hne:Wn.gt M (Wn.pv M.length k)≠Wn.gt M k':=fun z=>by
      have z:=Wn.gt_inj cy.nd hpv hk' z;unfold Wn.pv at z pk
      split at z<;>split at pk<;>omega
    have two:(nb cs rs (x,y)).length=2:=(td.flag G).mp rfl _ hm;have:(x,y+1)=Wn.gt M (Wn.pv M.length k)\/(x,y+1)=Wn.gt M k':=by
      by_cases c1:(x,y+1)=Wn.gt M (Wn.pv M.length k)
      · exact .inl c1
      · by_cases c2:(x,y+1)=Wn.gt M k'
        · exact .inr c2
        · have:=Sm.c9 [(x,y+1),Wn.gt M (Wn.pv M.length k),Wn.gt M k'] (nb cs rs (x,y)) (by simp [c1,c2,hne]) (fun z hz=>by
            symm at hz;rcases hz with rfl | rfl | rfl
            · exact ha
            · exact a1
            · exact a2)
          rw [two] at this;simp at this
    rcases this with e | e
    · refine ⟨k,FE.mpr kl,?_⟩
      rw [gk,<- e];unfold Wn.vw;rw [if_pos rfl,if_pos (by show y<y+1; omega)]
    · refine ⟨k',FE.mpr hk',?_⟩
      rw [pk,gk,<- e];unfold Wn.vw;rw [if_pos rfl,if_neg (by show ¬ y+1<y; omega)]
noncomputable def glz (w:Int) (q:Int×Int):Int×Int:=(w - q.1,q.2)
theorem tH (w:Int) (q:Int×Int):glz w (glz w q)=q:=Fg (by show w - (w - q.1)=q.1; omega) rfl
theorem C6 {w:Int} (lk:Sm.cK (nb cs rs) (nb cs' rs') (glz w)) (td:Sm.bz (nb cs rs) true M) (td':Sm.bz (nb cs' rs') true M') (p:M'.Perm (M.map (glz w))) (y:Int):(Wn.rw M' y).Perm ((Wn.rw M y).map fun x=>w - x):=by
 have cy:=dU td;have cy':=dU td';refine Sm.d9 (cy'.rnd y) ?_ (fun x hx=>?_) fun x hx=>?_
 ·unfold Jq;rw [FY];exact (cy.rnd y).imp fun {a b} ne e=>ne (by omega)
 ·obtain ⟨h1,h2⟩:=(jD td' cy').mp (Wn.mem_rw.mp hx);have h3:(w - x,y+1)∈nb cs rs (w - x,y):=lk.jda (x,y) (x,y+1) h2;refine EE.mpr ⟨w - x,Wn.mem_rw.mpr ((jD td cy).mpr ⟨?_,h3⟩),by show w - (w - x)=x; omega⟩;obtain ⟨q,hq,e⟩:=EE.mp (p.mem_iff.mp h1);have:glz w (x,y)=q:=by rw [<- e,tH]
  rw [show (w - x,y)=glz w (x,y) from rfl,this];exact hq
 ·obtain ⟨z,hz,rfl⟩:=EE.mp hx;obtain ⟨h1,h2⟩:=(jD td cy).mp (Wn.mem_rw.mp hz);have h3:(w - z,y+1)∈nb cs' rs' (w - z,y):=lk.adj (z,y) (z,y+1) h2;exact Wn.mem_rw.mpr ((jD td' cy').mpr ⟨p.mem_iff.mpr (EE.mpr ⟨(z,y),h1,rfl⟩),h3⟩)
theorem zS {w:Int} (lk:Sm.cK (nb cs rs) (nb cs' rs') (glz w)) (td:Sm.bz (nb cs rs) true M) (td':Sm.bz (nb cs' rs') true M') (p:M'.Perm (M.map (glz w))) (q:Int×Int):Wn.ins M' q=Wn.ins M (w - 1 - q.1,q.2):=by
 have cy:=dU td;have ev:=cy.even q.2;unfold Wn.ins;have h1:=((C6 lk td td' p q.2).filter fun x=>decide (x<=q.1)).length_eq;rw [Ip,Aj] at h1
 have e:((fun x=>decide (x<=q.1))∘fun x=>w - x)=fun z=>decide (w - 1 - q.1<z):=by
  funext z
  show decide (w - z<=q.1)=_
  exact decide_eq_decide.mpr (by omega)
 rw [e] at h1;have h2:=Wn.cnt_split (x:=w - 1 - q.1) (Wn.rw M q.2);rw [h1];dsimp only;exact decide_eq_decide.mpr (by omega)
theorem zT {w:Int} (lk:Sm.cK (nb cs rs) (nb cs' rs') (glz w)) (td:Sm.bz (nb cs rs) true M) (td':Sm.bz (nb cs' rs') true M') (p:M'.Perm (M.map (glz w))) {C C':List (Int×Int)} (ic:gK M C) (ic':gK M' C'):C'.length=C.length:=by
 have g:∀ {M M':List (Int×Int)} {C C':List (Int×Int)},gK M C->gK M' C'->(∀ q,Wn.ins M' q=Wn.ins M (w - 1 - q.1,q.2))->C'.length<=C.length:=by
  intro M M' C C' ic ic' h;have:=Sm.c9 (C'.map fun q=>(w - 1 - q.1,q.2)) C (by
   unfold Jq;rw [FY];exact ic'.nd.imp fun {a b} ne e=>ne (by
    have e1:=congrArg JV e;have e2:=congrArg MQ e;dsimp only at e1 e2;exact Fg (by omega) e2)) (fun z hz=>by
   obtain ⟨q,hq,rfl⟩:=EE.mp hz;exact (ic.ms _).mpr (by rw [<- h q]; exact (ic'.ms _).mp hq))
  rwa [Aj] at this
 have h1:=zS lk td td' p;refine Nat.le_antisymm (g ic ic' h1) (g ic' ic fun q=>?_);rw [h1];dsimp only;rw [show w - 1 - (w - 1 - q.1)=q.1 by omega]
noncomputable def arF (M:List (Int×Int)):Int:=by
 classical
 exact if h:∃ C,gK M C then ((h.choose.length:Nat):Int) else 0
theorem mQ {C:List (Int×Int)} (h:gK M C):arF M=((C.length:Nat):Int):=by
 unfold arF;rw [dif_pos ⟨C,h⟩];rw [gK.uniq (Exists.choose_spec (⟨C,h⟩:∃ C,gK M C)) h]
theorem uE {L L':List Sm1} {w:Int} (h:dX cs rs L) (h':dX cs' rs' L') (lk:Sm.cK (nb cs rs) (nb cs' rs') (glz w)) (hc:∀ M∈Rs L,∃ C,gK M C) (hc':∀ M∈Rs L',∃ C,gK M C):((Rs L').map arF).Perm ((Rs L).map arF):=by
 have kp:=(mr h h' lk).filter fun k=>k.2;rw [Ip,Ip] at kp;unfold Rs;rw [FP,FP];refine qm kp fun x hx y hy e=>?_;have hx:=FN.mp hx;have hy:=FN.mp hy;have f1:x=(true,x.2):=Fg hx.2 rfl;have f2:y=(true,y.2):=Fg hy.2 rfl;have tx:=h'.some.told x hx.1;have ty:=h.some.told y hy.1;have mx:x.2∈Rs L':=jQ.mpr (by rw [<- f1]; exact hx.1);have my:y.2∈Rs L:=jQ.mpr (by rw [<- f2]; exact hy.1);have b1:x.1=true:=hx.2;have b2:y.1=true:=hy.2;rw [b1] at tx;rw [b2] at ty;obtain ⟨C',ic'⟩:=hc' _ mx;obtain ⟨C,ic⟩:=hc _ my;have pm:=fo (Lv e).1;rw [HS] at pm
 show arF x.2=arF y.2
 rw [mQ ic',mQ ic,zT lk ty tx pm ic ic']
theorem xf {l:List Int} {x:Int} (h0:0<x) (h1:x<(l.length:Int)+1):l.reverse.getD (((l.length:Nat):Int)+1 - x - 1).toNat 0=l.getD (x - 1).toNat 0:=by
 rw [Ex,Ex,MK (by omega)]
 congr 2
 omega
theorem xg {l:List Int} {n:Int} {k:Nat} (h:k<l.length):(shl l n).getD k 0=(l.getD k 0+n)%2:=by
 unfold shl;rw [Ex,Ex,EX,ς h];rfl
theorem iH (l:List Int) (n:Int):(shl l n).length=l.length:=by unfold shl; rw [Aj]
theorem sW (cs rs:List Int) (x y:Int×Int) (h:y∈nb cs rs x):glz ((cs.length:Nat)+1) y∈nb cs.reverse (shl rs (cs.length:Nat)) (glz ((cs.length:Nat)+1) x):=by
 have hr:∀ x y,rt cs rs x y=true->rt cs.reverse (shl rs (cs.length:Nat)) ((cs.length:Nat) - x) y=true:=fun x y h=>by
  obtain ⟨h1,h2,h3,h4,h5⟩:=fY.mp h;refine fY.mpr ⟨h1,by rw [iH]; exact h2,by omega,by rw [F0]; omega,?_⟩;rw [xg (by omega)];omega
 have hu:∀ x y,ups cs rs x y=true->ups cs.reverse (shl rs (cs.length:Nat)) ((cs.length:Nat)+1 - x) y=true:=fun x y h=>by
  obtain ⟨h1,h2,h3,h4,h5⟩:=eG.mp h;refine eG.mpr ⟨by omega,by rw [F0]; omega,h3,by rw [iH]; exact h4,?_⟩;rw [xf h1 h2];exact h5
 refine dJ.mpr ?_;have hb:=dJ.mp h;clear h;unfold glz;dsimp only;rcases hb with ⟨h,rfl⟩ | ⟨h,rfl⟩ | ⟨h,rfl⟩ | ⟨h,rfl⟩
 ·have:=hr _ _ h
  rw [show ((cs.length:Nat):Int) - (x.1 - 1)=((cs.length:Nat):Int)+1 - x.1 by omega] at this;exact .inr (.inr (.inr ⟨this,Fg (by dsimp only; omega) rfl⟩))
 ·exact .inr (.inl ⟨hu _ _ h,rfl⟩)
 ·exact .inr (.inr (.inl ⟨hu _ _ h,rfl⟩))
 ·have:=hr _ _ h
  rw [show ((cs.length:Nat):Int) - x.1=((cs.length:Nat):Int)+1 - x.1 - 1 by omega] at this;exact .inl ⟨this,Fg (by dsimp only; omega) rfl⟩
theorem xA (br:cQ rs):Sm.cK (nb cs rs) (nb cs.reverse (shl rs (cs.length:Nat))) (glz ((cs.length:Nat)+1)):=by
 refine ⟨tH _,sW cs rs,fun x y h=>?_⟩;have:=sW cs.reverse (shl rs (cs.length:Nat)) x y h
 rwa [Hx,F0,A6 br] at this
theorem sX (cs rs:List Int) (x y:Int×Int) (h:y∈nb cs rs x):(y.2,y.1)∈nb rs cs (x.2,x.1):=by
 have hr:∀ x y,rt cs rs x y=true->ups rs cs y x=true:=fun x y h=>by
  obtain ⟨h1,h2,h3,h4,h5⟩:=fY.mp h;exact eG.mpr ⟨h1,h2,h3,h4,h5⟩
 have hu:∀ x y,ups cs rs x y=true->rt rs cs y x=true:=fun x y h=>by
  obtain ⟨h1,h2,h3,h4,h5⟩:=eG.mp h;exact fY.mpr ⟨h1,h2,h3,h4,h5⟩
 refine dJ.mpr ?_;have hb:=dJ.mp h;clear h;dsimp only;rcases hb with ⟨h,rfl⟩ | ⟨h,rfl⟩ | ⟨h,rfl⟩ | ⟨h,rfl⟩
 ·exact .inr (.inl ⟨hr _ _ h,rfl⟩)
 ·exact .inl ⟨hu _ _ h,rfl⟩
 ·exact .inr (.inr (.inr ⟨hu _ _ h,rfl⟩))
 ·exact .inr (.inr (.inl ⟨hr _ _ h,rfl⟩))
noncomputable def tra (q:Int×Int):Int×Int:=(q.2,q.1)
theorem xB:Sm.cK (nb cs rs) (nb rs cs) tra:=⟨fun _=>rfl,sX cs rs,sX rs cs⟩
theorem yV {bs:List Int} (h:cQ bs):bs.map (fun b=>1 - b)=shl bs 1:=by
 unfold shl;refine GK fun b hb=>?_;have:=h.2 b hb
 omega
end
section
variable {K:W.Frag} {σ:L2.St} {H:Hp} {Q:VK} {te:TE} {cap:List (Option Nat)} {l a:Ω} {xs:List V}
theorem cL (R:Nat->V->Hp->Prop) (hs:SqL K H a xs) (hz:xs.length<2000) (hl:H l=none) (hp:∀ (i:Nat) v,xs[i]?=some v->∃ b u1 u2,v=.ref b/\H b=some (.tup [u1,u2])) (mS:∀ i v H1 H2,ah H1 H2->R i v H1->R i v H2) (mU:∀ i v H1 ys o,H1 l=some (.lst ys)->R i v H1->R i v (upd H1 l o))
  (step:∀ (i:Nat) b u1 u2 o1 o2 H' (Q':VK),xs[i]?=some (.ref b)->H b=some (.tup [u1,u2])->ah H H'->(∃ ys,H' l=some (.lst ys))->(∀ v H5,ah H' H5->R i v H5->Q' v H5)->te (((((eQ (none::none::cap) σ).set 0 o1).set 1 o2).set 0 (some u1)).set 1 (some u2)) H' Q')
  (fin:∀ (ys:List V) H',ah H H'->H' l=some (.lst ys)->ys.length=xs.length->(∀ (i:Nat) v,ys[i]?=some v->R i v H')->Q (.ref l) H'):gO (Itl K a) (rA K 2 (gR (cT 0) (gR (cT 1) uP))) gU te (none::none::cap) l σ H Q:=by
 refine ⟨xs.length,fun i ys σ' H'=>(ys.length=i/\∀ (j:Nat) v,ys[j]?=some v->R j v H')/\(∃ o1 o2,σ'=((eQ (none::none::cap) σ).set 0 o1).set 1 o2)/\ah H H'/\H' l=some (.lst ys),⟨⟨rfl,fun j b e=>by simp at e⟩,⟨none,none,rfl⟩,ah.new hl,af⟩,?_,?_⟩
 ·rintro i ys σ' H' hi ⟨⟨la,hR⟩,⟨o1,o2,rfl⟩,s,e⟩;refine ⟨⟨xs,xs[i],s.seq hs,by simp [hi]⟩,fun x H2 y=>?_⟩;obtain ⟨e2,y⟩:=y;subst e2;have hx:=y xs (s.seq hs);obtain ⟨b,u1,u2,rfl,hb⟩:=hp i x hx;refine iR (s _ _ hb) rfl ?_;refine cP (b9 (cP (b9 (iQ ?_))));refine dA (lF ?_);refine step i b u1 u2 o1 o2 H2 _ hx hb s ⟨_,e⟩ fun v H5 s5 r=>⟨s5 _ _ e,aQ (by omega),⟨by rw [Bd,la]; rfl,fun j c ej=>?_⟩,⟨some u1,some u2,rfl⟩,(s.trans s5).later hl,af⟩
  by_cases hj:j<ys.length
  ·rw [GI hj] at ej;exact mU j c _ _ _ (s5 _ _ e) (mS j c _ _ s5 (hR j c ej))
  ·rw [FQ (by omega)] at ej
   have hj0:j - ys.length=0:=by
    have hh:=(Bc.mp ej).1;rw [EL] at hh;omega
   have hji:j=i:=by omega
   rw [hj0] at ej
   cases ej;subst hji;exact mU j v _ _ _ (s5 _ _ e) r
 ·rintro ys σ' H' ⟨⟨la,hR⟩,_,s,e⟩;exact ⟨⟨xs,s.seq hs,I_ rfl⟩,fin ys H' s e la hR⟩
end
section
noncomputable def seD (e:Sm1):PyData:=.tuple [.bool e.1,.list (e.2.map Ts.ptD)]
theorem yU (e:Sm1):Fz (seD e) (seD e)=true:=by
 have k:∀ ps:List (Int×Int),GN (ps.map Ts.ptD) (ps.map Ts.ptD)=true:=fun ps=>by rw [Ts.kD]; exact ba rfl
 unfold seD;simp only [Fz,GN,k,Lq,beq_self_eq_true]
theorem si (e:Sm1):HR (seD e)=true:=by
 have h1:=Ts.iP e.2;have h3:=Ts.hJ e.2;unfold HR seD;rw [FL];refine ⟨?_,ba ?_⟩
 ·simp only [Iw,G9,h1,Lq]
 ·simp only [Im,Gm];omega
theorem yM {H:Hp} {lf:Ω} {v:V} {e:Sm1} (h:SeV H lf v e):Rep H (seD e) v:=by
 obtain ⟨T,l,ys,rfl,_,h3,h4,h5⟩:=h;have r:=nW h4 h5;unfold seD;rw [Rep];refine ⟨T,_,rfl,h3,?_⟩;rw [RepL];refine ⟨_,_,rfl,by rw [Rep],?_⟩;rw [RepL];refine ⟨_,_,rfl,r,?_⟩;rw [RepL]
theorem yJ {H:Hp} {lf:Ω}:∀ {xs:List V} {L:List Sm1},PwS H lf xs L->RepL H (L.map seD) xs:=by
 intro xs
 induction xs with
 | nil =>
  intro L h
  cases L with
  | nil => simp only [HW, RepL]
  | cons e L => have := h.1; simp at this
 | cons v xs ih =>
  intro L h
  cases L with
  | nil => have := h.1; simp at this
  | cons e L =>
   rw [EW,RepL];exact ⟨v,xs,rfl,yM (h.2 0 v e rfl rfl),ih ⟨by have:=h.1; simpa using this,fun i v' e' h1 h2=>h.2 (i+1) v' e' (by simpa using h1) (by simpa using h2)⟩⟩
theorem uj {H:Hp} {l lf:Ω} {xs:List V} {L:List Sm1} (e:H l=some (.lst xs)) (h:PwS H lf xs L):Rep H (.list (L.map seD)) (.ref l):=by
 rw [Rep];exact ⟨l,xs,rfl,e,yJ h⟩
def RoV (H:Hp) (lf:Ω) (v:V) (e:Sm1):Prop:=∃ R x T,v=.ref R/\H R=some (.tup [x,.ref T])/\Pt H x (hd e)/\SeV H lf (.ref T) e
theorem RoV.mono {H H':Hp} {lf:Ω} {v:V} {e:Sm1} (s:ah H H') (h:RoV H lf v e):RoV H' lf v e:=by
 obtain ⟨R,x,T,h1,h2,h3,h4⟩:=h;exact ⟨R,x,T,h1,s _ _ h2,h3.mono s,h4.mono s⟩
theorem RoV.lst {H:Hp} {lf:Ω} {v:V} {e:Sm1} {us:List V} {o:HO} (h:RoV H lf v e) (q:H lf=some (.lst us)):RoV (upd H lf o) lf v e:=by
 obtain ⟨R,x,T,h1,h2,h3,h4⟩:=h;exact ⟨R,x,T,h1,by rw [aj (cg h2 q (by intro z; cases z))]; exact h2,h3.upd q (by intro ys z; cases z),h4.lst q⟩
theorem RoV.dct {H:Hp} {lf d:Ω} {v:V} {e:Sm1} {us:List (List Key×V)} {o:HO} (h:RoV H lf v e) (q:H d=some (.dT us)):RoV (upd H d o) lf v e:=by
 obtain ⟨R,x,T,h1,h2,h3,h4⟩:=h;exact ⟨R,x,T,h1,by rw [aj (cg h2 q (by intro z; cases z))]; exact h2,h3.upd q (by intro ys z; cases z),h4.dct q⟩
noncomputable def roT (H:Hp):V->V
 | .ref R=>match H R with
  | some (.tup [_, y]) => y
  | _ => .non
 | _=>.non
noncomputable def gN (H:Hp) (v:V):Sm1:=eU H (roT H v)
theorem RoV.of {H:Hp} {lf:Ω} {v:V} {e:Sm1} (h:RoV H lf v e):gN H v=e/\SeV H lf (roT H v) e:=by
 obtain ⟨R,x,T,rfl,h2,h3,h4⟩:=h;have e1:roT H (.ref R)=.ref T:=by simp only [roT,h2]
 unfold gN;rw [e1];exact ⟨h4.of,h4⟩
def PwR (H:Hp) (lf:Ω) (xs:List V) (L:List Sm1):Prop:=(∀ v∈xs,RoV H lf v (gN H v))/\xs.map (gN H)=L
theorem PwR.imp {H H':Hp} {lf:Ω} {xs:List V} {L:List Sm1} (h:PwR H lf xs L) (k:∀ v e,RoV H lf v e->RoV H' lf v e):PwR H' lf xs L:=by
 have e:∀ v∈xs,gN H' v=gN H v:=fun v hv=>(k v _ (h.1 v hv)).of.1;exact ⟨fun v hv=>by rw [e v hv]; exact k v _ (h.1 v hv),by rw [<- h.2]; exact GK e⟩
theorem PwR.snoc {H:Hp} {lf:Ω} {xs:List V} {L:List Sm1} {v:V} {e:Sm1} (h:PwR H lf xs L) (hv:RoV H lf v e):PwR H lf (xs++[v]) (L++[e]):=by
 have e1:=hv.of.1;refine ⟨fun u hu=>?_,by rw [FO,h.2,KP,e1]⟩;rcases EG.mp hu with z | z
 ·exact h.1 u z
 ·rw [Ξ.mp z,e1];exact hv
structure q8 (H:Hp) (lf ds:Ω) (L:List Sm1):Prop where
 lst:∃ xs,H lf=some (.lst xs)/\PwR H lf xs L
 dct:∃ kvs,H ds=some (.dT kvs)/\cB kvs (bu L)
theorem q8.mono {H H':Hp} {lf ds:Ω} {L:List Sm1} (s:ah H H') (h:q8 H lf ds L):q8 H' lf ds L :=
 ⟨let ⟨xs,h1,h2⟩:=h.lst; ⟨xs,s _ _ h1,h2.imp fun _ _ r=>r.mono s⟩,let ⟨kvs,h1,h2⟩:=h.dct; ⟨kvs,s _ _ h1,h2⟩⟩
end
section
variable {P:ER} {w:E2} {K:W.Frag} {mg:Str->Option Δ} {base:FD} {t:Ad}
def sp_aD:Sp:=fun vs H Q _=>∃ (pp:Ω) (s:Int) (cs rs:List Int),vs=[.ref pp]/\eK true H pp s cs rs/\cs.length<=39/\rs.length<=39 /\
 ∀ l ys L H',ah H H'->H l=none->H' l=some (.lst ys)->dX cs rs L->PwS H' l ys L->Q (.ref l) H'
theorem ok_aD (T:Txt K mg t):aP P w K mg base CX0 10 t.f_aD t.d_aD ["_law_plan_here"] sp_aD:=by
  refine T.F_aD.ok sc_aD (fun vs H Q E h=>?_) (fun cdv A outer s H vs Q E hr h=>?_)
  · obtain ⟨pp,s,cs,rs,rfl,_⟩:=h; rfl
  · obtain ⟨pp,s,cs,rs,rfl,pl,lc,lr,k⟩:=h
    refine aM (aO 1 sc_aD.nd (cw ae)) fun _ _=>aM (aO 2 sc_aD.nd qg) fun _ _=>aM (cZ FI rfl (cY rfl T.no_au (aa (aA a7 (aq (bp K rfl) rfl T.no_len (by rfl) (aa (ay (aN K rfl) (pv 0) ag) ae)) ag) ae)) (aG (i:=3) sc_aD.nd rfl (Fp rfl)) (ai (cZ FI rfl (cY rfl T.no_au (aa (aA a7 (aq (bp K rfl) rfl T.no_len (by rfl) (aa (ay (aN K rfl) (pv 0) ag) ae)) ag) ae)) (aG (i:=4) sc_aD.nd rfl (Fp rfl)) (aL (aO 5 sc_aD.nd i7) (aL (cq (aY (yd (vo (tJ hr) (bw (aa (pv 3) (aa (pv 4) ae))) (pv 2))) (ai (aO 5 sc_aD.nd (ao (ok_aQ T) (rmo hr) rfl T.mg_aQ T.F_aQ.kp T.b_aQ .nil aB (aa (pv 0) (aa (bw (aa (pv 3) (aa (pv 4) ae))) ae))))) aD)) (ai (aY (bB tX (pv 5) i7) (aL (bC (cU Em Eu Et a8 (pv 1) (aa (bw (aa (ay (ar K rfl) (ay (aN K rfl) (pv 5) ag) ag) (aa (pv 5) ae))) ae))) (ai (cZ FI rfl (bK (ay (aN K rfl) (pv 5) ag)) (aG (i:=6) sc_aD.nd rfl (Fp rfl)) (ai (t6 (tJ hr) (pv 2) (pv 6) fe rfl))))) aD))))))) fun _ _=>dy (aC (bW (N:=["_law_first","_law_one"]) (cap:=[none,none]) rfl ⟨rfl,rfl,rfl,rfl,rfl,rfl⟩ (bK (aq (uI K rfl hr.u160) rfl T.no_sorted (by rfl) (aa (pv 1) ae))) (fun _ _ _=>(et (n:=2) K rfl rfl (bA (aG (i:=0) (show (["_law_first","_law_one"]:List Str).Nodup by decide +kernel) rfl (Fp rfl)) (bA (aG (i:=1) (show (["_law_first","_law_one"]:List Str).Nodup by decide +kernel) rfl (Fp rfl)) eC)))) (fun _ _ _=>bX) (fun _ _ _=>(pv 1)))) fun _ _=>?_;apply ⟨En _,fun lf nf=>?_⟩;have s1:=ah.new (o:=HO.lst []) nf;have e1:=af (H:=H) (a:=lf) (o:=HO.lst []);generalize upd H lf (HO.lst [])=H1 at s1 e1 ⊢;apply fun ds nd=>?_;have s2:=s1.trans (ah.new (o:=HO.dT []) nd);have nds:H ds=none:=s1.free nd;have ga:q8 (upd H1 ds (.dT [])) lf ds []:=⟨⟨[],ah.new nd _ _ e1,⟨fun v hv=>(nomatch hv),rfl⟩⟩,⟨[],af,rfl⟩⟩
    generalize upd H1 ds (HO.dT [])=H2 at s2 ga ⊢;obtain ⟨⟨c,r,hp,hc,hr'⟩,_⟩:=id pl;apply aR (SqT.of (s2 _ _ hp)) (v:=.ref c) rfl ?_;apply bq (s2 _ _ hc) ?_;rw [Aj];apply ⟨_,rfl,by omega,by omega,?_⟩;rw [show ((cs.length:Int)+2).toNat=cs.length+2 by omega];refine cX (fun x σ' H'=>∃ (L:List Sm1) (o3 o4 o5 o6:Option V),σ'=[some (.ref pp),some (.ref lf),some (.ref ds),o3,o4,o5,o6]/\ah H H'/\q8 H' lf ds L/\dr cs rs L/\∀ q,cR cs rs q->nb cs rs q≠[]->q.1<(x:Nat)->q∈bu L)
      ⟨[],none,none,none,none,rfl,s2,ga,⟨(fun e he=>nomatch he),GD⟩,fun q hq _ h=>by have:=hq.1.1; omega⟩ ?_ ?_
    · rintro x σ' H3 hx ⟨L,o3,o4,o5,o6,rfl,s3,ga3,so3,cov3⟩
      rw [Jz];apply aR (SqT.of (s3 _ _ hp)) (v:=.ref r) rfl ?_;apply bq (s3 _ _ hr') ?_;rw [Aj];apply ⟨_,rfl,by omega,by omega,?_⟩;rw [show ((rs.length:Int)+2).toNat=rs.length+2 by omega];refine cX (fun y σ' H'=>∃ (L:List Sm1) (o4 o5 o6:Option V),σ'=[some (.ref pp),some (.ref lf),some (.ref ds),some (.int (x:Nat)),o4,o5,o6]/\ah H H'/\q8 H' lf ds L/\dr cs rs L/\∀ q,cR cs rs q->nb cs rs q≠[]->(q.1<(x:Nat)\/(q.1=(x:Nat)/\q.2<(y:Nat)))->q∈bu L)
        ⟨L,o4,o5,o6,rfl,s3,ga3,so3,fun q hq hn h=>cov3 q hq hn (by have:=hq.2.1; omega)⟩ ?_ ?_
      · rintro y σ' H4 hy ⟨L,o4,o5,o6,rfl,s4,ga4,so4,cov4⟩
        rw [Jz];have hin:cR cs rs (((x:Nat):Int),((y:Nat):Int)):=⟨⟨by dsimp only; omega,by dsimp only; omega⟩,by dsimp only; omega,by dsimp only; omega⟩
        have nxt:∀ L',(∀ q∈bu L,q∈bu L')->(nb cs rs (((x:Nat):Int),((y:Nat):Int))≠[]->(((x:Nat):Int),((y:Nat):Int))∈bu L') ->
            ∀ q,cR cs rs q->nb cs rs q≠[]->(q.1<(x:Nat)\/(q.1=(x:Nat)/\q.2<((y+1:Nat):Int)))->q∈bu L':=fun L' sub hp q hq hn h=>by
          by_cases hh:q.1<(x:Nat)\/(q.1=(x:Nat)/\q.2<(y:Nat))
          · exact sub q (cov4 q hq hn hh)
          · have:q=(((x:Nat):Int),((y:Nat):Int)):=Fg (by show q.1=_; omega) (by show q.2=_; omega)
            rw [this] at hn ⊢; exact hp hn
        generalize ((y:Nat):Int)=yy at hin nxt ⊢;clear cov4;apply cu (fun σ' H'=>ah H H'/\q8 H' lf ds L/\((σ'=[some (.ref pp),some (.ref lf),some (.ref ds),some (.int (x:Nat)),some (.int yy),some V.non,o6]/\(nb cs rs (((x:Nat):Int),yy)=[]\/(((x:Nat):Int),yy)∈bu L)) \/
          ∃ T l f zs M,σ'=[some (.ref pp),some (.ref lf),some (.ref ds),some (.int (x:Nat)),some (.int yy),some (.ref T),o6]/\(((x:Nat):Int),yy)∉bu L/\l≠lf/\H' T=some (.tup [.bl f,.ref l])/\H' l=some (.lst zs)/\Sm.bz (nb cs rs) f M/\(((x:Nat):Int),yy)∈M/\au H' zs M)) ?_ ?_
        · apply nwT fun a H5 sa na ea=>?_;have ga5:=ga4.mono sa;have s5:=s4.trans sa;obtain ⟨kvs,ed,ke⟩:=ga5.dct;apply ⟨ds,_,rfl,lD.t (k:=ky (((x:Nat):Int),yy)) ed ea,?_⟩;rw [ke.val];by_cases hm:(((x:Nat):Int),yy)∈bu L
          · rw [ba hm]
            left;exact ⟨s5,ga5,.inl ⟨rfl,.inr hm⟩⟩
          · rw [bO hm]
            apply nwT fun b H6 sb nb eb=>?_;have ga6:=ga5.mono sb;have s6:=s5.trans sb;clear ed ke kvs ga5 ga4;apply ⟨pp,b,(((x:Nat):Int),yy),s,cs,rs,rfl,pl.mono s6,lc,lr,eb,hin,fun hz H7 s7=>?_,fun hz T l f zs M H7 s7 nT nl eT el td hq px=>?_⟩
            · left
              exact ⟨s6.trans s7,ga6.mono s7,.inl ⟨rfl,.inl hz⟩⟩
            · apply ⟨s6.trans s7,ga6.mono s7,.inr ⟨T,l,f,zs,M,rfl,hm,fun z=>?_,eT,el,td,hq,px⟩⟩;obtain ⟨ys',ef',_⟩:=ga6.lst;rw [z,ef'] at nl
              cases nl
        rintro σ' H7 ⟨s7,ga7,⟨rfl,hno⟩ | ⟨T,l,f,zs,M,rfl,hm,nlf,eT,el,td,hq,px⟩⟩
        · apply ⟨rfl,?_⟩;rw [show (!decide (V.non=V.non))=false by simp];left;exact ⟨L,_,_,_,rfl,s7,ga7,so4,nxt L (fun q hq=>hq) fun h=>hno.elim (fun z=>absurd z h) id⟩
        · have so7:=so4.add (e:=(f,M)) td hq hm
          have hsub:∀ q∈bu L,q∈bu (L++[(f,M)]):=fun q hq=>by rw [bQ]; exact E1 _ hq
          have hme:(((x:Nat):Int),yy)∈bu (L++[(f,M)]):=by rw [bQ]; exact ED _ hq
          obtain ⟨u0,u1,um,eM,_⟩:=td.path;have px:=px;obtain ⟨zv,zr,ez,hv0,_⟩:∃ v r,zs=v::r/\Pt H7 v u0/\au H7 r (u1::um):=by
            rw [eM] at px;exact px.inv
          apply ⟨rfl,?_⟩;rw [show (!decide (V.ref T=V.non))=true by simp];left;obtain ⟨ys,ef,pr⟩:=ga7.lst;refine bS ef ?_;apply aR (SqT.of eT) (v:=.ref l) rfl ?_;apply aE (SqL.of el) (v:=zv) (bH (j:=0) (by rw [ez]; rfl)) ?_;apply nwT fun ro H8 sro nro ero=>?_;have ga8:=ga7.mono sro;obtain ⟨kvs,ed,ke⟩:=ga8.dct;have pr8:=pr.imp fun _ _ r=>r.mono sro;have ef8:=sro _ _ ef;have eT8:=sro _ _ eT;have el8:=sro _ _ el;have px8:=px.mono sro
          have hv8:Pt H8 zv (hd (f,M)):=by
            unfold hd;rw [eM];exact hv0.mono sro
          have s8:=s7.trans sro
          have ly:ys.length<=1681:=by
            have:=congrArg Ij pr.2
            rw [Aj] at this;rw [this];exact (so4.few lc lr).2
          clear ga7 ef pr eT el px sro s7 hv0 ga8;apply aW ef8 (aQ (by omega)) ?_;have pr9:=(pr8.imp (H':=upd H8 lf (.lst (ys++[V.ref ro]))) fun _ _ r=>r.lst ef8).snoc (e:=(f,M)) (RoV.lst (o:=.lst (ys++[V.ref ro])) ⟨ro,zv,T,rfl,ero,hv8,T,l,zs,rfl,nlf,eT8,el8,px8⟩ ef8);have ef9:=af (H:=H8) (a:=lf) (o:=.lst (ys++[V.ref ro]));have ed9:upd H8 lf (.lst (ys++[V.ref ro])) ds=some (.dT kvs):=(aj (cg ed ef8 (by intro z; cases z))).trans ed;have s9:=s8.later (o:=.lst (ys++[V.ref ro])) nf;have el9:upd H8 lf (.lst (ys++[V.ref ro])) l=some (.lst zs):=(aj nlf).trans el8;have px9:=px8.upd (o:=.lst (ys++[V.ref ro])) ef8 (by intro ys z; cases z);have eT9:upd H8 lf (.lst (ys++[V.ref ro])) T=_:=(aj (cg eT8 ef8 (by intro z; cases z))).trans eT8;generalize upd H8 lf (.lst (ys++[V.ref ro]))=H9 at pr9 ef9 ed9 s9 el9 px9 eT9 ⊢;clear ef8 ed el8 pr8 eT8 px8 ero hv8 s8;apply aR (SqT.of eT9) (v:=.ref l) rfl ?_;apply ⟨⟨_,SqL.of el9⟩,?_⟩;have nd8:(bu L++M).Nodup:=by have:=so7.nd; rwa [bQ] at this
          have fw:=(so7.few lc lr).1;rw [bQ,Bd] at fw;dsimp only at fw;refine i4 (K:=K) (a:=l) (xs:=zs) (fun i σ' H'=>∃ (o6:Option V) (kvs:List (List Key×V)),σ'=[some (.ref pp),some (.ref lf),some (.ref ds),some (.int (x:Nat)),some (.int yy),some (.ref T),o6]/\ah H H'/\H' lf=some (.lst (ys++[V.ref ro]))/\PwR H' lf (ys++[V.ref ro]) (L++[(f,M)]) /\
              H' l=some (.lst zs)/\au H' zs M/\H' ds=some (.dT kvs)/\cB kvs (bu L++M.take i))
            ⟨_,kvs,rfl,s9,ef9,pr9,el9,px9,ed9,by rw [G4,ET]; exact ke⟩ (fun i σ' H' _ ⟨_,_,_,_,_,_,z,_⟩=>SqL.of z) ?_ ?_
          · rintro i v σ' HA hv ⟨o6,kvs,rfl,sA,efA,prA,elA,pxA,edA,keA⟩
            have hi:i<zs.length:=(Bc.mp hv).1;have hi':i<M.length:=by rw [<- pxA.1]; exact hi
            obtain ⟨q,hq⟩:∃ q,M[i]?=some q:=⟨_,ς hi'⟩
            obtain ⟨c,rfl,hc⟩:=pxA.2 i v q hv hq;have ht:M.take (i+1)=M.take i++[q]:=by rw [Gn,hq]; rfl
            have nq:q∉bu L++M.take i:=by
              have h1:(bu L++M.take (i+1)).Nodup:=by
                rw [FZ] at nd8 ⊢;refine ⟨nd8.1,nd8.2.1.sublist (FW _ _),fun a ha b hb=>nd8.2.2 a ha b (E6 hb)⟩
              rw [ht,<- EI,FZ] at h1;exact fun z=>h1.2.2 q z q (by simp) rfl
            apply ⟨ds,_,rfl,qY.t (k:=ky q) edA hc ?_,?_⟩
            · have:=keA.len
              rw [Bd,E7] at this;exact aQ (by omega)
            have keB:=keA.put (v:=.bl true) nq;rw [EI,<- ht] at keB;exact ⟨_,_,rfl,sA.later (o:=.dT _) nds,(aj (cg efA edA (by intro z; cases z))).trans efA,prA.imp fun _ _ r=>r.dct edA,(aj (cg elA edA (by intro z; cases z))).trans elA,pxA.upd edA (by intro ys z; cases z),af,keB⟩
          · rintro σ' HA ⟨o6,kvs,rfl,sA,efA,prA,elA,pxA,edA,keA⟩
            rw [EN (by rw [pxA.1]; exact A_ _)] at keA;exact ⟨L++[(f,M)],_,_,_,rfl,sA,⟨⟨_,efA,prA⟩,⟨kvs,edA,by rw [bQ]; exact keA⟩⟩,so7,nxt _ hsub fun _=>hme⟩
      · rintro σ' H4 ⟨L,o4,o5,o6,rfl,s4,ga4,so4,cov4⟩
        refine ⟨L,_,_,_,_,rfl,s4,ga4,so4,fun q hq hn h=>cov4 q hq hn ?_⟩;have h2:=hq.2.2;by_cases hh:q.1<(x:Nat)
        · exact .inl hh
        · exact .inr ⟨by omega,by omega⟩
    · rintro σ' H3 ⟨L,o3,o4,o5,o6,rfl,s3,ga3,so3,cov3⟩
      obtain ⟨xs,ef,px⟩:=ga3.lst;have mL:∀ v∈xs,gN H3 v∈L:=fun v hv=>by rw [<- px.2]; exact EE.mpr ⟨v,hv,rfl⟩
      have lx:xs.length<=1681:=by
        have:=congrArg Ij px.2
        rw [Aj] at this;rw [this];exact (so3.few lc lr).2
      apply qB (fun v=>hd (gN H3 v)) (fun v=>seD (gN H3 v)) ef (fun v hv=>?_) (fun v hv u hu e=>?_) fun l2 ys nl2 pm pw=>?_
      · obtain ⟨R,x,T,e1,e2,e3,e4⟩:=px.1 v hv
        exact ⟨R,x,.ref T,e1,e2,e3,yM e4,si _⟩
      · have t1:=so3.told _ (mL v hv)
        have t2:=so3.told _ (mL u hu);obtain ⟨z1,z2⟩:=t1.uniq (b7 cs rs) t2 (fA t1).1 (by rw [show hd (gN H3 v)=hd (gN H3 u) from e]; exact (fA t2).1);rw [show gN H3 u=gN H3 v from (Fg z1 z2).symm];exact yU _
      have e2:=af (H:=H3) (a:=l2) (o:=HO.lst ys);have sl:=ah.new (o:=HO.lst ys) nl2;generalize upd H3 l2 (HO.lst ys)=H4 at e2 sl ⊢;apply ⟨⟨_,SqL.of e2⟩,fun lo no=>?_⟩;have mem:∀ v∈ys,RoV H4 lf v (gN H3 v):=fun v hv=>(px.1 v (pm.mem_iff.mp hv)).mono sl
      have pL:(ys.map (gN H3)).Perm L:=by
        have:=pm.map (gN H3)
        rwa [px.2] at this
      refine mZ (ys.map (roT H3)) (Aj _) (SqL.of e2) (by rw [pm.length_eq]; omega) no (fun i v hv=>?_) (fun i b u1 u2 y o1 o2 H' Q' hx hb hy s5 q=>?_) fun H5 s5 e5=>?_
      · obtain ⟨R,x,T,e1,e2,_⟩:=mem v (ES hv)
        exact ⟨R,x,_,e1,e2⟩
      · left
        have:y=u2:=by
          rw [EX,hx,G8] at hy;obtain ⟨R,x,T,e1,e2,_⟩:=px.1 _ (pm.mem_iff.mp (ES hx))
          cases e1;have e3:=sl _ _ e2;rw [e3] at hb
          cases hb;rw [<- Ez hy];simp only [roT,e2]
        subst this;exact q _ (ah.refl _)
      · refine k lo _ _ H5 (s3.trans (sl.trans s5)) (s3.free (sl.free no)) e5 ⟨so3.perm pL,fun q hq hn=>?_,?_⟩ ?_
        · exact (i3 pL).mem_iff.mpr (cov3 q hq hn (by have:=hq.1.2; omega))
        · rw [FY]
          exact pw.imp fun {a b} h=>Ts.bR.mp h
        · refine ⟨by rw [Aj,Aj],fun i v e h1 h2=>?_⟩
          rw [EX] at h1 h2;obtain ⟨u,hu,rfl⟩:=JX.mp h1;rw [hu] at h2
          cases h2;obtain ⟨T,l,zs,h1,h2,h3,h4,h5⟩:=(px.1 u (pm.mem_iff.mp (ES hu))).of.2;have sx:=sl.trans s5;refine ⟨T,l,zs,h1,fun z=>?_,sx _ _ h3,sx _ _ h4,h5.mono sx⟩;rw [z] at h4;rw [sl _ _ h4] at no
          cases no
end
section
def KeV (H:Hp) (v:V) (k:List (Int×Int)×Bool):Prop:=∃ b c zs,v=.ref b/\H b=some (.tup [.ref c,.bl k.2])/\H c=some (.lst zs)/\au H zs k.1
theorem KeV.mono {H H':Hp} {v:V} {k:List (Int×Int)×Bool} (s:ah H H') (h:KeV H v k):KeV H' v k:=by
 obtain ⟨b,c,zs,h1,h2,h3,h4⟩:=h;exact ⟨b,c,zs,h1,s _ _ h2,s _ _ h3,h4.mono s⟩
noncomputable def uV (H:Hp):V->List (Int×Int)×Bool
 | .ref b=>match H b with
  | some (.tup [.ref c, .bl f]) => match H c with
   | some (.lst zs)=>(zs.map (ck H),f)
   | _=>([],false)
  | _ => ([], false)
 | _=>([],false)
theorem KeV.of {H:Hp} {v:V} {k:List (Int×Int)×Bool} (h:KeV H v k):uV H v=k:=by
 obtain ⟨b,c,zs,rfl,h2,h3,h4⟩:=h;simp only [uV,h2,h3,h4.map]
noncomputable def keD (k:List (Int×Int)×Bool):PyData:=.tuple [.list (k.1.map Ts.ptD),.bool k.2]
theorem C4 {H:Hp} {v:V} {k:List (Int×Int)×Bool} (h:KeV H v k):Rep H (keD k) v:=by
 obtain ⟨b,c,zs,rfl,h2,h3,h4⟩:=h;have r:=nW h3 h4;unfold keD;rw [Rep];refine ⟨b,_,rfl,h2,?_⟩;rw [RepL];refine ⟨_,_,rfl,r,?_⟩;rw [RepL];refine ⟨_,_,rfl,by rw [Rep],?_⟩;rw [RepL]
theorem yI {H:Hp} {g:V->List (Int×Int)×Bool} {ys:List V} (h:∀ v∈ys,KeV H v (g v)):RepL H ((ys.map g).map keD) ys:=by
 induction ys with
 | nil=>simp only [HW,RepL]
 | cons v ys ih =>
  rw [EW,EW,RepL];exact ⟨v,ys,rfl,C4 (h v θ),ih fun u hu=>h u (Θ _ hu)⟩
end
section
variable {P:ER} {w:E2} {K:W.Frag} {mg:Str->Option Δ} {base:FD} {t:Ad}
def sp_aJ:Sp:=fun vs H Q _=>∃ (a lf:Ω) (xs:List V) (L:List Sm1),vs=[.ref a]/\H a=some (.lst xs)/\PwS H lf xs L/\L.length<=1681/\(∀ e∈L,∀ e'∈L,Ts.srt e.2=Ts.srt e'.2->e.1=e'.1) /\
 ∀ (l:Ω) (M:List (List (Int×Int)×Bool)) (H':Hp),ah H H'->Rep H' (.list (M.map keD)) (.ref l)->M.Perm (L.map fun e=>(Ts.srt e.2,e.1))->M.Pairwise (fun a b=>Ts.ll b.1 a.1=false)->Q (.ref l) H'
theorem ok_aJ (T:Txt K mg t):aP P w K mg base CX0 1 t.f_aJ t.d_aJ ["_law_rows"] sp_aJ:=by
 refine T.F_aJ.ok sc_aJ (by walk_at "l") (fun _ _ _ s H vs Q E hr h=>?_)
 ·obtain ⟨a,lf,xs,L,rfl,ea,px,lL,fl,k⟩:=h;refine ⟨_,(ai (aC (aq (uH K rfl hr.u160) rfl T.no_sorted (by rfl) (aa (bW (N:=["_law_comes_back","_law_line"]) (cap:=[none,none]) rfl ⟨rfl,rfl,rfl,rfl,rfl,rfl⟩ (bK (pv 0)) (fun _ _ _=>(et (n:=2) K rfl rfl (bA (aG (i:=0) (show (["_law_comes_back","_law_line"]:List Str).Nodup by decide +kernel) rfl (Fp rfl)) (bA (aG (i:=1) (show (["_law_comes_back","_law_line"]:List Str).Nodup by decide +kernel) rfl (Fp rfl)) eC)))) (fun _ _ _=>bX) (fun _ _ _=>(bw (aa (aq (cW K rfl) rfl T.no_sorted (by rfl) (aa (pv 1) ae)) (aa (pv 0) ae))))) ae)))),?_⟩;apply ⟨⟨_,SqL.of ea⟩,fun lo no=>?_⟩;have get:∀ i v,xs[i]?=some v->∃ e,L[i]?=some e/\SeV H lf v e:=fun i v hv=>by
   have hi:i<L.length:=by rw [<- px.1]; exact (Bc.mp hv).1
   exact ⟨_,ς hi,px.2 i v _ hv (ς hi)⟩
  refine cL (fun i v H'=>∃ e b c zs,L[i]?=some e/\v=.ref b/\c≠lo/\H' b=some (.tup [.ref c,.bl e.1])/\H' c=some (.lst zs)/\au H' zs (Ts.srt e.2)) (SqL.of ea) (by rw [px.1]; omega) no (fun i v hv=>?_) (fun i v H1 H2 s ⟨e,b,c,zs,h1,h2,h3,h4,h5,h6⟩=>⟨e,b,c,zs,h1,h2,h3,s _ _ h4,s _ _ h5,h6.mono s⟩)
   (fun i v H1 ys o q ⟨e,b,c,zs,h1,h2,h3,h4,h5,h6⟩=>⟨e,b,c,zs,h1,h2,h3,by rw [aj (cg h4 q (by intro z; cases z))]; exact h4,by rw [aj h3]; exact h5,h6.upd q (by intro ys z; cases z)⟩) (fun i b u1 u2 o1 o2 H' Q' hx hb s1 hlo q=>?_) (fun ys H1 s1 e1 l1 h1=>?_)
  ·obtain ⟨e,_,T,l,zs,h1,_,h3,_⟩:=get i v hv;exact ⟨T,_,_,h1,h3⟩
  ·obtain ⟨e,hLe,T,l,zs,h1,_,h3,h4,h5⟩:=get i _ hx
   cases h1;rw [h3] at hb
   cases hb;apply mD (s1 _ _ h4) (h5.mono s1) fun l2 ys qs nl p2 pm pw=>?_;have s2:=ah.new (o:=HO.lst ys) nl;have e2:=af (H:=H') (a:=l2) (o:=HO.lst ys);have nlo:l2≠lo:=fun z=>by
    obtain ⟨_,z2⟩:=hlo;rw [z,z2] at nl
    cases nl
   generalize upd H' l2 (HO.lst ys)=H2 at s2 e2 p2 ⊢;apply nwT fun tt H3 stt ntt ett=>?_;rw [Ts.zf pm pw] at p2;exact q _ _ (s2.trans stt) ⟨e,tt,l2,ys,hLe,rfl,nlo,ett,stt _ _ e2,p2.mono stt⟩
  have key:∀ (i:Nat) v,ys[i]?=some v->∃ e,L[i]?=some e/\KeV H1 v (Ts.srt e.2,e.1):=fun i v hv=>by
   obtain ⟨e,b,c,zs,h1,h2,h3,h4,h5,h6⟩:=h1 i v hv;exact ⟨e,h1,b,c,zs,h2,h4,h5,h6⟩
  have kv:∀ v∈ys,∃ e∈L,KeV H1 v (Ts.srt e.2,e.1):=fun v hv=>by
   obtain ⟨i,hi⟩:=Fy.mp hv;obtain ⟨e,h1,h2⟩:=key i v hi;exact ⟨e,ES h1,h2⟩
  have em:ys.map (uV H1)=L.map fun e=>(Ts.srt e.2,e.1):=by
   refine Hr fun i=>?_;rw [EX,EX]
   cases hv:ys[i]? with
   | none =>
    have:L[i]?=none:=Gg (by have:=List.getElem?_eq_none_iff.mp hv; rw [<- px.1]; omega)
    rw [this]; rfl
   | some v =>
    obtain ⟨e,h1,h2⟩:=key i v hv;rw [h1,G8,G8,h2.of]
  apply qB (fun v=>(uV H1 v).1) (fun v=>.bool (uV H1 v).2) e1 (fun v hv=>?_) (fun v hv u hu e=>?_) fun l ys2 nl pm pw=>?_
  ·obtain ⟨e,_,h⟩:=kv v hv;rw [h.of];obtain ⟨b,c,zs,h1,h2,h3,h4⟩:=h;exact ⟨b,.ref c,.bl e.1,h1,h2,⟨c,zs,rfl,h3,h4.1,fun i z q a b=>h4.2 i z q a b⟩,by rw [Rep],rfl⟩
  ·obtain ⟨e1,m1,h1⟩:=kv v hv;obtain ⟨e2,m2,h2⟩:=kv u hu;rw [h1.of,h2.of] at e ⊢;rw [show (Ts.srt e1.2,e1.1).2=(Ts.srt e2.2,e2.1).2 from fl e1 m1 e2 m2 e];simp [Fz]
  have s2:=ah.new (o:=HO.lst ys2) nl;refine k l (ys2.map (uV H1)) _ (s1.trans s2) ?_ ?_ ?_
  ·rw [Rep];refine ⟨l,ys2,rfl,af,yI fun v hv=>?_⟩;obtain ⟨e,_,h⟩:=kv v (pm.mem_iff.mp hv);rw [h.of];exact h.mono s2
  ·rw [<- em];exact pm.map _
  ·rw [FY];exact pw
end
section
theorem Cn {S:GS->Prop} (q:Int×Int):OkS (OkS S) (Ts.ptD q):=.inr (.inr ⟨_,rfl,by show 2<=5000; omega,fun e he=>by
 symm at he;rcases he with rfl | rfl<;>exact .inl (.inl ⟨_,rfl⟩)⟩)
theorem tS {S:GS->Prop} {ps:List (Int×Int)} (h:ps.length<=5000):OkS (OkS (OkS S)) (.list (ps.map Ts.ptD)) :=
 .inr (.inl ⟨_,rfl,by rw [Aj]; exact h,fun e he=>by obtain ⟨q,_,rfl⟩:=EE.mp he; exact Cn q⟩)
theorem Ai {L:List Sm1} (h:L.length<=5000) (hl:∀ e∈L,e.2.length<=5000):Ok5 (.list (L.map seD)) :=
 .inr (.inl ⟨_,rfl,by rw [Aj]; exact h,fun d hd=>by
  obtain ⟨e,he,rfl⟩:=EE.mp hd;refine .inr (.inr ⟨_,rfl,by show 2<=5000; omega,fun d hd=>?_⟩);symm at hd;rcases hd with rfl | rfl
  ·exact .inl (.inr (.inl ⟨_,rfl⟩))
  ·exact tS (hl e he)⟩)
theorem Ah {M:List (List (Int×Int)×Bool)} (h:M.length<=5000) (hl:∀ k∈M,k.1.length<=5000):Ok5 (.list (M.map keD)) :=
 .inr (.inl ⟨_,rfl,by rw [Aj]; exact h,fun d hd=>by
  obtain ⟨e,he,rfl⟩:=EE.mp hd;refine .inr (.inr ⟨_,rfl,by show 2<=5000; omega,fun d hd=>?_⟩);symm at hd;rcases hd with rfl | rfl
  ·exact tS (hl e he)
  ·exact .inl (.inr (.inl ⟨_,rfl⟩))⟩)
theorem Bz {H:Hp} {f:Int×Int->Int×Int} {ys:List V} {ps:List (Int×Int)} (l:ys.length=ps.length) (h:∀ (j:Nat) u,ys[j]?=some u->∃ q,ps[j]?=some q/\Pt H u (f q)):au H ys (ps.map f):=by
 refine ⟨by rw [Aj,l],fun i v q h1 h2=>?_⟩;obtain ⟨q',h3,h4⟩:=h i v h1;rw [EX,h3] at h2
 cases h2;exact h4
noncomputable def trn (f:Int×Int->Int×Int) (e:Sm1):Sm1:=(e.1,e.2.map f)
theorem ub {H:Hp} {lg:Ω} {f:Int×Int->Int×Int} {ys:List V} {L:List Sm1} (l:ys.length=L.length) (h:∀ (j:Nat) u,ys[j]?=some u->∃ e,L[j]?=some e/\SeV H lg u (trn f e)):PwS H lg ys (L.map (trn f)):=by
 refine ⟨by rw [Aj,l],fun i v q h1 h2=>?_⟩;obtain ⟨q',h3,h4⟩:=h i v h1;rw [EX,h3] at h2
 cases h2;exact h4
theorem zq (f:Int×Int->Int×Int) (L:List Sm1):((L.map (trn f)).map fun e=>(Ts.srt e.2,e.1))=L.map (kf f):=by
 rw [FP];rfl
theorem Bv (L:List Sm1):(L.map fun e=>(Ts.srt e.2,e.1))=L.map (kf id):=GK fun e _=>by unfold kf; rw [HS]
section
variable {cs rs:List Int} {L:List Sm1}
theorem iM (lc:cs.length<=39) (lr:rs.length<=39) (h:dX cs rs L):∀ e∈L,e.2.length<=1681:=fun e he=>FA (xy he) (h.some.few lc lr).1
theorem Bw {f:Int×Int->Int×Int} (lc:cs.length<=39) (lr:rs.length<=39) (h:dX cs rs L) {M:List (List (Int×Int)×Bool)} (p:M.Perm (L.map (kf f))):Ok5 (.list (M.map keD)):=by
 refine Ah ?_ fun k hk=>?_
 ·rw [p.length_eq,Aj];have:=(h.some.few lc lr).2
  omega
 ·obtain ⟨e,he,rfl⟩:=EE.mp (p.mem_iff.mp hk);have:=iM lc lr h e he
  show (Ts.srt (e.2.map f)).length<=5000
  rw [(Ts.dS _).length_eq,Aj];omega
theorem wB (lc:cs.length<=39) (lr:rs.length<=39) (h:dX cs rs L):(Rs L).length<=1000:=by
 have g:∀ M:List Sm1,(∀ e∈M,Sm.bz (nb cs rs) e.1 e.2)->3*(Rs M).length<=(bu M).length:=by
  intro M
  induction M with
  | nil => intro _; exact En _
  | cons e M ih =>
   intro hM;have:=ih fun e' he'=>hM e' (Θ _ he')
   have te:=hM e θ;unfold Rs bu at this ⊢;rw [JI,Bd,F2];by_cases c:e.1=true
   ·rw [if_pos c,EW,Ba];rw [c] at te;have:=(dU te).len
    omega
   ·rw [if_neg c];omega
 have:=g L h.some.told
 have:=(h.some.few lc lr).1
 omega
theorem nY (h:dX cs rs L) {M:List (Int×Int)} (hm:M∈Rs L):Sm.bz (nb cs rs) true M:=h.some.told _ (jQ.mp hm)
theorem xn (lc:cs.length<=39) (lr:rs.length<=39) (h:dX cs rs L) {M:List (Int×Int)} (hm:M∈Rs L):∃ C,gK M C:=by
 have td:=nY h hm;refine ⟨Ts.srt (Wn.patc M 0 0 40 40),Ts.sI _,(Ts.dS _).nodup_iff.mpr (Wn.patc_nd M 0 0 40 40),fun q=>(Ts.dS _).mem_iff.trans (Wn.mem_patc.trans ⟨fun h=>h.2.2,fun h=>?_⟩)⟩;have:=(dU td).box (x0:=0) (x1:=40) (y0:=0) (y1:=40) (lp lc lr td) h
 exact ⟨by omega,by omega,h⟩
end
end
section
variable {P:ER} {w:E2} {K:W.Frag} {mg:Str->Option Δ} {base:FD} {t:Ad}
noncomputable def Cp:V->V
 | .int b=>.int (1 - b)
 | v=>v
theorem pQ {bs:List Int} (h:cQ bs):(bs.map V.int).map Cp=(shl bs 1).map V.int:=by
 rw [<- yV h,FP,FP];rfl
def sp_law (K:W.Frag):Sp:=fun vs H Q _=>∃ (a:Ω) (ns:List Int),vs=[.ref a]/\SqL K H a (ns.map V.int)/\ns.length<=63/\∀ H',Q (.bl true) H'
theorem Co (T:Txt K mg t):aP P w K mg base CX0 16 t.f_law t.d_law ["_law_script"] (sp_law K):=by
 have G_aq:=ok_aq (P:=P) (w:=w) (base:=base) T;refine T.F_law.ok gm (by walk_at "l") (fun _ _ _ s H vs Q E hr h=>?_)
 ·obtain ⟨a,ns,rfl,hS,hl,z⟩:=h;refine aM (aO 1 gm.nd (ao (ok_aX T) (rmo hr) rfl T.mg_aX T.F_aX.kp T.b_aX .nil aB (aa (ao (ok_aB T) (rmo hr) rfl T.mg_aB T.F_aB.kp T.b_aB .nil aB (aa (pv 0) (aa ag ae))) ae))) fun _ _=>aM (aO 2 gm.nd (ao (ok_aZ T) (rmo hr) rfl T.mg_aZ T.F_aZ.kp T.b_aZ .nil aB (aa (pv 1) ae))) fun _ _=>aM (fG (i:=3) gm.nd rfl (JW rfl) (aT (pv 2) T.cl_aa T.m_ad (ok_ad T) (rmo hr) T.b_ad .nil aB)) fun _ _=>aM (jF (i:=4) gm.nd rfl (Fp rfl) (N:=["_law_comes_back","_law_line","_law_wide"]) (cap:=[none,none,some 3]) rfl ⟨rfl,rfl,rfl,rfl,rfl,rfl⟩ (bK (ao G_aq (rmo hr) rfl T.mg_aq T.F_aq.kp T.b_aq .nil aB (aa (pv 2) ae))) (fun _ _ _=>(et (n:=2) K rfl rfl (bA (aG (i:=0) (show (["_law_comes_back","_law_line","_law_wide"]:List Str).Nodup by decide +kernel) rfl (Fp rfl)) (bA (aG (i:=1) (show (["_law_comes_back","_law_line","_law_wide"]:List Str).Nodup by decide +kernel) rfl (Fp rfl)) eC)))) (fun _ _ _=>bX) (fun _ _ _=>(bw (aa (pv 0) (aa (bW (N:=["_law_x","_law_y","_law_wide"]) (cap:=[none,none,some 2]) rfl ⟨rfl,rfl,rfl,rfl,rfl,rfl⟩ (qo K rfl (pv 1)) (fun _ _ _=>(et (n:=2) K rfl rfl (bA (aG (i:=0) (show (["_law_x","_law_y","_law_wide"]:List Str).Nodup by decide +kernel) rfl (Fp rfl)) (bA (aG (i:=1) (show (["_law_x","_law_y","_law_wide"]:List Str).Nodup by decide +kernel) rfl (Fp rfl)) eC)))) (fun _ _ _=>bX) (fun _ _ _=>(bw (aa (aA bV (pv 2) (pv 0)) (aa (pv 1) ae))))) ae)))) (by rfl)) fun _ _=>aM (jF (i:=5) gm.nd rfl (Fp rfl) (N:=["_law_comes_back","_law_line"]) (cap:=[none,none]) rfl ⟨rfl,rfl,rfl,rfl,rfl,rfl⟩ (bK (ao G_aq (rmo hr) rfl T.mg_aq T.F_aq.kp T.b_aq .nil aB (aa (pv 2) ae))) (fun _ _ _=>(et (n:=2) K rfl rfl (bA (aG (i:=0) (show (["_law_comes_back","_law_line"]:List Str).Nodup by decide +kernel) rfl (Fp rfl)) (bA (aG (i:=1) (show (["_law_comes_back","_law_line"]:List Str).Nodup by decide +kernel) rfl (Fp rfl)) eC)))) (fun _ _ _=>bX) (fun _ _ _=>(bw (aa (pv 0) (aa (bW (N:=["_law_x","_law_y"]) (cap:=[none,none]) rfl ⟨rfl,rfl,rfl,rfl,rfl,rfl⟩ (qo K rfl (pv 1)) (fun _ _ _=>(et (n:=2) K rfl rfl (bA (aG (i:=0) (show (["_law_x","_law_y"]:List Str).Nodup by decide +kernel) rfl (Fp rfl)) (bA (aG (i:=1) (show (["_law_x","_law_y"]:List Str).Nodup by decide +kernel) rfl (Fp rfl)) eC)))) (fun _ _ _=>bX) (fun _ _ _=>(bw (aa (pv 1) (aa (pv 0) ae))))) ae)))) (by rfl)) fun _ _=>aM (aY (cO (bF (ao (ok_aF T) (rmo hr) rfl T.mg_aF T.F_aF.kp T.b_aF .nil aB (aa (ao (ok_aJ T) (rmo hr) rfl T.mg_aJ T.F_aJ.kp T.b_aJ .nil aB (aa (ao G_aq (rmo hr) rfl T.mg_aq T.F_aq.kp T.b_aq .nil aB (aa (ao (ok_at T) (rmo hr) rfl T.mg_at T.F_at.kp T.b_at .nil aB (aa (pv 2) ae)) ae)) ae)) (aa (ao (ok_aJ T) (rmo hr) rfl T.mg_aJ T.F_aJ.kp T.b_aJ .nil aB (aa (pv 4) ae)) ae))))) (ai (aC fe)) aD) fun _ _=>aM (aY (cO (bF (ao (ok_aF T) (rmo hr) rfl T.mg_aF T.F_aF.kp T.b_aF .nil aB (aa (ao (ok_aJ T) (rmo hr) rfl T.mg_aJ T.F_aJ.kp T.b_aJ .nil aB (aa (ao G_aq (rmo hr) rfl T.mg_aq T.F_aq.kp T.b_aq .nil aB (aa (ao (ok_al T) (rmo hr) rfl T.mg_al T.F_al.kp T.b_al .nil aB (aa (pv 2) ae)) ae)) ae)) (aa (ao (ok_aJ T) (rmo hr) rfl T.mg_aJ T.F_aJ.kp T.b_aJ .nil aB (aa (pv 5) ae)) ae))))) (ai (aC fe)) aD) fun _ _=>aM (aO 6 gm.nd (bw (aa (ay (aN K rfl) (pv 1) ag) (aa (bW (N:=["_law_bit"]) (cap:=[none]) rfl ⟨rfl,rfl,rfl,rfl,rfl,rfl⟩ (bK (ay (aN K rfl) (pv 1) ag)) (fun _ _ _=>(aG (i:=0) (show (["_law_bit"]:List Str).Nodup by decide +kernel) rfl (Fp rfl))) (fun _ _ _=>bX) (fun _ _ _=>(aA bV ag (pv 0)))) (aa (bW (N:=["_law_bit"]) (cap:=[none]) rfl ⟨rfl,rfl,rfl,rfl,rfl,rfl⟩ (bK (ay (aN K rfl) (pv 1) ag)) (fun _ _ _=>(aG (i:=0) (show (["_law_bit"]:List Str).Nodup by decide +kernel) rfl (Fp rfl))) (fun _ _ _=>bX) (fun _ _ _=>(aA bV ag (pv 0)))) ae))))) fun _ _=>aM (aY (cO (bF (ao (ok_aF T) (rmo hr) rfl T.mg_aF T.F_aF.kp T.b_aF .nil aB (aa (ao G_aq (rmo hr) rfl T.mg_aq T.F_aq.kp T.b_aq .nil aB (aa (ao (ok_aN T) (rmo hr) rfl T.mg_aN T.F_aN.kp T.b_aN .nil aB (aa (pv 2) ae)) ae)) (aa (ao (ok_aD T) (rmo hr) rfl T.mg_aD T.F_aD.kp T.b_aD .nil aB (aa (pv 6) ae)) ae))))) (ai (aC fe)) aD) fun _ _=>aM (aO 7 gm.nd (aq (cW K rfl) rfl T.no_sorted (by rfl) (aa (bW (N:=["_law_line"]) (cap:=[none]) rfl ⟨rfl,rfl,rfl,rfl,rfl,rfl⟩ (bK (ao (ok_aE T) (rmo hr) rfl T.mg_aE T.F_aE.kp T.b_aE .nil aB (aa (pv 2) ae))) (fun _ _ _=>(aG (i:=0) (show (["_law_line"]:List Str).Nodup by decide +kernel) rfl (Fp rfl))) (fun _ _ _=>bX) (fun _ _ _=>(ao (ok_a2 T) (rmo hr) rfl T.mg_a2 T.F_a2.kp T.b_a2 .nil aB (aa (pv 0) ae)))) ae))) fun _ _=>dy (aC (kj (kc hr.units) (pv 7) (aq (cW K rfl) rfl T.no_sorted (by rfl) (aa (bW (N:=["_law_line"]) (cap:=[none]) rfl ⟨rfl,rfl,rfl,rfl,rfl,rfl⟩ (bK (ao (ok_aE T) (rmo hr) rfl T.mg_aE T.F_aE.kp T.b_aE .nil aB (aa (ao (ok_at T) (rmo hr) rfl T.mg_at T.F_at.kp T.b_at .nil aB (aa (pv 2) ae)) ae))) (fun _ _ _=>(aG (i:=0) (show (["_law_line"]:List Str).Nodup by decide +kernel) rfl (Fp rfl))) (fun _ _ _=>bX) (fun _ _ _=>(ao (ok_a2 T) (rmo hr) rfl T.mg_a2 T.F_a2.kp T.b_a2 .nil aB (aa (pv 0) ae)))) ae)))) fun _ _=>?_;apply ⟨a,12,ns,rfl,hS,hl,by decide,fun ls zs H1 s1 es lz _ sm=>?_⟩;apply ⟨ls,zs,rfl,es,by omega,fun pp s cs rs H2 s2 pl=>?_⟩;apply ⟨pp,true,s,cs,rs,rfl,pl,fun p H3 s3 hC=>?_⟩;have pl:=pl.mono s3;clear es s1 s2 s3 sm lz;obtain ⟨⟨c,r,hp,hc,hr'⟩,sh,bc,br⟩:=id pl;have lc:=bc.1;have lr:=br.1;have lsr:(shl rs (cs.length:Nat)).length<=39:=by rw [iH]; exact lr
  have lcr:cs.reverse.length<=39:=by rw [F0]; exact lc
  obtain ⟨dx,f1,f2,g1,g2,g3⟩:=hC.ob;have nl:∀ {w h:Int} {m:Str},NoF m->(cfl s f1 f2 w h).lookup m=none:=fun x=>dH _ _ _ x;apply aJ g1 (nl (by decide +kernel)) ?_;apply ⟨p,s,cs,rs,rfl,hC,?_⟩;clear g1 g2 g3 nl;apply ⟨p,s,cs,rs,rfl,hC,lc,lr,fun l1 y1 L H4 s4 n1 e1 al p1=>?_⟩;have fw:=al.some.few lc lr;have ol:=iM lc lr al;have get:∀ i v,y1[i]?=some v->∃ e,L[i]?=some e/\SeV H4 l1 v e:=fun i v hv=>by
   have hi:i<L.length:=by rw [<- p1.1]; exact (Bc.mp hv).1
   exact ⟨_,ς hi,p1.2 i v _ hv (ς hi)⟩
  have hpr:∀ (i:Nat) v,y1[i]?=some v->∃ b u1 u2,v=.ref b/\H4 b=some (.tup [u1,u2]):=fun i v hv=>by
   obtain ⟨e,_,T,l,zs,h1,_,h3,_⟩:=get i v hv;exact ⟨T,_,_,h1,h3⟩
  apply ⟨⟨_,SqL.of e1⟩,fun lg ng=>?_⟩;refine cL (fun i v H'=>∃ e,L[i]?=some e/\SeV H' lg v (trn (glz ((cs.length:Nat)+1)) e)) (SqL.of e1) (by rw [p1.1]; omega) ng hpr (fun i v H1 H2 s ⟨e,h1,h2⟩=>⟨e,h1,h2.mono s⟩) (fun i v H1 ys o q ⟨e,h1,h2⟩=>⟨e,h1,h2.lst q⟩) (fun i b u1 u2 o1 o2 H' Q' hx hb s1 hlo q=>?_) (fun yg H5 s5 eg lg' hg=>?_)
  ·obtain ⟨e,hLe,T,l,zs,h1,_,h3,h4,h5⟩:=get i _ hx
   cases h1;rw [h3] at hb
   cases hb;have lz:zs.length<2000:=by have:=ol e (ES hLe); rw [h5.1]; omega
   have gq:∀ (j:Nat) u,zs[j]?=some u->∃ q,e.2[j]?=some q/\Pt H4 u q:=fun j u hu=>by
    have hj:j<e.2.length:=by rw [<- h5.1]; exact (Bc.mp hu).1
    exact ⟨_,ς hj,h5.2 j u _ hu (ς hj)⟩
   apply ⟨⟨_,SqL.of (s1 _ _ h4)⟩,fun li ni=>?_⟩;refine cL (fun j u H''=>∃ q,e.2[j]?=some q/\Pt H'' u (glz ((cs.length:Nat)+1) q)) (SqL.of (s1 _ _ h4)) lz ni (fun j u hu=>?_) (fun i v H1 H2 s ⟨e,h1,h2⟩=>⟨e,h1,h2.mono s⟩) (fun i v H1 ys o q ⟨e,h1,h2⟩=>⟨e,h1,h2.upd q (by intro ys z; cases z)⟩) (fun j d v1 v2 o3 o4 H6 Q6 hu hd s6 _ k=>?_) (fun ys H6 s6 e6 l6 h6=>?_)
   ·obtain ⟨q,_,d,e1,e2⟩:=gq j u hu;exact ⟨d,_,_,e1,s1 _ _ e2⟩
   ·obtain ⟨q,hq,d',e1,e2⟩:=gq j _ hu
    cases e1;rw [s1 _ _ e2] at hd
    cases hd;apply nwT fun tp H7 stp ntp etp=>?_;exact k _ _ stp ⟨q,hq,tp,rfl,etp⟩
   ·apply nwT fun tt H7 stt ntt ett=>?_;have hne:li≠lg:=fun z=>by
     obtain ⟨_,z2⟩:=hlo;rw [z,z2] at ni
     cases ni
    exact q _ _ (s6.trans stt) ⟨e,hLe,tt,li,ys,rfl,hne,ett,stt _ _ e6,(Bz (by rw [l6,h5.1]) h6).mono stt⟩
  have pg:=ub (by rw [lg',p1.1]) hg;have sg:=s4.trans s5;clear hg lg' ng n1 e1 p1 get hpr;apply ⟨p,s,cs,rs,rfl,hC.mono sg,lc,lr,fun l1 y1 L1 H6 s6 n1 e1 al1 p1=>?_⟩;have:=mP al1 al
  subst this;clear al1;have get:∀ i v,y1[i]?=some v->∃ e,L1[i]?=some e/\SeV H6 l1 v e:=fun i v hv=>by
   have hi:i<L1.length:=by rw [<- p1.1]; exact (Bc.mp hv).1
   exact ⟨_,ς hi,p1.2 i v _ hv (ς hi)⟩
  have hpr:∀ (i:Nat) v,y1[i]?=some v->∃ b u1 u2,v=.ref b/\H6 b=some (.tup [u1,u2]):=fun i v hv=>by
   obtain ⟨e,_,T,l,zs,h1,_,h3,_⟩:=get i v hv;exact ⟨T,_,_,h1,h3⟩
  apply ⟨⟨_,SqL.of e1⟩,fun lo no=>?_⟩;refine cL (fun i v H'=>∃ e,L1[i]?=some e/\SeV H' lo v (trn tra e)) (SqL.of e1) (by rw [p1.1]; omega) no hpr (fun i v H1 H2 s ⟨e,h1,h2⟩=>⟨e,h1,h2.mono s⟩) (fun i v H1 ys o q ⟨e,h1,h2⟩=>⟨e,h1,h2.lst q⟩) (fun i b u1 u2 o1 o2 H' Q' hx hb s1 hlo q=>?_) (fun yo H7 s7 eo lo' ho=>?_)
  ·obtain ⟨e,hLe,T,l,zs,h1,_,h3,h4,h5⟩:=get i _ hx
   cases h1;rw [h3] at hb
   cases hb;have lz:zs.length<2000:=by have:=ol e (ES hLe); rw [h5.1]; omega
   have gq:∀ (j:Nat) u,zs[j]?=some u->∃ q,e.2[j]?=some q/\Pt H6 u q:=fun j u hu=>by
    have hj:j<e.2.length:=by rw [<- h5.1]; exact (Bc.mp hu).1
    exact ⟨_,ς hj,h5.2 j u _ hu (ς hj)⟩
   apply ⟨⟨_,SqL.of (s1 _ _ h4)⟩,fun li ni=>?_⟩;refine cL (fun j u H''=>∃ q,e.2[j]?=some q/\Pt H'' u (tra q)) (SqL.of (s1 _ _ h4)) lz ni (fun j u hu=>?_) (fun i v H1 H2 s ⟨e,h1,h2⟩=>⟨e,h1,h2.mono s⟩) (fun i v H1 ys o q ⟨e,h1,h2⟩=>⟨e,h1,h2.upd q (by intro ys z; cases z)⟩) (fun j d v1 v2 o3 o4 H6 Q6 hu hd s6 _ k=>?_) (fun ys H6 s6 e6 l6 h6=>?_)
   ·obtain ⟨q,_,d,e1,e2⟩:=gq j u hu;exact ⟨d,_,_,e1,s1 _ _ e2⟩
   ·obtain ⟨q,hq,d',e1,e2⟩:=gq j _ hu
    cases e1;rw [s1 _ _ e2] at hd
    cases hd;apply nwT fun tp H7 stp ntp etp=>?_;exact k _ _ stp ⟨q,hq,tp,rfl,etp⟩
   ·apply nwT fun tt H7 stt ntt ett=>?_;have hne:li≠lo:=fun z=>by
     obtain ⟨_,z2⟩:=hlo;rw [z,z2] at ni
     cases ni
    exact q _ _ (s6.trans stt) ⟨e,hLe,tt,li,ys,rfl,hne,ett,stt _ _ e6,(Bz (by rw [l6,h5.1]) h6).mono stt⟩
  have po:=ub (by rw [lo',p1.1]) ho;have s67:=s6.trans s7;have eg:=s67 _ _ eg;have pg:=pg.mono s67;have hC:=hC.mono (sg.trans s67);have pl:=pl.mono (sg.trans s67);clear ho lo' no n1 e1 p1 get hpr sg s67 s6 s7 s4 s5 hp hc hr';have lm:=xA (cs:=cs) br;apply ⟨p,s,cs,rs,rfl,hC,sh,bc,br,fun x H8 s8 hX=>?_⟩;apply ⟨x,_,cs.reverse,shl rs (cs.length:Nat),rfl,hX,lcr,lsr,fun l2 y2 L2 H9 s9 n2 e2 al2 p2=>?_⟩;apply ⟨l2,l2,y2,L2,rfl,e2,p2,(al2.some.few lcr lsr).2,fun a ha b hb e=>by rw [iT al2 ha hb (fo e)],fun k1 M1 H10 s10 r1 pm1 pw1=>?_⟩;rw [Bv] at pm1;have s810:=s8.trans (s9.trans s10);apply ⟨lg,lg,yg,L1.map (trn (glz ((cs.length:Nat)+1))),rfl,s810 _ _ eg,pg.mono s810,by rw [Aj]; exact fw.2,fun a ha b hb e=>?_,fun k2 M2 H11 s11 r2 pm2 pw2=>?_⟩
  ·obtain ⟨a',ha',rfl⟩:=EE.mp ha;obtain ⟨b',hb',rfl⟩:=EE.mp hb;exact nE (a:=a') (b:=b') al lm ha' hb' e
  rw [zq] at pm2;have:=tM al al2 lm pm2 pm1 pw2 pw1
  subst this;apply ⟨.ref k1,.ref k2,.list (M1.map keD),rfl,Bw lcr lsr al2 pm1,r1.mono s11,r2,fun H12 s12=>?_⟩;have sb:=s810.trans (s11.trans s12);have hC:=hC.mono sb;have pl:=pl.mono sb;have eo:=sb _ _ eo;have po:=po.mono sb;clear sb s8 s9 s10 s810 s11 s12 hX e2 p2 n2 r1 r2 pm1 pm2 pw1 pw2 eg pg M1;have lt:=xB (cs:=cs) (rs:=rs);apply ⟨p,s,cs,rs,rfl,hC,sh,bc,br,fun x H8 s8 hX=>?_⟩;apply ⟨x,s,rs,cs,rfl,hX,lr,lc,fun l3 y3 L3 H9 s9 n3 e3 al3 p3=>?_⟩;apply ⟨l3,l3,y3,L3,rfl,e3,p3,(al3.some.few lr lc).2,fun a ha b hb e=>by rw [iT al3 ha hb (fo e)],fun k1 M1 H10 s10 r1 pm1 pw1=>?_⟩;rw [Bv] at pm1;have s810:=s8.trans (s9.trans s10);apply ⟨lo,lo,yo,L1.map (trn tra),rfl,s810 _ _ eo,po.mono s810,by rw [Aj]; exact fw.2,fun a ha b hb e=>?_,fun k2 M2 H11 s11 r2 pm2 pw2=>?_⟩
  ·obtain ⟨a',ha',rfl⟩:=EE.mp ha;obtain ⟨b',hb',rfl⟩:=EE.mp hb;exact nE (a:=a') (b:=b') al lt ha' hb' e
  rw [zq] at pm2;have:=tM al al3 lt pm2 pm1 pw2 pw1
  subst this;apply ⟨.ref k1,.ref k2,.list (M1.map keD),rfl,Bw lr lc al3 pm1,r1.mono s11,r2,fun H12 s12=>?_⟩;have sb:=s810.trans (s11.trans s12);have hC:=hC.mono sb;have pl:=pl.mono sb;clear sb s8 s9 s10 s810 s11 s12 hX e3 p3 n3 r1 r2 pm1 pm2 pw1 pw2 eo po M1 al3 lt;obtain ⟨⟨c,r,hp,hc,hr'⟩,_⟩:=id pl;apply aR (SqT.of hp) (v:=.int s) rfl ?_;apply aR (SqT.of hp) (v:=.ref c) rfl ?_;apply ⟨⟨_,SqL.of hc⟩,fun b1 nb1=>?_⟩;refine fx Cp (SqL.of hc) (by rw [Aj]; omega) nb1 (fun x o H' Q' hx s1 q=>?_) (fun H13 s13 eb1=>?_)
  ·obtain ⟨b,_,rfl⟩:=EE.mp hx;left;exact q _ (ah.refl _)
  rw [pQ bc] at eb1;apply aR (SqT.of (s13 _ _ hp)) (v:=.ref r) rfl ?_;apply ⟨⟨_,SqL.of (s13 _ _ hr')⟩,fun b2 nb2=>?_⟩;refine fx Cp (SqL.of (s13 _ _ hr')) (by rw [Aj]; omega) nb2 (fun x o H' Q' hx s1 q=>?_) (fun H14 s14 eb2=>?_)
  ·obtain ⟨b,_,rfl⟩:=EE.mp hx;left;exact q _ (ah.refl _)
  rw [pQ br] at eb2;apply nwT fun pb H15 spb npb epb=>?_;have sx:=s13.trans (s14.trans spb);have hC:=hC.mono sx;have plb:eK true H15 pb s (shl cs 1) (shl rs 1):=⟨⟨b1,b2,epb,spb _ _ (s14 _ _ eb1),spb _ _ eb2⟩,sh,gr bc 1,gr br 1⟩
  have lc1:(shl cs 1).length<=39:=by rw [iH]; exact lc
  have lr1:(shl rs 1).length<=39:=by rw [iH]; exact lr
  clear sx s13 s14 spb epb eb1 eb2 hp hc hr' pl nb1 nb2;apply ⟨p,s,cs,rs,rfl,hC,sh,bc,br,fun x H16 s16 hX=>?_⟩;apply ⟨x,s,_,_,rfl,hX,lc1,lr1,fun l3 y3 L3 H17 s17 n3 e3 al3 p3=>?_⟩;apply ⟨pb,s,_,_,rfl,plb.mono (s16.trans s17),lc1,lr1,fun l4 y4 L4 H18 s18 n4 e4 al4 p4=>?_⟩;have:=mP al4 al3
  subst this;apply ⟨.ref l3,.ref l4,.list (L4.map seD),rfl,Ai (FA (al4.some.few lc1 lr1).2 (by decide)) (fun e he=>FA (iM lc1 lr1 al4 e he) (by decide)),(uj e3 p3).mono s18,uj e4 p4,fun H19 s19=>?_⟩;have hC:=hC.mono (s16.trans (s17.trans (s18.trans s19)));clear s16 s17 s18 s19 hX e3 p3 n3 e4 p4 n4 plb al3 al4;apply ⟨p,s,cs,rs,rfl,hC,lc,lr,fun l3 y3 L3 H20 s20 n3 e3 al3 p3=>?_⟩;have:=mP al3 al
  subst this;apply ⟨⟨_,SqL.of e3⟩,fun la na=>?_⟩;refine jg ((Rs L3).map fun M=>V.int (arF M)) (by rw [Aj,p3.1]) (SqL.of e3) (by rw [p3.1]; exact wB lc lr al) na (fun i v y o H' Q' hx hy s1 q=>?_) (fun H21 s21 e21=>?_)
  ·have hi:i<(Rs L3).length:=by rw [<- p3.1]; exact (Bc.mp hx).1
   have hm:=HN hi;rw [EX,ς hi] at hy;obtain ⟨l,zs,rfl,h1,h2⟩:=p3.2 i v _ hx (ς hi);have td:=nY al hm;apply ⟨l,zs,_,rfl,s1 _ _ h1,h2.mono s1,iM lc lr al _ (jQ.mp hm),dU td,lp lc lr td,fun C H5 s5 ic=>?_⟩;obtain rfl:V.int (arF _)=y:=Ez hy
   rw [<- mQ ic];exact q _ s5
  have e21:H21 la=some (.lst (((Rs L3).map arF).map V.int)):=by rw [e21,FP]; rfl
  apply kH e21 fun lb ms nb pm1 pw1=>?_;have s22:=ah.new (o:=HO.lst (ms.map V.int)) nb;have e22:=af (H:=H21) (a:=lb) (o:=HO.lst (ms.map V.int));generalize upd H21 lb (HO.lst (ms.map V.int))=H22 at s22 e22 ⊢;have hC:=hC.mono (s20.trans (s21.trans s22));clear s20 s21 s22 e21 e3 p3 n3 na nb;apply ⟨p,s,cs,rs,rfl,hC,sh,bc,br,fun x H23 s23 hX=>?_⟩;apply ⟨x,_,cs.reverse,shl rs (cs.length:Nat),rfl,hX,lcr,lsr,fun l4 y4 L4 H24 s24 n4 e4 al4 p4=>?_⟩;apply ⟨⟨_,SqL.of e4⟩,fun la na=>?_⟩;refine jg ((Rs L4).map fun M=>V.int (arF M)) (by rw [Aj,p4.1]) (SqL.of e4) (by rw [p4.1]; exact wB lcr lsr al4) na (fun i v y o H' Q' hx hy s1 q=>?_) (fun H25 s25 e25=>?_)
  ·have hi:i<(Rs L4).length:=by rw [<- p4.1]; exact (Bc.mp hx).1
   have hm:=HN hi;rw [EX,ς hi] at hy;obtain ⟨l,zs,rfl,h1,h2⟩:=p4.2 i v _ hx (ς hi);have td:=nY al4 hm;apply ⟨l,zs,_,rfl,s1 _ _ h1,h2.mono s1,iM lcr lsr al4 _ (jQ.mp hm),dU td,lp lcr lsr td,fun C H5 s5 ic=>?_⟩;obtain rfl:V.int (arF _)=y:=Ez hy
   rw [<- mQ ic];exact q _ s5
  have e25:H25 la=some (.lst (((Rs L4).map arF).map V.int)):=by rw [e25,FP]; rfl
  apply kH e25 fun lb2 ms2 nb pm2 pw2=>?_;have sE:=(s23.trans (s24.trans s25)).trans (ah.new (o:=HO.lst (ms2.map V.int)) nb);have pa:=uE al al4 lm (fun M hm=>xn lc lr al hm) (fun M hm=>xn lcr lsr al4 hm);have:ms=ms2:=Ts.uy (pm1.trans (pa.symm.trans pm2.symm)) (fun x _ y _ h1 h2=>by omega) pw1 pw2
  subst this;apply vG (sE _ _ e22) af ?_;rw [ba rfl];exact z _
end
end My
namespace PySem.W.Fast
theorem tw17258512113126812189:True:=⟨⟩
theorem tw1045095146774586060:True:=⟨⟩
theorem tw14551382734881987747:True:=⟨⟩
theorem tw15265554433200663450:True:=⟨⟩
theorem tw4048226449039833579:True:=⟨⟩
theorem tw10520494365314219821:True:=⟨⟩
theorem tw10818479831626985994:True:=⟨⟩
theorem tw5906891553886130642:True:=⟨⟩
theorem tw12358129208389748930:True:=⟨⟩
theorem tw17522028948506493623:True:=⟨⟩
theorem tw7929872301362290249:True:=⟨⟩
theorem tw6018664332245463794:True:=⟨⟩
theorem tw16579693093299396556:True:=⟨⟩
theorem tw2557197023880094161:True:=⟨⟩
theorem tw12517051174752588333:True:=⟨⟩
theorem tw8023148252018825233:True:=⟨⟩
theorem tw9497676112108818793:True:=⟨⟩
theorem tw17522823425592454646:True:=⟨⟩
theorem tw16747371749257285916:True:=⟨⟩
theorem tw10042894016624926353:True:=⟨⟩
theorem tw1069412397585532371:True:=⟨⟩
theorem tw12335545665897042546:True:=⟨⟩
theorem tw12273272957502857947:True:=⟨⟩
theorem tw8523944852783111572:True:=⟨⟩
theorem tw14803597563565227047:True:=⟨⟩
theorem tw2936453552942885464:True:=⟨⟩
theorem tw33938900080121734:True:=⟨⟩
theorem tw16197747993892745398:True:=⟨⟩
theorem tw3175546792522856253:True:=⟨⟩
theorem tw15473630987845269200:True:=⟨⟩
theorem tw1287034283176692120:True:=⟨⟩
theorem tw18166809195079576331:True:=⟨⟩
theorem tw17711652245428063778:True:=⟨⟩
theorem tw7913736920411141506:True:=⟨⟩
theorem tw3806851174048557688:True:=⟨⟩
theorem tw11448928149201165800:True:=⟨⟩
theorem tw1052808340007404525:True:=⟨⟩
theorem tw8141768951031909515:True:=⟨⟩
theorem tw16171528463525790002:True:=⟨⟩
theorem tw2851745603832831378:True:=⟨⟩
theorem tw9930889538473004499:True:=⟨⟩
theorem tw7909458329257449265:True:=⟨⟩
theorem tw7872204656554508834:True:=⟨⟩
theorem tw15981797940514743661:True:=⟨⟩
theorem tw12988640431318966344:True:=⟨⟩
theorem tw8052092541614431355:True:=⟨⟩
theorem tw474957411465542428:True:=⟨⟩
theorem tw16852518137090198055:True:=⟨⟩
theorem tw17382225798999335350:True:=⟨⟩
theorem tw411754021542582793:True:=⟨⟩
theorem tw10320723819601840853:True:=⟨⟩
theorem tw11236013965767971415:True:=⟨⟩
theorem tw5512324997870833745:True:=⟨⟩
theorem tw5246866447516045224:True:=⟨⟩
theorem tw8564344544233892420:True:=⟨⟩
theorem tw52566276557845052:True:=⟨⟩
theorem tw3551077543817569164:True:=⟨⟩
theorem tw538100064157472301:True:=⟨⟩
theorem tw8141393385499019860:True:=⟨⟩
theorem tw8688362678975014164:True:=⟨⟩
theorem tw5602759415458702109:True:=⟨⟩
theorem tw810522397788495855:True:=⟨⟩
theorem tw14222694503781341816:True:=⟨⟩
theorem tw4770695503209546258:True:=⟨⟩
theorem tw11238780684286009753:True:=⟨⟩
theorem tw11890740873523044453:True:=⟨⟩
theorem tw11295853345475738923:True:=⟨⟩
theorem tw3546466747679727176:True:=⟨⟩
theorem tw8821329693421345954:True:=⟨⟩
theorem tw7148050206900024840:True:=⟨⟩
theorem tw4478188596143570899:True:=⟨⟩
theorem tw14654132464738346979:True:=⟨⟩
theorem tw10611843189205543824:True:=⟨⟩
theorem tw1597458335740696340:True:=⟨⟩
theorem tw14189070558184550944:True:=⟨⟩
theorem tw13353645799211603439:True:=⟨⟩
theorem tw10781803804327337203:True:=⟨⟩
theorem tw4130799327939004701:True:=⟨⟩
theorem tw8018298349764303755:True:=⟨⟩
theorem tw6411572293209060209:True:=⟨⟩
theorem tw10193462844937574411:True:=⟨⟩
theorem tw14955408252140297084:True:=⟨⟩
theorem tw9994192526918907897:True:=⟨⟩
theorem tw13408529066077039400:True:=⟨⟩
theorem tw1155312663039914744:True:=⟨⟩
theorem tw7225868744031695255:True:=⟨⟩
theorem tw8862892440965522513:True:=⟨⟩
theorem tw161425068059503480:True:=⟨⟩
theorem tw7705299700953830519:True:=⟨⟩
theorem tw15583638969567976318:True:=⟨⟩
theorem tw8101547152589723092:True:=⟨⟩
theorem tw2063704170326403520:True:=⟨⟩
theorem tw6033376521102008155:True:=⟨⟩
theorem tw4314336310244109520:True:=⟨⟩
theorem tw17482615604947858418:True:=⟨⟩
theorem tw2608987761550483349:True:=⟨⟩
theorem tw8358819935111905099:True:=⟨⟩
theorem tw9431539750691103025:True:=⟨⟩
theorem tw12823926995578441608:True:=⟨⟩
theorem tw55483368882192861:True:=⟨⟩
theorem tw1789774604143085204:True:=⟨⟩
theorem tw18367176385128754501:True:=⟨⟩
theorem tw16939260137000330037:True:=⟨⟩
theorem tw6456494165358153725:True:=⟨⟩
theorem tw13430734855948200364:True:=⟨⟩
theorem tw8351589393068558246:True:=⟨⟩
theorem tw12995933623026977981:True:=⟨⟩
theorem tw8449750601438997975:True:=⟨⟩
theorem tw14361057780481996875:True:=⟨⟩
theorem tw4150483491155713745:True:=⟨⟩
theorem tw14273634655471397089:True:=⟨⟩
theorem tw16168368025158177573:True:=⟨⟩
theorem tw8674179609348663710:True:=⟨⟩
theorem tw13001410355453636106:True:=⟨⟩
theorem tw11130416086711791647:True:=⟨⟩
theorem tw7159467137978578251:True:=⟨⟩
theorem tw15395358416111563438:True:=⟨⟩
theorem tw9396176462552139651:True:=⟨⟩
theorem tw10674225424621309011:True:=⟨⟩
theorem tw7096363640172230210:True:=⟨⟩
theorem tw7414381165902517912:True:=⟨⟩
theorem tw10547732172186462038:True:=⟨⟩
theorem tw10589146255929805049:True:=⟨⟩
theorem tw166463981740367364:True:=⟨⟩
theorem tw16301366327492029905:True:=⟨⟩
theorem tw8127862475487659259:True:=⟨⟩
theorem tw6270462866797955814:True:=⟨⟩
theorem tw13442031203438806013:True:=⟨⟩
theorem tw9294063790289441109:True:=⟨⟩
theorem tw7699381228707140710:True:=⟨⟩
theorem tw8209209354391418976:True:=⟨⟩
theorem tw11387652795842178637:True:=⟨⟩
theorem tw9765968964257256518:True:=⟨⟩
theorem tw10555227086884339464:True:=⟨⟩
theorem tw1300959522402287851:True:=⟨⟩
theorem tw12277455626474020921:True:=⟨⟩
theorem tw954684933242547539:True:=⟨⟩
theorem tw4982064617497835126:True:=⟨⟩
theorem tw4568727147768597217:True:=⟨⟩
theorem tw5037966527834863812:True:=⟨⟩
theorem tw17059058679233441557:True:=⟨⟩
theorem tw8794682833479776948:True:=⟨⟩
theorem tw7384013980162904697:True:=⟨⟩
theorem tw5654588272044227054:True:=⟨⟩
theorem tw15791802128146746345:True:=⟨⟩
theorem tw15398436792012670923:True:=⟨⟩
theorem tw7483634517880876283:True:=⟨⟩
theorem tw5764937776787553426:True:=⟨⟩
theorem tw5748441960071369550:True:=⟨⟩
theorem tw17793185972197237784:True:=⟨⟩
theorem tw6740670627809182349:True:=⟨⟩
theorem tw12273118980467360708:True:=⟨⟩
theorem tw17414715899284138956:True:=⟨⟩
theorem tw9732855818218354145:True:=⟨⟩
theorem tw2969653115306248227:True:=⟨⟩
theorem tw11031463690200686104:True:=⟨⟩
theorem tw13244189818472625440:True:=⟨⟩
theorem tw16309156634508033080:True:=⟨⟩
end PySem.W.Fast
open PySem PySem.W PyProof.Rows
set_option maxRecDepth 100000 in
set_option maxHeartbeats 0 in
theorem PySem.Challenge.cw_sashiko_k30_whole_seams_turned_about_holds : PySem.Challenge.rw_sashiko_k30_whole_seams_turned_about.Holds := by
 w_on; o_law; k_head; (case hw=>w_witness2)
 k_fill
 refine L2.walk_ofK (l:=PySem.Challenge.rw_sashiko_k30_whole_seams_turned_about) (n:=63) (k:=16) (x:="_law_script") (CX:=L2.CX0) (sp:=My.sp_law) rfl (by decide) rfl ⟨rfl,by decide,by decide⟩ (fun w h Y=>PySem.W.kIn_of Y) ?F ?S ?C
 case F =>
  intro w mg fa h KX G hmg
  have T:∃ t:My.Ad,My.Txt (L2.KOf KX) mg t:=by
   dsimp only [L2.KOf];refine' My.txt_mk KX G ?aC_a6 ?ga_a6 ?rd_a6 ?aC_aa ?pg_aa ?hd_aa ?po_aa ?sa_aa ?mk_aa ?kc_aa ?na_columns_count ?na_rows_count ?na_col_bits ?na_row_bits ?na_first_colour ?a_ax ?F_ax ?a_ah ?F_ah ?a_aT ?F_aT ?a_az ?F_az ?a_aH ?F_aH ?a_ay ?F_ay ?fc_ar ?F_ar ?a_ag ?i_ag ?F_ag ?a_ai ?i_ai ?F_ai ?a_aj ?i_aj ?F_aj ?a_ak ?i_ak ?F_ak ?a_ad ?i_ad ?F_ad ?a_af ?i_af ?F_af ?a_ac ?i_ac ?F_ac ?a_as ?i_as ?F_as ?a_ab ?i_ab ?F_ab ?a_ae ?i_ae ?F_ae ?a_av ?F_av ?a_at ?F_at ?a_al ?F_al ?a_aN ?F_aN ?a_am ?F_am ?a_aI ?F_aI ?a_ao ?F_ao ?a_aL ?F_aL ?a_ap ?F_ap ?a_aw ?F_aw ?a_a4 ?F_a4 ?a_an ?F_an ?a_aq ?F_aq ?a_aE ?F_aE ?a_aU ?F_aU ?a_aG ?F_aG ?a_a2 ?F_a2 ?a_aB ?F_aB ?a_aV ?F_aV ?a_a1 ?F_a1 ?a_aX ?F_aX ?a_aZ ?F_aZ ?a_aF ?F_aF ?a_aR ?F_aR ?a_aC ?F_aC ?a_aK ?F_aK ?a_aQ ?F_aQ ?a_aD ?F_aD ?a_aJ ?F_aJ ?a_law ?F_law ?aX_a0 ?aX_aM ?aX_aP ?aX_aW ?aX_aS ?aX_aY ?aX_aO ?bb ?bm ?bt ?ogs ?otk ?x_aM ?xg_BadSize ?sb_aM ?x_aP ?xg_BadBit ?sb_aP ?x_aW ?xg_NoCell ?sb_aW ?x_aS ?xg_NoLine ?sb_aS ?x_aY ?xg_NoStep ?sb_aY ?x_aO ?xg_NoPoint ?sb_aO ?v_LONGEST_SIDE ?z_a3 ?z_int ?z_bool ?z_all ?z_len ?z_aA ?z_list ?z_au ?z_abs ?z_str ?z_zip ?z_a5 ?z_sorted ?z_min ?z_max ?z_reversed ?z_sum
   (case aC_a6 | aC_aa | aX_a0 | aX_aM | aX_aP | aX_aW | aX_aS | aX_aY | aX_aO | a_ax | a_ah | a_aT | a_az | a_aH | a_ay | a_av | a_at | a_al | a_aN | a_am | a_aI | a_ao | a_aL | a_ap | a_aw | a_a4 | a_an | a_aq | a_aE | a_aU | a_aG | a_a2 | a_aB | a_aV | a_a1 | a_aX | a_aZ | a_aF | a_aR | a_aC | a_aK | a_aQ | a_aD | a_aJ | a_law=>(unfold My.QNs; k_is))
   (case z_a3 | z_int | z_bool | z_all | z_len | z_aA | z_list | z_au | z_abs | z_str | z_zip | z_a5 | z_sorted | z_min | z_max | z_reversed | z_sum=>(unfold My.QNn; k_is))
   (case a_ag | a_ai | a_aj | a_ak | a_ad | a_af | a_ac | a_as | a_ab | a_ae=>(unfold My.QFi; k_is))
   (case ga_a6 | rd_a6 | pg_aa | hd_aa | po_aa | sa_aa | mk_aa | kc_aa | fc_ar | bb | bm | bt | ogs | otk | sb_aM | sb_aP | sb_aW | sb_aS | sb_aY | sb_aO | v_LONGEST_SIDE=>k_is)
   (case na_columns_count | na_rows_count | na_col_bits | na_row_bits | na_first_colour=>(unfold My.QFn; k_is))
   (case i_ag | i_ai | i_aj | i_ak | i_ad | i_af | i_ac | i_as | i_ab | i_ae=>(unfold My.QIf; k_is))
   (case x_aM | x_aP | x_aW | x_aS | x_aY | x_aO=>(unfold My.QXc; k_exc))
   (case F_ax | F_ah | F_aT | F_az | F_aH | F_ay | F_ar | F_ag | F_ai | F_aj | F_ak | F_ad | F_af | F_ac | F_as | F_ab | F_ae | F_av | F_at | F_al | F_aN | F_am | F_aI | F_ao | F_aL | F_ap | F_aw | F_a4 | F_an | F_aq | F_aE | F_aU | F_aG | F_a2 | F_aB | F_aV | F_a1 | F_aX | F_aZ | F_aF | F_aR | F_aC | F_aK | F_aQ | F_aD | F_aJ | F_law=>exact L2.fun_mk (by k_is) (by k_is) (by k_is))
   (case xg_BadSize | xg_BadBit | xg_NoCell | xg_NoLine | xg_NoStep | xg_NoPoint=>exact ⟨by k_is,by k_is,by k_is,by k_is,by k_is⟩)
  obtain ⟨t,T⟩:=T;have e0:=hmg.symm.trans T.mg_law
  cases e0;exact ⟨t.d_law,T.F_law.bl fun _ _ _ _ _ _ _=>rfl,fun base _ _=>My.Co T⟩
 case S=>exact fun K H a ns hl _ hS=>⟨a,ns,rfl,hS,hl,fun _=>rfl⟩
 case C=>exact fun _ _ _ _ z=>z
