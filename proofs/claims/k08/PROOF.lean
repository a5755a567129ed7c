import PyProof.Rows.All
import Wide.All
import OpenK.AllK
import Wide.FinOn
import Lean
import PyProof.EqAt
import PyProof.EqKinds
import PyProof.TupleCall
import PyProof.NeKinds
import KE.KSortTup
import KE.KItemsList
import KE.KPairComp
import KE.KDictOf
import PyProof.AttrMissHeap
import PySem.Challenge.RW_sashiko_k08_all_seams
open PySem renaming wpAny_bind->ξ,Value->χ,Addr->Δ,Shared->AU,wpAny_pure->D_,sizeLine->E4,wpAny->FD,Program->FP,model->FQ,starEach->Fq,Around->Fv,World->F0,Heap->F6,bootBuiltins->GD,Expr->GO,wpAny_mono->GW,FuncData->GX,compareOp->Gk,PyData->Gm,wpAny_truthy_bool->Gp,wpAny_field->Gy,wpAny_seqItems->G3,wpAny_rule->G4,wpAny_call_entry->HJ,wpAny_Call_Name_kw->HS,wpAny_holding->HW,mainGlobals->Hh,wpAny_newObj_type->Hj,wpAny_callSpecial?_slot->Hl,eval->Hs,Obj->Hu,backTo->Ih,wpAny_passesOwn->Ik,cLine->Iq,mem_of_lookup->Iu,sliceBounds->I_,codeAny_mono->JA,behindInMarks->JF,wpAny_setField_rec->JI,sysModules->JJ,wpAny_letGo->JM,codeAny->JV,IsPair->JX,Pos->Jf,wpAny_eqBool_int->Ji,assignEach->Jj,wpAny_newList->Jm,Model->Jo,letOwnedTupleGo->Jv,Stmt->Jz,wpAny_pyIter_tuple->J6,call_meets->J7,NameKind->J9,call->KN,wpAny_pyIter_list->KP,slot_list_getitem->KQ,sizeLine_eq->KR,Scope->KS,Builtin->KW,wpAny_getItem_list_slice->KY,plainId_quiet->Ka,attributeBase->Kd,wpAny_pyIter_zip->Kq,bindArgs->Kr,binaryOp->Ks,wpAny_updateSeq->Kz,wpAny_execs_nil->K0,wpAny_tryCatch->K_,wpAny_newTuple->LA,pyNext->LB,Sem->LD,IsZip->LH,IsPart->LI,swapsWith->LK,callerA->LM,wpAny_attempt->LY,evalPart_none->La,typeIs_str->Lj,tupleKind_room_in1->Lk,Env->Lo,wpAny_typeOf->Ls,getItem->Lw,foldedSetIterable->Lx,ZipApart->Ly,intText?->L0,wpAny_isInstance->MK,tupleKind->ML,seqItems?->MM,getMethod->MN,keywordEach->MS,field->MT,codeAny_builtin->Me,Within->Mf,valueAt->Mn,holding->Mp,BindsTo->Mz,wpAny_call->M0,CmpOp->M9,wpAny_letOwnedTupleGo_zip->ND,wpAny_onRaise->NJ,wpAny_comprehension_free->NK,strValues->NV,slicePick->NW,bindL->NX,bindC->NY,atKey->NZ
open List renaming mem_cons_self->θ,length_map->Θ,mem_cons_of_mem->Ξ,getElem?_eq_getElem->Ω,mem_singleton->A_,mem_cons->BF,length_append->BG,getElem?_eq_some_iff->C_,length_cons->EX,getD_eq_getElem?_getD->E2,mem_append_right->E3,size_toArray->E8,append_assoc->E9,mem_append->E_,length_singleton->FA,getElem?_map->FE,take_of_length_le->FG,append_nil->FH,not_mem_nil->FJ,pairwise_append->FL,mem_of_getElem?->FN,nodup_cons->Fb,mem_append_left->Ff,map_cons->Fg,length_take->Fl,mem_of_mem_take->Fp,length_drop->Fw,mem_map->F1,eq_nil_of_length_eq_zero->F2,range->F3,getElem?_append_right->F4,drop_eq_getElem_cons->F8,map_map->GF,take_sublist->GG,take_append_drop->GI,getElem?_append_left->GK,map_append->GL,dropLast_concat_getLast->GN,mem_of_mem_drop->GP,mem_iff_getElem?->GS,mem_reverse->Ga,map_congr_left->Ge,length_range->Gg,drop_sublist->Gh,mem_filter->G1,length_replicate->G6,cons_append->G8,getElem?_take_of_lt->G9,take_add_one->HX,nodup_append->HY,getElem?_cons_zero->HZ,all_eq_true->Ht,drop_drop->Hv,reverse_cons->Hy,pairwise_map->Hz,length_reverse->IC,filterMap_cons->ID,take_zero->IG,getElem_mem->II,drop_zero->IJ,set_set->IS,pairwise_cons->IT,drop_of_length_le->IU,nil_append->IX,getElem?_eq_none->Ic,ext_getElem?->Ii,nodup_nil->Io,mem_range->Ip,map_nil->Ir,extract_eq_drop_take->Iw,find?_cons->JB,replicate->JG,getElem?_set_self->JH,perm_append_comm->JR,length_filter_le->JS,reverse_reverse->Jb,lookup->Jc,length->Jd,dropLast_concat->Je,forIn_cons->Jg,reverse_append->Jk,length_pos_iff->Jl,getElem?_drop->Jr,drop_take->Js,getElem?_zip_eq_some->Jw,getElem_drop->J0,take_append_getElem->J4,pairwise_singleton->KC,getLast?_cons_cons->KD,getElem?_replicate->KG,getElem?_cons_succ->KH,range_succ->Kl,length_nil->Km,getElem?_set_ne->Kv,toList_toArray->K1,getElem?_range->K2,mem_filterMap->K8,filter_append->K9,getElem_take->LN,flatMap_cons->LO,zipIdx_cons->Lc,map_fst_zip->Ld,lookup_cons->Lf,ext_getElem->Lg,getLast?_eq_some_getLast->Lm,zipIdx_nil->Lq,of_mem_zip->Lr,take_take->MD,forIn_nil->ME,pairwise_iff_getElem->MP,map_take->MV,map_drop->MW,any_cons->MX,filter_cons_of_pos->Mi,filter_cons_of_neg->Mj,map_id'->Mr,drop_eq_nil_of_le->Mt,append_inj_right'->Mu,append_inj_left'->M8,mem_iff_getElem->NF,getElem?_append->NG,filter_eq_self->NN,zip_nil_right->Nc,map_singleton->Nd,foldl->Nf,filterMap_map->Ng
open PySem.Heap renaming get?_push_of_some->ς,lt_size->E1,get?_push_size->E5,get?_update_other->Fy,size_push->Gj,size_update->Gu,get?_push_ne->Hf,SameBut->H_,get?_update_ne->IF,get?_update_self->Ie,MadeExcOf->MF,FlyingW->Mw
open Nat renaming le_refl->BE,ne_of_lt->E6,lt_of_lt_of_le->FI,le_trans->Fe,zero_le->Fi,lt_of_le_of_lt->Fz,le_add_right->F7,lt_succ_of_lt->GV,succ_le_succ->Gv,min_eq_left->G2,lt_irrefl->G_,le_succ->HU,lt_succ_self->Iv,min_eq_right->KO,sub_self->Kf,ne_of_gt->Kg,le_of_eq->Kh,not_lt->LF,succ_pos->LS,le_total->LU,le_of_lt->LV,min_le_right->Ll,add_sub_cancel_left->Mq,sub_zero->M7
open PyProof.Rows renaming Keyed->B_,wpS_bind->EZ,wpS_pure->E7,arrOf->FO,pendingOf->FY,seqObj->Fx,SortSt->GA,wpS_forRange->GQ,slot_tuple_getitem->Gb,callWith_type1->Gn,SortKind->Gs,kindOf->G0,wpS_mono->Hg,failedOf->Hi,pairsOf->Ho,wpS_modify->Hr,listUpdate_at->Hw,pairsOf_toList->IV,zipApart_new->Ia,mem_zip_self->Ig,get?_update_seq->Il,size_push'->JK,seqEpoch_at->JN,wpS_get->JU,mirror->Ju,AllBare->J2,reverseSlice'->KZ,envOfC->Kc,wpS_lift->Kp,tuples'->Kx,IntsAre->Ky,numOf->LC,sortedAll->LL,subscriptTail->LZ,pairsOf_size->Lu,listItems_at->Lv,wpS->MJ,entry_list_sort->Mc,sortedHeap->M1,slot_list_sort->M3,Subscript_->M5
open Array renaming toList_append->EY,length_toList->FT,getElem?_toList->GC,toList_reverse->GY,perm_iff_toList_perm->Gi,toList_push->Gz,getElem_mem_toList->IB,toList_extract->JZ,toArray_toList->Ja,size_map->Jq,size_append->Jy,toList_map->J_,toList_setIfInBounds->L_,getElem_toList->NB,size_extract->NT,append_assoc->NU
open PySem.F renaming plainAttrs_list->FF,type_list_append->FU,slot_list_append->FW,excBase_ValueError->GR,plain_min_loop->IP,slot_tuple_iterator_next->Iz,slot_zip_next->Kw,args_str_split_2->LW,entry_str_split->Ln,slot_str_split->L6,entry_min_loop->L7,type_list_clear->MA,slot_list_clear->MB,plainAttrs_str->MO,args_tuple_iterator_next_1->MR,entry_tuple_iterator_next->MY
open PySem.Obj renaming mapSeq->FZ
open List.Pairwise renaming sublist->Fd,nil->Gq
open PySem.Value renaming ref->Fj,type->GZ,none->Im,int->JQ,str->J8,bool->K3,float->M4
open Option.some renaming inj->Fo,injEq->IL
open Bool renaming false_ne_true->Ft,false_eq_true->F_,and_eq_true->GB,eq_iff_iff->JC,not_eq_true'->LQ,not_eq_true->Li,and_false->MI,or_false->MZ,and_true->Ma,and_eq_true_iff->NI
open PySem.PassesOwn renaming never->F5
open Int renaming toNat_natCast->F9,zero_add->IW,emod_nonneg->Ib,emod_lt_of_pos->LJ,eq_ofNat_of_zero_le->Mv,one_mul->NO,add_mul->NQ
open PySem.PyData renaming eqv->GH,eqvAll->Gw,canLayAll0->Gx,depthAll->HV,depth->JD,canLay0->JE,int->JO,strOk->K6
open Or renaming inl->GJ,inr->Kn
open False renaming elim->GU
open Ne renaming symm->Gd
open PySem.Builtin.SmallTypes renaming nextOf->Gf,ownedTupleIsFree->G7,ownedTupleHandOut->Jt
open Prod renaming ext->G5,fst->MC
open List.Perm renaming append_left->Hq,append_right->IE,trans->LG,of_eq->NH
open PySem.Builtin.Str renaming occurrences->Hx,partsBetween->LX,strKind->MH
open PySem.Str renaming ofString->IA,join->KJ,empty->KL
open PySem.Builtin.List renaming listExtendWith->IK,listTooLong->Jh,listSameRef->LP,listItems->Lh
open PySem.SeqAt renaming shaped->IM,eqBoolOverData->M6
open True renaming intro->IQ
open PySem.Builtin.Slice renaming slicePlaces->IY,sliceAdjust->JY,sliceApplied->K5
open PySem.Sem renaming bind->IZ,wp->JW
open PySem.Builtin.Tuple renaming tupleExact->Ij,tupleItemsOf->K4
open PySem.NameKind renaming free->JL
open Option renaming getD_some->JP,map_eq_some_iff->KA,isSome_map->K7,getD_none->Nb
open List.cons renaming injEq->JT
open PySem.Calls renaming spliced_cons->Jp,spliced_nil->Jx,Name_function_global->L8,call_function_entry->MG,callWith_builtin->Mm,evalArgs_plain->M_
open Array.Perm renaming refl->J1
open ForInStep renaming yield->J5
open PySem.Heap.IsSliceOf renaming new->KI
open PySem.EntryCells renaming newEntry->KU
open Sum renaming inl->Ke,inr->LR
open PySem.Around renaming under_plainId->Ko,under->Mb
open PySem.Builtin.Builtins renaming bindParams->Ku
open StateT renaming run_pure->Lb
open PyProof.Rows.SortSt renaming mk'->Lp
open PySem.Walks renaming list->Lz
open PySem.Heap.SameBut renaming update->L5
open PySem.W.KatTups renaming cons->MQ,nil->Ml
open PySem.StrLaws renaming occ_length_le->MU
open PySem.Code renaming isFrame->Mx
open PySem.W renaming OpenLaw->Na
set_option Elab.async false
set_option linter.all false
set_option maxRecDepth 100000
namespace L2
open PySem PySem.Spec PyProof.Rows
noncomputable abbrev Key:=Sum Int Str
noncomputable def nv:Key->χ->Bool
 | .inl k,v=>Value.isInt k v
 | .inr x,v=>Value.isStrOf x v
noncomputable def EI (w:F0):Key->Int
 | .inl k=>hashInt k
 | .inr x=>hashStr w x
theorem bU:∀ {k:Key} {v:χ},nv k v=true->(∃ i t,k=Ke i/\v=JQ i t)\/(∃ x t,k=LR x/\v=J8 x t)
 | .inl i,v,h=>by
  obtain ⟨t,e⟩:=Value.isInt_shape (k:=i) (v:=v) h;exact .inl ⟨i,t,rfl,e⟩
 | .inr x,v,h=>by
  obtain ⟨t,e⟩:=Value.isStrOf_shape (x:=x) (v:=v) h;exact .inr ⟨x,t,rfl,e⟩
theorem vG (i:Int) (t:Tok):nv (.inl i) (.int i t)=true:=by simp [nv,Value.isInt]
theorem vH (x:Str) (t:Tok):nv (.inr x) (.str x t)=true:=by simp [nv,Value.isStrOf]
theorem CH (a b:Int):decide ((Ke a:Key)=Ke b)=(a==b):=by
 by_cases e:a=b
 ·subst e; simp
 ·have h:¬ (Ke a:Key)=Ke b:=fun q=>e (Sum.inl.inj q);rw [decide_eq_false h];exact (beq_eq_false_iff_ne.mpr e).symm
theorem CK (a b:Str):decide ((LR a:Key)=LR b)=decide (a=b):=by
 by_cases e:a=b
 ·subst e; simp
 ·have h:¬ (LR a:Key)=LR b:=fun q=>e (Sum.inr.inj q);rw [decide_eq_false h,decide_eq_false e]
theorem CI (a:Int) (b:Str):decide ((Ke a:Key)=LR b)=false:=decide_eq_false (fun q=>nomatch q)
theorem CJ (a:Str) (b:Int):decide ((LR a:Key)=Ke b)=false:=decide_eq_false (fun q=>nomatch q)
noncomputable def cE (prog:FP) (w:F0):PySem.KeyKind prog w Key where
 is:=nv
 hash:=EI w
 inj:=fun v a b ha hb=>by
  rcases bU ha with ⟨i,t,rfl,rfl⟩ | ⟨x,t,rfl,rfl⟩
  ·rcases bU hb with ⟨j,u,rfl,e⟩ | ⟨y,u,rfl,e⟩
   ·injection e with e1 _; rw [e1]
   ·exact nomatch e
  ·rcases bU hb with ⟨j,u,rfl,e⟩ | ⟨y,u,rfl,e⟩
   ·exact nomatch e
   ·injection e with e1 _; rw [e1]
 byValue:=fun k v h=>by
  rcases bU h with ⟨i,t,rfl,rfl⟩ | ⟨x,t,rfl,rfl⟩<;>rfl
 pyHash:=fun hv h=>by
  rcases bU hv with ⟨i,t,rfl,rfl⟩ | ⟨x,t,rfl,rfl⟩
  ·exact wpAny_pyHash_int h
  ·exact wpAny_pyHash_str h
 eqBool:=fun hu hv h=>by
  rcases bU hu with ⟨i,t,rfl,rfl⟩ | ⟨x,t,rfl,rfl⟩
  ·rcases bU hv with ⟨j,u,rfl,rfl⟩ | ⟨y,u,rfl,rfl⟩
   ·rw [CH] at h; exact Ji h
   ·rw [CI] at h; exact SeqAt.EqAt.int_str i t y u _ _ _ _ h
  ·rcases bU hv with ⟨j,u,rfl,rfl⟩ | ⟨y,u,rfl,rfl⟩
   ·rw [CJ] at h; exact SeqAt.EqAt.str_int x t j u _ _ _ _ h
   ·rw [CK] at h; exact wpAny_eqBool_str h
 «strs»:=fun k x t v h=>by
  rcases bU h with ⟨i,u,rfl,e⟩ | ⟨y,u,rfl,e⟩
  ·exact nomatch e
  ·injection e with e1 _;subst e1
   cases v<;>rfl
theorem qC (prog:FP) (w:F0) (i:Int) (t:Tok):(cE prog w).is (.inl i) (.int i t)=true:=vG i t
theorem qE (prog:FP) (w:F0) (x:Str) (t:Tok):(cE prog w).is (.inr x) (.str x t)=true:=vH x t
inductive V where
 | non | bl (b:Bool) | int (i:Int) | str (x:Str) | byt (b:Array UInt8) | flt (b:UInt64) | ref (a:Δ) | ty (n:String)
 deriving DecidableEq
def bj:V->χ->Prop
 | .non,u=>u=Im
 | .bl b,u=>u=K3 b
 | .int i,u=>∃ t,u=JQ i t
 | .str x,u=>∃ t,u=J8 x t
 | .byt b,u=>∃ t,u=Value.bytes b t
 | .flt b,u=>∃ t,u=M4 b t
 | .ref a,u=>u=Fj a
 | .ty n,u=>u=GZ n
abbrev Vals:List V->List χ->Prop:=Paired bj
theorem Vals.length {xs:List V} {us:List χ} (r:Vals xs us):xs.length=us.length:=Paired.length r
theorem Vals.get:∀ {xs:List V} {us:List χ} {i:Nat} {x:V},Vals xs us->xs[i]?=some x->∃ u,us[i]?=some u/\bj x u
 | _,_,_,_,.nil,e=>by simp at e
 | _,_,0,_,.cons r _,e=>by simp at e; subst e; exact ⟨_,rfl,r⟩
 | _,_,i+1,x,.cons _ t,e=>by
  obtain ⟨u,h1,h2⟩:=Vals.get (i:=i) (x:=x) t (by simpa using e);exact ⟨u,by simpa using h1,h2⟩
theorem Vals.append:∀ {xs ys:List V} {us ws:List χ},Vals xs us->Vals ys ws->Vals (xs++ys) (us++ws)
 | _,_,_,_,.nil,s=>s
 | _,_,_,_,.cons r t,s=>.cons r (Vals.append t s)
theorem Vals.take:∀ {xs:List V} {us:List χ} (n:Nat),Vals xs us->Vals (xs.take n) (us.take n)
 | _,_,0,_=>.nil
 | _,_,_+1,.nil=>.nil
 | _,_,n+1,.cons r t=>.cons r (Vals.take n t)
theorem Vals.drop:∀ {xs:List V} {us:List χ} (n:Nat),Vals xs us->Vals (xs.drop n) (us.drop n)
 | _,_,0,r=>r
 | _,_,_+1,.nil=>.nil
 | _,_,n+1,.cons _ t=>Vals.drop n t
def iU:Option V->Option χ->Prop
 | some v,some u=>bj v u
 | none,none=>True
 | _,_=>False
def KV {κ:Type}:List (κ×V)->List (κ×χ)->Prop:=Paired fun (p:κ×V) (q:κ×χ)=>p.1=q.1/\bj p.2 q.2
noncomputable def kV:Key->V
 | .inl i=>.int i
 | .inr x=>.str x
inductive HO where
 | lst (xs:List V)
 | tup (xs:List V)
 | dK (kvs:List (Key×V)) | dT (kvs:List (List Key×V))
 | set (S:Int->Bool) (n:Nat)
 | ins (C dx:Δ) (fs:List (Str×V))
 | own (x:Δ)
 | xd (fs:List (Str×V))
 | met (f x:Δ)
 | rng (lo hi:Int)
 | frz (o:Hu) (u:HO)
 | tbl (ps:Array χ)
 | ext (φ:F6->Prop)
noncomputable abbrev Hp:=Δ->Option HO
noncomputable def upd (H:Hp) (a:Δ) (o:HO):Hp:=fun b=>if b=a then some o else H b
theorem af {H:Hp} {a:Δ} {o:HO}:upd H a o a=some o:=by unfold upd; rw [if_pos rfl]
theorem ar {H:Hp} {a b:Δ} {o:HO} (h:b≠a):upd H a o b=H b:=by unfold upd; rw [if_neg h]
theorem BK {H:Hp} {a:Δ} {o u:HO}:upd (upd H a o) a u=upd H a u:=by
 funext b; unfold upd; split<;>rfl
theorem cA {H:Hp} {a b:Δ} {o u:HO} (h:H a=some o) (h':H b=some u) (d:o≠u):a≠b:=by
 intro e; subst e; rw [h] at h'; exact d (Fo h')
theorem bz {H:Hp} {a b:Δ} {o:HO} (h:H a=some o) (h':H b=none):a≠b:=by
 intro e; subst e; rw [h] at h'; cases h'
section
variable (P:FP) (w:F0)
def bL (H:Hp) (h:F6) (a:Δ):HO->Prop
  | .lst xs => xs.length <= E4 /\ ∃ (its : List χ) (n : Nat), Vals xs its /\ h.get? a = some { cls := .type "list", data := .seq its.toArray n }
  | .tup xs => xs.length <= E4 /\ ∃ its : List χ, Vals xs its /\ IsTup h a its.toArray
  | .dK kvs => kvs.length <= E4 /\ (a == JJ) = false /\ ∃ vs, KV kvs vs /\ h.DictOf (cE P w) a vs
  | .dT kvs => kvs.length <= E4 /\ (a == JJ) = false /\ ∃ xs : List (List Key × Δ × χ),
      Paired (fun (p:List Key×V) (q:List Key×Δ×χ)=>p.1=q.1/\H q.2.1=some (.tup (p.1.map kV))/\bj p.2 q.2.2) kvs xs /\
      ∃ o es ep,h.get? a=some o/\o.ExactDict/\o.data=.dict es ep/\es.toList=xs.map (entryOfKey (ML (cE P w)))/\(xs.map (·.1)).Nodup
  | .set S n => h.SetOf (intKind P w) a S n
  | .ins C dx fs => H dx = some (.own a) /\ fs.length <= 1000 /\ dx ≠ a /\ h.get? a = some (W.instObj C dx) /\
      ∃ mA,h.Ns1 dx mA/\(∀ f,iU (fs.lookup f) (mA f))/\Mf mA (fs.map (·.1))
  | .own _ => ∃ o, h.get? a = some o
  | .xd fs => ∃ mA, h.Ns1 a mA /\ ∀ f, iU (fs.lookup f) (mA f)
  | .rng lo hi => ∃ t u v, h.get? a = some { cls := .type "range", data := .fields #[.int lo t, .int hi u, .int 1 v] }
  | .frz o u => h.get? a = some o /\ bL H h a u
  | .tbl ps => h.get? a = some { cls := .none, data := .fields ps }
  | .met f x => h.get? a = some (W.methodObj (.ref f) (.ref x))
  | .ext φ => φ h /\ (∃ o, h.get? a = some o) /\ ∀ h1 h2 : F6, φ h1 -> (∀ o, h1.get? a = some o -> h2.get? a = some o) -> φ h2
def HOk (H:Hp) (h:F6):Prop:=∀ a o,H a=some o->bL P w H h a o
end
section
variable {P:FP} {w:F0} {H H':Hp} {h h':F6} {a:Δ} {o:HO}
theorem bL.lt (x:bL P w H h a o):a<h.objs.size:=by
 cases o with
 | lst xs=>obtain ⟨_,_,_,_,e⟩:=x; exact E1 e
 | tup xs=>obtain ⟨_,_,_,p⟩:=x; exact p.lt
 | dK kvs=>obtain ⟨_,_,_,_,o,_,_,e,_⟩:=x; exact E1 e
 | dT kvs=>obtain ⟨_,_,_,_,o,_,_,e,_⟩:=x; exact E1 e
 | set S n=>obtain ⟨o,_,_,_,e,_⟩:=x; exact E1 e
 | ins C dx fs=>obtain ⟨_,_,_,e,_⟩:=x; exact E1 e
 | own y=>obtain ⟨_,e⟩:=x; exact E1 e
 | xd fs=>obtain ⟨_,⟨_,_,_,e,_⟩,_⟩:=x; exact E1 e
 | rng lo hi=>obtain ⟨_,_,_,e⟩:=x; exact E1 e
 | frz ob u=>obtain ⟨e,_⟩:=x; exact E1 e
 | tbl ps=>exact E1 (show h.get? a=some _ from x)
 | met f y=>exact E1 (show h.get? a=some _ from x)
 | ext φ=>obtain ⟨_,⟨_,e⟩,_⟩:=x; exact E1 e
theorem Paired.mapP {α β:Type} {F G:α->β->Prop}:∀ {l₁:List α} {l₂:List β},Paired F l₁ l₂->(∀ a b,F a b->G a b)->Paired G l₁ l₂
 | _,_,.nil,_=>.nil
 | _,_,.cons r t,f=>.cons (f _ _ r) (Paired.mapP t f)
theorem bL.stay (x:bL P w H h a o) (k:∀ b u,(b=a\/H b=some (.own a))->h.get? b=some u->h'.get? b=some u)
  (ho:∀ b,H b=some (.own a)->H' b=some (.own a)) (ht:∀ b xs,H b=some (.tup xs)->H' b=some (.tup xs)):bL P w H' h' a o:=by
 induction o with
 | lst xs=>obtain ⟨z,its,n,r,e⟩:=x; exact ⟨z,its,n,r,k _ _ (.inl rfl) e⟩
 | tup xs=>obtain ⟨z,its,r,ob,e,c⟩:=x; exact ⟨z,its,r,ob,k _ _ (.inl rfl) e,c⟩
 | dK kvs=>obtain ⟨z,y,vs,r,ob,es,ep,e,c⟩:=x; exact ⟨z,y,vs,r,ob,es,ep,k _ _ (.inl rfl) e,c⟩
 | dT kvs =>
  obtain ⟨z,y,xs,r,ob,es,ep,e,c⟩:=x;exact ⟨z,y,xs,Paired.mapP r fun p q z=>⟨z.1,ht _ _ z.2.1,z.2.2⟩,ob,es,ep,k _ _ (.inl rfl) e,c⟩
 | set S n=>obtain ⟨ob,es,ep,t,e,c⟩:=x; exact ⟨ob,es,ep,t,k _ _ (.inl rfl) e,c⟩
 | ins C dx fs =>
  obtain ⟨d,z,ne,e,mA,⟨od,es,ep,e2,c⟩,r⟩:=x;exact ⟨ho _ d,z,ne,k _ _ (.inl rfl) e,mA,⟨od,es,ep,k _ _ (.inr d) e2,c⟩,r⟩
 | own y=>obtain ⟨ob,e⟩:=x; exact ⟨ob,k _ _ (.inl rfl) e⟩
 | xd fs=>obtain ⟨mA,⟨od,es,ep,e,c⟩,r⟩:=x; exact ⟨mA,⟨od,es,ep,k _ _ (.inl rfl) e,c⟩,r⟩
 | rng lo hi=>obtain ⟨t,u,v,e⟩:=x; exact ⟨t,u,v,k _ _ (.inl rfl) e⟩
 | frz ob u ih=>obtain ⟨e,q⟩:=x; exact ⟨k _ _ (.inl rfl) e,ih q⟩
 | tbl ps =>
  have e:h.get? a=some { cls:=.none,data:=.fields ps }:=x
  show h'.get? a=some { cls:=.none,data:=.fields ps }
  exact k a _ (.inl rfl) e
 | met f y =>
  have e:h.get? a=some (W.methodObj (.ref f) (.ref y)):=x
  show h'.get? a=some (W.methodObj (.ref f) (.ref y))
  exact k a _ (.inl rfl) e
 | ext φ=>obtain ⟨p,⟨o,e⟩,st⟩:=x; exact ⟨st _ _ p fun o q=>k _ _ (.inl rfl) q,⟨o,k _ _ (.inl rfl) e⟩,st⟩
theorem HOk.lt (x:HOk P w H h) (e:H a=some o):a<h.objs.size:=(x a o e).lt
theorem HOk.fresh (x:HOk P w H h) (e:h.objs.size<=a):H a=none:=by
 cases q:H a with
 | none=>rfl
 | some u=>exact absurd (FI (x.lt q) e) (G_ _)
theorem HOk.kept (x:HOk P w H h) (k:∀ b u,h.get? b=some u->h'.get? b=some u):HOk P w H h':=fun a o e =>
 (x a o e).stay (fun b u _ q=>k b u q) (fun _ q=>q) fun _ _ q=>q
theorem HOk.laid (x:HOk P w H h) (k:∀ b u,h.get? b=some u->h'.get? b=some u) (hp:h.objs.size<=a) (new:bL P w (upd H a o) h' a o):HOk P w (upd H a o) h':=fun b u e=>by
 have hn:=x.fresh hp;by_cases hb:b=a
 ·subst hb; rw [af] at e; cases e; exact new
 ·rw [ar hb] at e;exact (x b u e).stay (fun c v _ q=>k c v q) (fun c q=>by rw [ar (bz q hn)]; exact q) fun c xs q=>by rw [ar (bz q hn)]; exact q
end
def Rd (H:Hp) (a:Δ) (u:HO):Prop:=H a=some u\/∃ o,H a=some (.frz o u)
theorem Rd.ok {P:FP} {w:F0} {H:Hp} {h:F6} {a:Δ} {u:HO} (r:Rd H a u) (x:HOk P w H h):bL P w H h a u:=by
 rcases r with r | ⟨o,r⟩
 ·exact x a u r
 ·obtain ⟨_,q⟩:=x a _ r;exact q
def Mut:Option HO->Prop
 | some (.lst _)=>True
 | some (.dK _)=>True
 | some (.dT _)=>True
 | some (.set _ _)=>True
 | some (.ins _ _ _)=>True
 | some (.ext _)=>True
 | _=>False
section
variable {P:FP} {w:F0} {H:Hp} {h h':F6} {x e:Δ} {o':HO}
theorem HOk.write (ok:HOk P w H h) (mu:Mut (H x)) (he:e=x\/H e=some (.own x)) (k:∀ b u,b≠e->h.get? b=some u->h'.get? b=some u) (heo:∃ u,h'.get? e=some u)
    (new:bL P w (upd H x o') h' x o'):HOk P w (upd H x o') h':=fun b u q=>by
  have nown:∀ c y,H c=some (.own y)->c≠x:=fun c y r z=>by subst z; rw [r] at mu; exact mu
  have ntup:∀ c xs,H c=some (.tup xs)->c≠x:=fun c xs r z=>by subst z; rw [r] at mu; exact mu
  by_cases hb:b=x
  · subst hb; rw [af] at q; cases q; exact new
  · rw [ar hb] at q
    by_cases hbe:b=e
    · have q':H b=some (.own x):=by
        rcases he with z | z
        · exact absurd (hbe.trans z) hb
        · rw [hbe]; exact z
      rw [q] at q'; cases q';obtain ⟨v,hv⟩:=heo;exact ⟨v,by rw [hbe]; exact hv⟩
    · refine (ok b u q).stay (fun c v hc r=>k c v ?_ r) (fun c r=>by rw [ar (nown c b r)]; exact r) fun c xs r=>by rw [ar (ntup c xs r)]; exact r
      rcases hc with rfl | hc
      · exact hbe
      · rintro rfl
        rcases he with z | z
        · exact nown c b hc z
        · rw [hc] at z; cases z; exact hb rfl
end
structure Un (fs ex:List Δ) (H H':Hp) (h h':F6):Prop where
 keep:∀ b o,h.get? b=some o->H b=none->b∉fs->b∉ex->h'.get? b=some o
 slot:∀ b o,h.get? b=some o->H b=none->b∈fs->b∉ex->∃ sl,h'.get? b=some { o with slots:=sl }
 free:∀ b o,h.get? b=some o->H b=none->b∉ex->H' b=none
 there:∀ b o,h.get? b=some o->b∉ex->∃ o',h'.get? b=some o'
 tups:∀ b xs,H b=some (.tup xs)->H' b=some (.tup xs)
 frzs:∀ b o u,H b=some (.frz o u)->H' b=some (.frz o u)
 tbls:∀ b ps,H b=some (.tbl ps)->∃ more,H' b=some (.tbl (ps++more))
section
variable {fs fs' ex ex':List Δ} {H H1 H2:Hp} {h h1 h2 h':F6} {a x e:Δ} {o:HO}
theorem Un.any (u:Un fs ex H H1 h h1) {b:Δ} {ob:Hu} (q:h.get? b=some ob) (n:H b=none) (hx:b∉ex):∃ sl,h1.get? b=some { ob with slots:=sl }:=by
 by_cases hb:b∈fs
 ·exact u.slot b ob q n hb hx
 ·exact ⟨ob.slots,u.keep b ob q n hb hx⟩
theorem Un.trans (a:Un fs ex H H1 h h1) (b:Un fs ex H1 H2 h1 h2):Un fs ex H H2 h h2 where
 keep:=fun c ob q n hc hx=>b.keep c ob (a.keep c ob q n hc hx) (a.free c ob q n hx) hc hx
 slot:=fun c ob q n hc hx=>by
  obtain ⟨sl,e1⟩:=a.slot c ob q n hc hx;obtain ⟨sl',e2⟩:=b.slot c _ e1 (a.free c ob q n hx) hc hx;exact ⟨sl',e2⟩
 free:=fun c ob q n hx=>by
  obtain ⟨o',e1⟩:=a.there c ob q hx;exact b.free c o' e1 (a.free c ob q n hx) hx
 there:=fun c ob q hx=>by
  obtain ⟨o',e1⟩:=a.there c ob q hx;exact b.there c o' e1 hx
 tups:=fun c xs q=>b.tups c xs (a.tups c xs q)
 frzs:=fun c ob xs q=>b.frzs c ob xs (a.frzs c ob xs q)
 tbls:=fun c ps q=>by
  obtain ⟨m1,e1⟩:=a.tbls c ps q;obtain ⟨m2,e2⟩:=b.tbls c _ e1;exact ⟨m1++m2,by rw [e2,NU]⟩
theorem Un.kept (k:∀ b u,h.get? b=some u->h'.get? b=some u):Un fs ex H H h h' :=
 ⟨fun b ob q _ _ _=>k b ob q,fun b ob q _ _ _=>⟨ob.slots,k b ob q⟩,fun _ _ _ n _=>n,fun b ob q _=>⟨ob,k b ob q⟩,fun _ _ q=>q,fun _ _ _ q=>q,fun _ ps q=>⟨#[],by rw [q]; simp⟩⟩
theorem Un.refl:Un fs ex H H h h:=Un.kept fun _ _ q=>q
theorem Un.laid (k:∀ b u,h.get? b=some u->h'.get? b=some u) (hp:h.objs.size<=a) (hn:H a=none):Un fs ex H (upd H a o) h h' where
 keep:=fun b u q _ _ _=>k b u q
 slot:=fun b u q _ _ _=>⟨u.slots,k b u q⟩
 free:=fun b u q n _=>by rw [ar (E6 (FI (E1 q) hp))]; exact n
 there:=fun b u q _=>⟨u,k b u q⟩
 tups:=fun b xs q=>by rw [ar (bz q hn)]; exact q
 frzs:=fun b u xs q=>by rw [ar (bz q hn)]; exact q
 tbls:=fun b ps q=>⟨#[],by rw [ar (bz q hn),q]; simp⟩
theorem Un.write (mu:Mut (H x)) (he:e=x\/H e=some (.own x)) (k:∀ b u,b≠e->h.get? b=some u->h'.get? b=some u) (heo:∃ u,h'.get? e=some u):Un fs ex H (upd H x o) h h':=by
 have hx:∀ b,H b=none->b≠x:=fun b n z=>by subst z; rw [n] at mu; exact mu
 have hb:∀ b,H b=none->b≠e:=fun b n z=>by
  subst z;rcases he with r | r
  ·exact hx b n r
  ·rw [n] at r; cases r
 have hm:∀ b u,H b=some u->¬ Mut (some u)->b≠x:=fun b u q nm z=>by subst z; rw [q] at mu; exact nm mu
 refine ⟨fun b u q n _ _=>k b u (hb b n) q,fun b u q n _ _=>⟨u.slots,k b u (hb b n) q⟩,fun b u q n _=>by rw [ar (hx b n)]; exact n,fun b u q _=>?_,
  fun b xs q=>by rw [ar (hm b _ q fun z=>z)]; exact q,fun b u xs q=>by rw [ar (hm b _ q fun z=>z)]; exact q,fun b ps q=>⟨#[],by rw [ar (hm b _ q fun z=>z),q]; simp⟩⟩
 by_cases hbe:b=e
 ·subst hbe; exact heo
 ·exact ⟨u,k b u hbe q⟩
end
noncomputable def trk (h:F6) (H:Hp):List Addr:=(F3 h.objs.size).filter fun a=>(H a).isSome
noncomputable def oA (h:F6) (H:Hp):Heap:=W.hideAll h (trk h H)
theorem vB (h:F6) (H:Hp):(oA h H).objs.size=h.objs.size:=W.hideAll_size _ _
theorem xU {h:F6} {H:Hp} {b:Δ} {o:Hu} (e:h.get? b=some o) (n:H b=none):(oA h H).get? b=some o :=
 W.hideAll_get _ e fun hm=>by
  have q:(H b).isSome=true:=(G1.mp hm).2;rw [n] at q; simp at q
theorem AQ {h:F6} {H:Hp} {b:Δ} {o:Hu} (e:(oA h H).get? b=some o):h.get? b=some o/\H b=none:=by
 have e':h.get? b=some o:=W.of_hideAll (trk h H) e;refine ⟨e',?_⟩
 cases q:H b with
 | none=>rfl
 | some x =>
  have hm:b∈trk h H:=G1.mpr ⟨Ip.mpr (E1 e'),by simp [q]⟩;have z:(oA h H).get? b=none:=W.hideAll_none (trk h H) hm;rw [z] at e; cases e
noncomputable def Ar (g h:F6) (L:Δ):List (Δ×Hu):=(F3 h.objs.size).filterMap fun a=>if a=L\/(g.get? a).isSome=true then none else (h.get? a).map fun o=>(a,o)
noncomputable def eC (g h:F6) (L d:Δ):List (Δ×Hu):=(Ar g h L).filter fun p=>decide (p.1≠d)
structure Mod (K:W.Frag) (mg:Str->Option χ) (base:F6):Prop where
 kin:K.In base
 glob:base.Ns Hh mg
 blt:∃ mb,base.Ns builtinsNs mb/\∀ x:Str,x≠"__name__"->mb x=GD x
 nolimit:base.NoLimit
structure Cx where
 prog:FP
 w:F0
 K:W.Frag
 mg:Str->Option χ
 base:F6
 A:Fv
 N:List Str
 s₀:AU
 H₀:Hp
 env:Lo
 outer:List Lo
 stack:List Lo
 ex:List Δ
 fn:Str->Bool
 calm:Bool
 pn:List (Δ×Hu)
 xe:χ->AU->Prop
noncomputable def frs (l:List Lo):List Addr:=l.filterMap (·.frame)
noncomputable abbrev Cx.fs (X:Cx):List Addr:=frs X.outer
def Vis (sc:KS) (x:Str):Prop:=sc.names.lookup x=some .local\/sc.names.lookup x=some .cell\/sc.names.lookup x=some .free
def Loc (sc:KS) (x:Str):Prop:=sc.names.lookup x=some .local\/sc.names.lookup x=some .cell
def EA (env:Lo) (h:F6) (m:Str->Option χ) (x:Str) (u:χ):Prop :=
 (env.kindOf x=some .local/\m x=some u)\/((env.kindOf x=some .cell\/env.kindOf x=some .free)/\∃ c,env.cells.lookup x=some c/\h.IsCell c (some u))
structure Cx.Ok (X:Cx):Prop where
 mod:Mod X.K X.mg X.base
 kind:X.env.scope.kind=.function
 glob:X.env.globals=Hh
 blt:X.env.builtins=builtinsNs
 above:X.s₀.heap.objs.size<=X.env.locals
 inj:∀ x y c,X.env.cells.lookup x=some c->X.env.cells.lookup y=some c->x=y
 has:∀ x,(X.env.kindOf x=some .cell\/X.env.kindOf x=some .free)->∃ c,X.env.cells.lookup x=some c
 cab:∀ x c,X.fn x=true->X.env.cells.lookup x=some c->X.s₀.heap.objs.size<=c
 hd:X.calm=true->X.A.handled=none
 frames:X.A.frames=some X.stack
 stk:X.stack=X.outer\/(X.stack=X.env::X.outer/\X.env.frame=some X.env.locals)
 exf:∀ b∈X.ex,b≠X.env.locals/\∀ x c,X.env.cells.lookup x=some c->c≠b
 bs:∀ b o,X.base.get? b=some o->X.s₀.heap.get? b=some o/\X.H₀ b=none
 bsz:X.base.objs.size<=X.s₀.heap.objs.size
 noex:∀ b o,X.base.get? b=some o->b∉X.ex
 exfs:∀ b∈X.ex,b∉X.fs
 funs:X.s₀.heap.FunFrames X.base X.outer
 frf:∀ b∈X.fs,X.H₀ b=none
structure Inv (X:Cx) (pins:List (Δ×Hu)) (σ:List (Option V)) (H:Hp) (s:AU):Prop where
 ok:X.Ok
 os:s.os=X.s₀.os
 bare:J2 s.gens
 base:Un X.fs X.ex X.H₀ H X.s₀.heap s.heap
 loc:∃ m,s.heap.Ns X.env.locals m/\∀ (i:Nat) (x:Str) (v:V),X.N[i]?=some x->σ[i]?=some (some v)->Vis X.env.scope x->∃ u,bj v u/\EA X.env s.heap m x u
 cell:∀ x c,X.env.cells.lookup x=some c->∃ v,s.heap.IsCell c v
 free:H X.env.locals=none
 freeC:∀ x c,X.env.cells.lookup x=some c->H c=none
 pin:∀ p∈X.pn++pins,s.heap.get? p.1=some p.2/\H p.1=none/\p.1≠X.env.locals/\p.1∉X.fs/\∀ v,p.2.data≠.cell v
 hok:HOk X.prog X.w H s.heap
 len:σ.length=X.N.length
section
variable {X:Cx} {pins:List (Δ×Hu)} {σ:List (Option V)} {H H':Hp} {s:AU} {h':F6}
theorem Cx.Ok.nofr (ok:X.Ok) {b:Δ} {o:Hu} (e:X.base.get? b=some o):b∉X.fs:=fun hb=>by
 have:=(ok.funs.mem hb).1
 rw [e] at this; cases this
theorem Inv.bs (I:Inv X pins σ H s):∀ b o,X.base.get? b=some o->s.heap.get? b=some o/\H b=none:=fun b o e =>
 ⟨I.base.keep b o (I.ok.bs b o e).1 (I.ok.bs b o e).2 (I.ok.nofr e) (I.ok.noex b o e),I.base.free b o (I.ok.bs b o e).1 (I.ok.bs b o e).2 (I.ok.noex b o e)⟩
theorem Inv.bk (I:Inv X pins σ H s):∀ b o,X.base.get? b=some o->s.heap.get? b=some o:=fun b o e=>(I.bs b o e).1
theorem Inv.mod (I:Inv X pins σ H s):Mod X.K X.mg X.base:=I.ok.mod
theorem Inv.kIn (I:Inv X pins σ H s):X.K.In s.heap:=I.ok.mod.kin.keeps I.bk
theorem Inv.lt (I:Inv X pins σ H s):X.env.locals<s.heap.objs.size:=let ⟨_,hn,_⟩:=I.loc; hn.lt
theorem Inv.sz (I:Inv X pins σ H s):X.s₀.heap.objs.size<=s.heap.objs.size:=Fe I.ok.above (LV I.lt)
theorem Inv.nofs (I:Inv X pins σ H s) {a:Δ} (h:s.heap.objs.size<=a):a∉X.fs:=fun hb=>by
 obtain ⟨_,o,ho,_⟩:=I.ok.funs.mem hb;exact absurd (FI (E1 ho) (Fe I.sz h)) (G_ _)
theorem Inv.cne (I:Inv X pins σ H s):∀ x c,X.env.cells.lookup x=some c->c≠X.env.locals:=fun x c e z=>by
 obtain ⟨v,o,ho,hd⟩:=I.cell x c e;obtain ⟨m,⟨o',es,ep,ho',hd',_⟩,_⟩:=I.loc;rw [z,ho'] at ho; cases ho; rw [hd'] at hd; cases hd
theorem Inv.funs (I:Inv X pins σ H s):s.heap.FunFrames X.base X.outer:=by
 have all:∀ (l:List Lo),(∀ b∈frs l,b∈X.fs)->X.s₀.heap.FunFrames X.base l->s.heap.FunFrames X.base l:=by
  intro l
  induction l with
  | nil => intro _ _; trivial
  | cons env r ih =>
   intro hs hl;obtain ⟨hk,⟨L,o,hf,hn,ho,hd⟩,hr⟩:=hl;have hL:L∈X.fs:=hs L (by unfold frs; rw [ID,hf]; exact θ);obtain ⟨sl,e⟩:=I.base.slot L o ho (I.ok.frf L hL) hL fun z=>I.ok.exfs L z hL;exact ⟨hk,⟨L,_,hf,hn,e,hd⟩,ih (fun b hb=>hs b (by unfold frs; rw [ID,hf]; exact Ξ _ hb)) hr⟩
 exact all X.outer (fun _ hb=>hb) I.ok.funs
theorem Inv.stack (I:Inv X pins σ H s):s.heap.FunFrames X.base X.stack:=by
 rcases I.ok.stk with e | ⟨e,hf⟩
 ·rw [e]; exact I.funs
 ·rw [e];obtain ⟨m,hn,_⟩:=I.loc;refine .cons (by rw [I.ok.kind]; decide) hf hn ?_ I.funs;exact Heap.get?_none_of_le (Fe I.ok.bsz I.ok.above)
theorem Inv.stkSub (I:Inv X pins σ H s):∀ b∈frs X.stack,b∈X.env.locals::X.fs:=fun b hb=>by
 rcases I.ok.stk with e | ⟨e,hf⟩
 ·rw [e] at hb; exact Ξ _ hb
 ·rw [e] at hb;unfold frs at hb;rw [ID,hf] at hb;exact hb
theorem Inv.stkFree (I:Inv X pins σ H s):∀ b∈frs X.stack,H b=none:=fun b hb=>by
 rcases BF.mp (I.stkSub b hb) with e | hb
 ·rw [e]; exact I.free
 ·obtain ⟨_,o,ho,_⟩:=I.ok.funs.mem hb;exact I.base.free b o ho (I.ok.frf b hb) fun z=>I.ok.exfs b z hb
theorem Inv.step {g':Array GenState} {t':Nat} {d':Drawn} {ch:List Δ} (I:Inv X pins σ H s)
  (hch:∀ b∈ch,(b∈X.ex\/X.s₀.heap.objs.size<=b)/\b≠X.env.locals/\(∀ x c,X.env.cells.lookup x=some c->c≠b)/\∀ p∈X.pn++pins,p.1≠b)
  (keep:∀ b o,b≠X.env.locals->b∉X.fs->b∉ch->s.heap.get? b=some o->H b=none->h'.get? b=some o)
  (slot:∀ b o,b≠X.env.locals->b∈X.fs->b∉ch->s.heap.get? b=some o->H b=none->∃ sl,h'.get? b=some { o with slots:=sl }) (free:∀ b o,b∉ch->s.heap.get? b=some o->H b=none->H' b=none)
  (there:∀ b o,b∉ch->s.heap.get? b=some o->∃ o',h'.get? b=some o')
  (tups:∀ b xs,H b=some (.tup xs)->H' b=some (.tup xs)) (frzs:∀ b o u,H b=some (.frz o u)->H' b=some (.frz o u)) (tbls:∀ b ps,H b=some (.tbl ps)->∃ more,H' b=some (.tbl (ps++more)))
  (ns:∀ m,s.heap.Ns X.env.locals m->h'.Ns X.env.locals m) (hok:HOk X.prog X.w H' h') (hg:J2 g') :
  Inv X pins σ H' { s with heap:=h',gens:=g',drawn:=d',toks:=t' }:=by
 have neL:∀ b o,X.s₀.heap.get? b=some o->b≠X.env.locals:=fun b o e=>E6 (FI (E1 e) I.ok.above);have neC:∀ b o,X.s₀.heap.get? b=some o->b∉X.ex->b∉ch:=fun b o e hx hb=>by
  rcases (hch b hb).1 with z | z
  ·exact hx z
  ·exact absurd (FI (E1 e) z) (G_ _)
 have cellK:∀ x c,X.env.cells.lookup x=some c->∀ v,s.heap.IsCell c v->h'.IsCell c v:=fun x c e v ⟨o,ho,hd⟩=>by
  have nch:c∉ch:=fun z=>(hch c z).2.2.1 x c e rfl;by_cases hc:c∈X.fs
  ·obtain ⟨sl,q⟩:=slot c o (I.cne x c e) hc nch ho (I.freeC x c e);exact ⟨_,q,hd⟩
  ·exact ⟨o,keep c o (I.cne x c e) hc nch ho (I.freeC x c e),hd⟩
 refine ⟨I.ok,I.os,hg,⟨fun b o e n hb hx=>?_,fun b o e n hb hx=>?_,fun b o e n hx=>?_,fun b o e hx=>?_,fun b xs e=>tups b xs (I.base.tups b xs e),fun b o xs e=>frzs b o xs (I.base.frzs b o xs e),fun b ps e=>?_⟩,?_,fun x c e=>?_,?_,fun x c e=>?_,fun p hp=>?_,hok,I.len⟩
 ·exact keep b o (neL b o e) hb (neC b o e hx) (I.base.keep b o e n hb hx) (I.base.free b o e n hx)
 ·obtain ⟨sl,e1⟩:=I.base.slot b o e n hb hx;obtain ⟨sl',e2⟩:=slot b _ (neL b o e) hb (neC b o e hx) e1 (I.base.free b o e n hx);exact ⟨sl',e2⟩
 ·obtain ⟨o',e1⟩:=I.base.there b o e hx;exact free b o' (neC b o e hx) e1 (I.base.free b o e n hx)
 ·obtain ⟨o',e1⟩:=I.base.there b o e hx;exact there b o' (neC b o e hx) e1
 ·obtain ⟨m1,e1⟩:=I.base.tbls b ps e;obtain ⟨m2,e2⟩:=tbls b _ e1;exact ⟨m1++m2,by rw [e2,NU]⟩
 ·obtain ⟨m,hn,hl⟩:=I.loc;refine ⟨m,ns m hn,fun i x v e1 e2 e3=>?_⟩;obtain ⟨u,r,l⟩:=hl i x v e1 e2 e3;refine ⟨u,r,?_⟩;rcases l with l | ⟨k,c,e,z⟩
  ·exact .inl l
  ·exact .inr ⟨k,c,e,cellK x c e _ z⟩
 ·obtain ⟨v,z⟩:=I.cell x c e;exact ⟨v,cellK x c e v z⟩
 ·obtain ⟨m,⟨o,_,_,ho,_⟩,_⟩:=I.loc;exact free _ o (fun z=>(hch _ z).2.1 rfl) ho I.free
 ·obtain ⟨v,o,ho,hd⟩:=I.cell x c e;exact free c o (fun z=>(hch c z).2.2.1 x c e rfl) ho (I.freeC x c e)
 ·obtain ⟨e,n,ne,nf,d⟩:=I.pin p hp;have nch:p.1∉ch:=fun z=>(hch p.1 z).2.2.2 p hp rfl;exact ⟨keep p.1 p.2 ne nf nch e n,free p.1 p.2 nch e n,ne,nf,d⟩
theorem Inv.un {t':Nat} (I:Inv X pins σ H s) (u:Un X.fs [] H H' s.heap h') (hok:HOk X.prog X.w H' h'):Inv X pins σ H' { s with heap:=h',toks:=t' }:=by
 obtain ⟨m,⟨o,es,ep,ho,r⟩,_⟩:=id I.loc;obtain ⟨sl,hL⟩:=u.any ho I.free (by simp);exact I.step (g':=s.gens) (d':=s.drawn) (ch:=[]) (fun _ z=>nomatch z) (fun b o _ hb _ e n=>u.keep b o e n hb (by simp)) (fun b o _ hb _ e n=>u.slot b o e n hb (by simp)) (fun b o _ e n=>u.free b o e n (by simp)) (fun b o _ e=>u.there b o e (by simp)) u.tups u.frzs u.tbls (fun m' hm=>by
  obtain ⟨o',es',ep',ho',r'⟩:=hm;rw [ho] at ho'; cases ho';exact ⟨_,es',ep',hL,r'⟩) hok I.bare
theorem Inv.call {g':Array GenState} {t':Nat} {d':Drawn} {ch:List Δ} (I:Inv X pins σ H s) (u:Un (frs X.stack) ch H H' s.heap h') (hok:HOk X.prog X.w H' h') (hg:J2 g')
  (hch:∀ b∈ch,(b∈X.ex\/X.s₀.heap.objs.size<=b)/\b≠X.env.locals/\(∀ x c,X.env.cells.lookup x=some c->c≠b)/\∀ p∈X.pn++pins,p.1≠b) :
  Inv X pins σ H' { s with heap:=h',gens:=g',drawn:=d',toks:=t' }:=by
 obtain ⟨m,⟨o,es,ep,ho,r⟩,_⟩:=id I.loc;obtain ⟨sl,hL⟩:=u.any ho I.free fun z=>(hch _ z).2.1 rfl;exact I.step (ch:=ch) hch (fun b o hL hb hc e n=>u.keep b o e n (fun z=>(BF.mp (I.stkSub b z)).elim hL hb) hc) (fun b o _ _ hc e n=>u.any e n hc) (fun b o hc e n=>u.free b o e n hc) (fun b o hc e=>u.there b o e hc) u.tups u.frzs u.tbls (fun m' hm=>by
  obtain ⟨o',es',ep',ho',r'⟩:=hm;rw [ho] at ho'; cases ho';exact ⟨_,es',ep',hL,r'⟩) hok hg
theorem Inv.turned {t':Nat} {it:Δ} (I:Inv X pins σ H s) (k:∀ b o,b≠it->s.heap.get? b=some o->h'.get? b=some o) (hn:H it=none) (hL:it≠X.env.locals)
  (h1:it∈X.ex\/X.s₀.heap.objs.size<=it) (h2:∀ x c,X.env.cells.lookup x=some c->c≠it) (h3:∀ p∈X.pn++pins,p.1≠it):Inv X pins σ H { s with heap:=h',toks:=t' }:=by
 have nit:∀ b u,H b=some u->b≠it:=fun b u e z=>by rw [z,hn] at e; cases e
 refine I.step (g':=s.gens) (d':=s.drawn) (ch:=[it]) (fun b hb=>?_) (fun b o _ _ hc e _=>k b o (fun z=>hc (by simp [z])) e) (fun b o _ _ hc e _=>⟨o.slots,k b o (fun z=>hc (by simp [z])) e⟩) (fun _ _ _ _ n=>n)
  (fun b o hc e=>⟨o,k b o (fun z=>hc (by simp [z])) e⟩) (fun _ _ e=>e) (fun _ _ _ e=>e) (fun b ps e=>⟨#[],by rw [e]; simp⟩) (fun m hm=>?_) (fun b u e=>?_) I.bare
 ·have e:b=it:=by simpa using hb
  subst e;exact ⟨h1,hL,h2,h3⟩
 ·obtain ⟨o,es,ep,ho,r⟩:=hm;exact ⟨o,es,ep,k _ o (Gd hL) ho,r⟩
 ·refine (I.hok b u e).stay (fun c v hc q=>k c v ?_ q) (fun _ q=>q) fun _ _ q=>q;rcases hc with z | z
  ·rw [z]; exact nit b u e
  ·exact nit c _ z
theorem Inv.tok (I:Inv X pins σ H s) (t:Nat):Inv X pins σ H { s with toks:=t }:=I.un (h':=s.heap) (t':=t) Un.refl I.hok
theorem Inv.kept {t':Nat} (I:Inv X pins σ H s) (k:∀ b u,s.heap.get? b=some u->h'.get? b=some u):Inv X pins σ H { s with heap:=h',toks:=t' }:=I.un (Un.kept k) (I.hok.kept k)
theorem Inv.laid {a:Δ} {o:HO} {t':Nat} (I:Inv X pins σ H s) (k:∀ b u,s.heap.get? b=some u->h'.get? b=some u) (hp:s.heap.objs.size<=a) (new:bL X.prog X.w (upd H a o) h' a o) :
  Inv X pins σ (upd H a o) { s with heap:=h',toks:=t' }:=I.un (Un.laid k hp (I.hok.fresh hp)) (I.hok.laid k hp new)
theorem Inv.write {x e:Δ} {o:HO} {t':Nat} (I:Inv X pins σ H s) (mu:Mut (H x)) (he:e=x\/H e=some (.own x)) (k:∀ b u,b≠e->s.heap.get? b=some u->h'.get? b=some u) (heo:∃ u,h'.get? e=some u)
  (new:bL X.prog X.w (upd H x o) h' x o):Inv X pins σ (upd H x o) { s with heap:=h',toks:=t' }:=I.un (Un.write mu he k heo) (I.hok.write mu he k heo new)
theorem Inv.pins_of {pins':List (Δ×Hu)} (I:Inv X pins σ H s) (h:∀ p∈pins',s.heap.get? p.1=some p.2/\H p.1=none/\p.1≠X.env.locals/\p.1∉X.fs/\∀ v,p.2.data≠.cell v):Inv X pins' σ H s :=
 ⟨I.ok,I.os,I.bare,I.base,I.loc,I.cell,I.free,I.freeC,fun p hp=>(E_.mp hp).elim (fun z=>I.pin p (Ff _ z)) (h p),I.hok,I.len⟩
theorem lD {N:List Str} (hN:N.Nodup) {i j:Nat} {x:Str} (a:N[i]?=some x) (b:N[j]?=some x):i=j:=by
 obtain ⟨h1,e1⟩:=C_.mp a;obtain ⟨h2,e2⟩:=C_.mp b;exact (List.getElem_inj hN).mp (e1.trans e2.symm)
theorem wX {M:Jo} {A:Fv} {E:χ->AU->Prop} {i:Nat} {x:Str} {v:V} {u:χ} {Q:Unit->AU->Prop} (I:Inv X pins σ H s) (hN:X.N.Nodup) (hi:X.N[i]?=some x) (hx:Loc X.env.scope x) (r:bj v u)
    (h:∀ s',Inv X pins (σ.set i (some v)) H s'->(∃ a,H_ a s.heap s'.heap/\(a=X.env.locals\/X.env.cells.lookup x=some a))->Q () s') (hf:X.fn x=true\/X.env.scope.names.lookup x=some .local:=by first | exact .inl rfl | exact .inr rfl | assumption):FD M A (storeName X.env x u) Q E s:=by
  obtain ⟨m,hn,hl⟩:=id I.loc;have hcls:(X.env.scope.kind==.class||(X.env.scope.kind==.module&&X.env.locals != X.env.globals))=false:=by rw [I.ok.kind]; rfl
  have hiσ:i<σ.length:=by rw [I.len]; exact (C_.mp hi).1
  have cne:=I.cne;have tracked:∀ {a:Δ} {h':F6},(∃ o,s.heap.get? a=some o/\H a=none)->H_ a s.heap h'->HOk X.prog X.w H h':=fun {a h'} ha hs b ob e=>by
    obtain ⟨_,_,hfree⟩:=ha;refine (I.hok b ob e).stay (fun c w' hc q=>(hs.2 c ?_).trans q) (fun _ q=>q) fun _ _ q=>q;rintro rfl;rcases hc with rfl | hc
    · rw [hfree] at e; cases e
    · rw [hfree] at hc; cases hc
  rcases hx with hk | hk
  · refine wpAny_storeName_local hk hn (fun h' hn' hs=>?_) hcls
    obtain ⟨oL,_,_,hoL,_⟩:=id hn;refine h _ ⟨I.ok,I.os,I.bare,⟨fun b o e n hb hx=>?_,fun b o e n hb hx=>?_,I.base.free,fun b o e hx=>?_,I.base.tups,I.base.frzs,I.base.tbls⟩,⟨_,hn',fun j y v' e1 e2 e3=>?_⟩,fun y c e=>?_,I.free,I.freeC,fun p hp=>?_,tracked ⟨oL,hoL,I.free⟩ hs,by simpa using I.len⟩ ⟨_,hs,.inl rfl⟩
    · exact (hs.2 b (E6 (FI (E1 e) I.ok.above))).trans (I.base.keep b o e n hb hx)
    · obtain ⟨sl,e1⟩:=I.base.slot b o e n hb hx
      exact ⟨sl,(hs.2 b (E6 (FI (E1 e) I.ok.above))).trans e1⟩
    · obtain ⟨o',e1⟩:=I.base.there b o e hx
      exact ⟨o',(hs.2 b (E6 (FI (E1 e) I.ok.above))).trans e1⟩
    · by_cases hj:j=i
      · subst hj
        rw [hi] at e1; cases e1;rw [JH hiσ] at e2
        cases e2;exact ⟨u,r,.inl ⟨hk,by simp⟩⟩
      · rw [Kv (Gd hj)] at e2
        obtain ⟨u',r',q⟩:=hl j y v' e1 e2 e3;refine ⟨u',r',?_⟩;rcases q with ⟨k,e⟩ | ⟨k,c,e,z⟩
        · refine .inl ⟨k,?_⟩
          have:y≠x:=fun e=>hj (lD hN e1 (e ▸ hi))
          simp [this,e]
        · exact .inr ⟨k,c,e,z.sameBut hs (cne y c e)⟩
    · obtain ⟨w',z⟩:=I.cell y c e
      exact ⟨w',z.sameBut hs (cne y c e)⟩
    · obtain ⟨e,n,ne,nf,d⟩:=I.pin p hp
      exact ⟨(hs.2 p.1 ne).trans e,n,ne,nf,d⟩
  · have hfn:X.fn x=true:=by
      rcases hf with z | z
      · exact z
      · rw [z] at hk; cases hk
    obtain ⟨c,hc⟩:=I.ok.has x (.inl hk);obtain ⟨w',z⟩:=I.cell x c hc;refine wpAny_storeName_cell I.ok.kind hk hc z (fun h' hc' hs=>?_);obtain ⟨oc,hoc,hocd⟩:=id z;refine h { s with heap:=h' } ⟨I.ok,I.os,I.bare,⟨fun b o e n hb hx=>?_,fun b o e n hb hx=>?_,I.base.free,fun b o e hx=>?_,I.base.tups,I.base.frzs,I.base.tbls⟩,⟨m,hn.sameBut hs (Gd (cne x c hc)),fun j y v' e1 e2 e3=>?_⟩,fun y c' e=>?_,I.free,I.freeC,fun p hp=>?_,tracked ⟨oc,hoc,I.freeC x c hc⟩ hs,by simpa using I.len⟩ ⟨c,hs,.inr hc⟩
    · exact (hs.2 b (E6 (FI (E1 e) (I.ok.cab x c hfn hc)))).trans (I.base.keep b o e n hb hx)
    · obtain ⟨sl,e1⟩:=I.base.slot b o e n hb hx
      exact ⟨sl,(hs.2 b (E6 (FI (E1 e) (I.ok.cab x c hfn hc)))).trans e1⟩
    · obtain ⟨o',e1⟩:=I.base.there b o e hx
      exact ⟨o',(hs.2 b (E6 (FI (E1 e) (I.ok.cab x c hfn hc)))).trans e1⟩
    · by_cases hj:j=i
      · subst hj
        rw [hi] at e1; cases e1;rw [JH hiσ] at e2
        cases e2;exact ⟨u,r,.inr ⟨.inl hk,c,hc,hc'⟩⟩
      · rw [Kv (Gd hj)] at e2
        obtain ⟨u',r',q⟩:=hl j y v' e1 e2 e3;refine ⟨u',r',?_⟩;rcases q with q | ⟨k,c',e,z'⟩
        · exact .inl q
        · refine .inr ⟨k,c',e,z'.sameBut hs ?_⟩
          rintro rfl;exact hj (lD hN e1 (I.ok.inj _ _ _ e hc ▸ hi))
    · by_cases hcc:c'=c
      · subst hcc; exact ⟨_,hc'⟩
      · obtain ⟨w2,z2⟩:=I.cell y c' e
        exact ⟨w2,z2.sameBut hs hcc⟩
    · obtain ⟨e,n,ne,nf,d⟩:=I.pin p hp
      refine ⟨(hs.2 p.1 ?_).trans e,n,ne,nf,d⟩;intro q;rw [q,hoc] at e;have q':oc=p.2:=Fo e;exact d w' (by rw [<- q']; exact hocd)
theorem jv {M:Jo} {A:Fv} {E:χ->AU->Prop} {i:Nat} {x:Str} {v:V} {u:χ} {Q:Unit->AU->Prop} (I:Inv X pins σ H s) (hN:X.N.Nodup) (hi:X.N[i]?=some x) (hx:Loc X.env.scope x) (r:bj v u)
  (h:∀ s',Inv X pins (σ.set i (some v)) H s'->Q () s') (hf:X.fn x=true\/X.env.scope.names.lookup x=some .local:=by first | exact .inl rfl | exact .inr rfl | assumption):FD M A (storeName X.env x u) Q E s :=
 wX I hN hi hx r (fun s' I' _=>h s' I') hf
theorem Inv.call' {s':AU} {ch:List Δ} (I:Inv X pins σ H s) (ho:s'.os=s.os) (u:Un (frs X.stack) ch H H' s.heap s'.heap) (hok:HOk X.prog X.w H' s'.heap) (hg:J2 s'.gens)
  (hch:∀ b∈ch,(b∈X.ex\/X.s₀.heap.objs.size<=b)/\b≠X.env.locals/\(∀ x c,X.env.cells.lookup x=some c->c≠b)/\∀ p∈X.pn++pins,p.1≠b):Inv X pins σ H' s':=by
 obtain ⟨h',g',d',t',o'⟩:=s';have e:o'=s.os:=ho;subst e;exact I.call (g':=g') (t':=t') (d':=d') u hok hg hch
end
noncomputable abbrev XK:=χ->Option Δ->Hp->Prop
noncomputable abbrev St:=List (Option V)
noncomputable abbrev VK:=V->Hp->Prop
noncomputable abbrev TE:=St->Hp->VK->Prop
noncomputable abbrev TT:=St->Hp->(Bool->Hp->Prop)->Prop
noncomputable abbrev TA:=St->Hp->(List V->Hp->Prop)->Prop
structure dh where
 nx:St->Hp->Prop
 rt:VK
 bk:St->Hp->Prop:=fun _ _=>False
 ct:St->Hp->Prop:=fun _ _=>False
noncomputable abbrev TS:=dh->St->Hp->Prop
def EP (X:Cx) (pins:List (Δ×Hu)) (σ:St) (Q:VK) (u:χ) (s':AU):Prop:=∃ v H',Inv X pins σ H' s'/\bj v u/\Q v H'
def TP (X:Cx) (pins:List (Δ×Hu)) (σ:St) (Q:Bool->Hp->Prop) (b:Bool) (s':AU):Prop:=∃ H',Inv X pins σ H' s'/\Q b H'
def AP (X:Cx) (pins:List (Δ×Hu)) (σ:St) (Q:List V->Hp->Prop) (us:List χ) (s':AU):Prop:=∃ vs H',Inv X pins σ H' s'/\Vals vs us/\Q vs H'
def SP (X:Cx) (pins:List (Δ×Hu)) (D:dh) (f:Flow) (s':AU):Prop :=
 match f with
 | .next=>∃ σ' H',Inv X pins σ' H' s'/\D.nx σ' H'
 | .brk=>∃ σ' H',Inv X pins σ' H' s'/\D.bk σ' H'
 | .cont=>∃ σ' H',Inv X pins σ' H' s'/\D.ct σ' H'
 | .ret u=>∃ v σ' H',Inv X pins σ' H' s'/\bj v u/\D.rt v H'
def PE (X:Cx) (e:GO) (t:TE):Prop :=
 ∀ (pins:List (Δ×Hu)) (s:AU) (σ:St) (H:Hp) (Q:VK),Inv X pins σ H s->t σ H Q->FD (FQ X.prog X.w) X.A (Hs e X.env) (EP X pins σ Q) X.xe s
def PT (X:Cx) (e:GO) (t:TT):Prop :=
 ∀ (pins:List (Δ×Hu)) (s:AU) (σ:St) (H:Hp) (Q:Bool->Hp->Prop),Inv X pins σ H s->t σ H Q->FD (FQ X.prog X.w) X.A (isTrue e X.env (Hs e X.env)) (TP X pins σ Q) X.xe s
def PW (X:Cx) (e:GO) (t:TT):Prop :=
 ∀ (whole:LD χ) (pins:List (Δ×Hu)) (s:AU) (σ:St) (H:Hp) (Q:Bool->Hp->Prop),Inv X pins σ H s->t σ H Q->FD (FQ X.prog X.w) X.A (isTrue e X.env whole) (TP X pins σ Q) X.xe s
theorem PW.pt {X:Cx} {e:GO} {t:TT} (h:PW X e t):PT X e t:=h _
def PA (X:Cx) (es:List GO) (t:TA):Prop :=
 ∀ (pos:Jf) (pins:List (Δ×Hu)) (s:AU) (σ:St) (H:Hp) (Q:List V->Hp->Prop),Inv X pins σ H s->t σ H Q->FD (FQ X.prog X.w) X.A (spliced (Ih pos (Fq es X.env))) (AP X pins σ Q) X.xe s
def PS (X:Cx) (st:Jz) (t:TS):Prop :=
 ∀ (pins:List (Δ×Hu)) (s:AU) (σ:St) (H:Hp) (D:dh),Inv X pins σ H s->t D σ H->FD (FQ X.prog X.w) X.A (exec st X.env) (SP X pins D) X.xe s
def PSs (X:Cx) (st:List Jz) (t:TS):Prop :=
 ∀ (pins:List (Δ×Hu)) (s:AU) (σ:St) (H:Hp) (D:dh),Inv X pins σ H s->t D σ H->FD (FQ X.prog X.w) X.A (execs st X.env) (SP X pins D) X.xe s
theorem thn {α:Type} {t:LD α} {Q Q':α->AU->Prop} {M:Jo} {A:Fv} {E:χ->AU->Prop} {s:AU} (h:FD M A t Q E s) (hQ:∀ a s,Q a s->Q' a s):FD M A t Q' E s:=GW h hQ fun _ _ x=>x
section
variable {X:Cx}
def DE (i:Nat):TE:=fun σ H Q=>∃ v,σ[i]?=some (some v)/\Q v H
def tC (v:V):TE:=fun _ H Q=>Q v H
theorem C0 {i:Nat} {x:Str} {pos:Jf} (hN:X.N[i]?=some x) (hv:Vis X.env.scope x) (hd:(x==("__debug__":Str))=false:=by decide) (hcd:(x==("__classdict__":Str))=false:=by decide):PE X (.Name x pos) (DE i):=by
 intro pins s σ H Q I h;obtain ⟨v,e,h⟩:=h;obtain ⟨m,hn,hl⟩:=I.loc;obtain ⟨u,r,l⟩:=hl i x v hN e hv;have fin:EP X pins σ Q u s:=⟨v,H,I,r,h⟩
 rcases l with ⟨hk,hm⟩ | ⟨hk,c,hc,hcell⟩
 ·exact wpAny_Name (wpAny_loadName_local I.ok.kind hk hn hm fin) hd
 ·rcases hk with hk | hk
  ·exact wpAny_Name (wpAny_loadName_cell I.ok.kind hk hc hcell fin) hd
  ·exact wpAny_Name (wpAny_loadName_free I.ok.kind hk hc hcell fin hcd) hd
theorem ag {i j pos}:PE X (.Constant (.int i) j pos) (tC (.int i)):=fun _ _ _ H _ I h=>wpAny_Constant_int ⟨.int i,H,I.tok _,⟨_,rfl⟩,h⟩
theorem dE {b j pos}:PE X (.Constant (.bool b) j pos) (tC (.bl b)):=fun _ _ _ H _ I h=>Constant_bool ⟨.bl b,H,I,rfl,h⟩
theorem jI {j pos}:PE X (.Constant .none j pos) (tC .non):=fun _ _ _ H _ I h=>Constant_none ⟨.non,H,I,rfl,h⟩
theorem bh {x j pos}:PE X (.Constant (.str x) j pos) (tC (.str x)):=fun _ _ _ H _ I h=>Calls.Constant_str ⟨.str x,H,I.tok _,⟨_,rfl⟩,h⟩
def Gl (X:Cx) (x:Str):Prop:=X.env.kindOf x=some .globalImplicit
theorem fK {E:χ->AU->Prop} {pins:List (Δ×Hu)} {s:AU} {σ:St} {H:Hp} {x:Str} {u:χ} {pos:Jf} {Q:χ->AU->Prop} (I:Inv X pins σ H s) (hg:Gl X x) (hm:X.mg x=some u) (h:Q u s)
  (hd:(x==("__debug__":Str))=false:=by decide):FD (FQ X.prog X.w) X.A (Hs (.Name x pos) X.env) Q E s :=
 L8 I.ok.kind hg (Calls.loadGlobal_global (by rw [I.ok.glob]; exact I.mod.glob.keeps I.bk) hm h) hd
theorem fJ {E:χ->AU->Prop} {pins:List (Δ×Hu)} {s:AU} {σ:St} {H:Hp} {x:Str} {u:χ} {pos:Jf} {Q:χ->AU->Prop} (I:Inv X pins σ H s) (hg:Gl X x) (hm:X.mg x=none) (hv:GD x=some u) (h:Q u s)
  (hn:x≠"__name__":=by decide) (hd:(x==("__debug__":Str))=false:=by decide):FD (FQ X.prog X.w) X.A (Hs (.Name x pos) X.env) Q E s:=by
 obtain ⟨mb,h1,h2⟩:=I.mod.blt;exact L8 I.ok.kind hg (Calls.loadGlobal_builtin (by rw [I.ok.glob]; exact I.mod.glob.keeps I.bk) hm (by rw [I.ok.blt]; exact h1.keeps I.bk) ((h2 x hn).trans hv) h) hd
theorem uI {x:Str} {v:V} {u:χ} {pos:Jf} (hg:Gl X x) (hm:X.mg x=some u) (r:bj v u) (hd:(x==("__debug__":Str))=false:=by decide):PE X (.Name x pos) (tC v) :=
 fun _ _ _ H _ I h=>fK I hg hm ⟨v,H,I,r,h⟩ hd
theorem cu {x:Str} {v:V} {u:χ} {pos:Jf} (hg:Gl X x) (hm:X.mg x=none) (hv:GD x=some u) (r:bj v u) (hn:x≠"__name__":=by decide) (hd:(x==("__debug__":Str))=false:=by decide):PE X (.Name x pos) (tC v) :=
 fun _ _ _ H _ I h=>fJ I hg hm hv ⟨v,H,I,r,h⟩ hn hd
variable {a b:GO} {ta tb:TE} {pos:Jf}
def PC (X:Cx) (op:M9) (a b:GO) (t:TE):Prop :=
 ∀ (pins:List (Δ×Hu)) (s:AU) (σ:St) (H:Hp) (Q:VK),Inv X pins σ H s->t σ H Q ->
  FD (FQ X.prog X.w) X.A (Hs a X.env) (fun v s₁=>FD (FQ X.prog X.w) X.A (Hs b X.env) (fun u s₂=>FD (FQ X.prog X.w) X.A (Gk op v u) (EP X pins σ Q) X.xe s₂) X.xe s₁) X.xe s
def tB (t:TE):TT:=fun σ H Q=>t σ H fun x H1=>∃ c,x=.bl c/\Q c H1
theorem yX {op:M9} {t:TE} (h:PC X op a b t) (h1:JF op b=false:=by first | exact nobehind _ (by decide) (by decide) | rfl):PT X (.Compare a [op] [b] pos) (tB t):=by
 intro pins s σ H Q I hw;refine wpAny_isTrue_Compare1 (thn (h pins s σ H _ I hw) fun v s1 h1=>thn h1 fun u s2 h2=>thn h2 fun c s3 ⟨x,H1,I1,r1,q1⟩=>?_) h1;obtain ⟨d,rfl,q⟩:=q1
 cases r1;exact Gp ⟨H1,I1,q⟩
theorem aZ {e:GO} {t:TE} (h:PE X e t) (he:∀ whole,isTrue e X.env whole=(do let v <- whole; standAt e.pos; Mp [v] (truthy v)):=by intro _; rfl):PT X e (tB t):=by
 intro pins s σ H Q I hw;refine isTrue_plain (thn (h pins s σ H _ I hw) fun v s1 ⟨x,H1,I1,r1,q1⟩=>?_) (he _);obtain ⟨d,rfl,q⟩:=q1
 cases r1;exact Gp ⟨H1,I1,q⟩
variable {tA tB':TT} {eC:List GO}
def Ej (t u:TT):TT:=fun σ H Q=>t σ H fun c H1=>if c=true then u σ H1 Q else Q false H1
def tOr (t u:TT):TT:=fun σ H Q=>t σ H fun c H1=>if c=true then Q true H1 else u σ H1 Q
def Ep (t:TT):TT:=fun σ H Q=>t σ H fun c H1=>Q (!c) H1
theorem dQ (ha:PT X a tA):PW X (.BoolOp .And [a] pos) tA:=by
 intro wh pins s σ H Q I h;refine isTrue_and (thn (ha pins s σ H Q I h) fun c s1 e=>?_)
 cases c with
 | true=>exact isTrue_and_nil e
 | false=>exact e
theorem gy (ha:PT X a tA):PW X (.BoolOp .Or [a] pos) tA:=by
 intro wh pins s σ H Q I h;refine isTrue_or (thn (ha pins s σ H Q I h) fun c s1 e=>?_)
 cases c with
 | false=>exact isTrue_or_nil e
 | true=>exact e
theorem fS (ha:PT X a tA) (hb:PW X (.BoolOp .And (b::eC) pos) tB'):PW X (.BoolOp .And (a::b::eC) pos) (Ej tA tB'):=by
 intro wh pins s σ H Q I h;refine isTrue_and (thn (ha pins s σ H _ I h) fun c s1 ⟨H1,I1,q1⟩=>?_)
 cases c with
 | true=>exact hb wh pins s1 σ H1 Q I1 q1
 | false=>exact ⟨H1,I1,q1⟩
theorem jk (ha:PT X a tA) (hb:PW X (.BoolOp .Or (b::eC) pos) tB'):PW X (.BoolOp .Or (a::b::eC) pos) (tOr tA tB'):=by
 intro wh pins s σ H Q I h;refine isTrue_or (thn (ha pins s σ H _ I h) fun c s1 ⟨H1,I1,q1⟩=>?_)
 cases c with
 | true=>exact ⟨H1,I1,q1⟩
 | false=>exact hb wh pins s1 σ H1 Q I1 q1
theorem bX (ha:PT X a tA):PT X (.UnaryOp .Not a pos) (Ep tA):=by
 intro pins s σ H Q I h;exact isTrue_not (ha pins s σ H (fun c H1=>Q (!c) H1) I h)
def B8 (ta tb:TE):TE:=fun σ H Q=>ta σ H fun x H1=>∃ c,x=.bl c/\if c=true then tb σ H1 Q else Q (.bl false) H1
def Cf (ta:TE):TE:=fun σ H Q=>ta σ H fun x H1=>∃ c,x=.bl c/\Q (.bl (!c)) H1
theorem iE {op} {t:TE} (h:PE X a t):PE X (.BoolOp op [a] pos) t:=fun pins s σ H Q I hw=>BoolOp_one (h pins s σ H Q I hw)
theorem gr (ha:PE X a ta) (hb:PE X (.BoolOp .And (b::eC) pos) tb):PE X (.BoolOp .And (a::b::eC) pos) (B8 ta tb):=by
 intro pins s σ H Q I h;refine BoolOp_and (thn (ha pins s σ H _ I h) fun v s1 ⟨x,H1,I1,r1,q1⟩=>?_);obtain ⟨c,rfl,q1⟩:=q1
 cases r1;refine Gp ?_
 cases c with
 | true=>exact hb pins s1 σ H1 Q I1 q1
 | false=>exact ⟨.bl false,H1,I1,rfl,q1⟩
theorem CZ (ha:PE X a ta):PE X (.UnaryOp .Not a pos) (Cf ta):=by
 intro pins s σ H Q I h;refine UnaryOp_ (thn (ha pins s σ H _ I h) fun v s1 ⟨x,H1,I1,r1,q1⟩=>?_);obtain ⟨c,rfl,q1⟩:=q1
 cases r1;exact not_of (Gp ⟨.bl (!c),H1,I1,rfl,q1⟩)
def tIf (t:TT) (ta tb:TE):TE:=fun σ H Q=>t σ H fun c H1=>if c=true then ta σ H1 Q else tb σ H1 Q
theorem qU {c:GO} (hc:PT X c tA) (ha:PE X a ta) (hb:PE X b tb):PE X (.IfExp c a b pos) (tIf tA ta tb):=by
 intro pins s σ H Q I h;refine wpAny_IfExp (thn (hc pins s σ H _ I h) fun d s1 ⟨H1,I1,q1⟩=>?_)
 cases d with
 | true=>exact ha pins s1 σ H1 Q I1 q1
 | false=>exact hb pins s1 σ H1 Q I1 q1
end
def SqL (K:W.Frag) (H:Hp) (a:Δ) (xs:List V):Prop :=
 Rd H a (.lst xs) \/
  ∃ (o:Hu) (its:Array χ) (n:Nat),K.lookup a=some o/\o.cls=.type "list"/\o.dict=none/\o.data=.seq its n/\its.size<=E4/\Vals xs its.toList
def SqT (K:W.Frag) (H:Hp) (a:Δ) (xs:List V):Prop :=
 Rd H a (.tup xs) \/
  ∃ (o:Hu) (its:Array χ) (n:Nat),K.lookup a=some o/\o.cls=.type "tuple"/\o.data=.seq its n/\its.size<=E4/\Vals xs its.toList
noncomputable def EE:χ->Option V
 | .none=>some .non
 | .bool b=>some (.bl b)
 | .int i _=>some (.int i)
 | .str x _=>some (.str x)
 | .bytes b _=>some (.byt b)
 | .float b _=>some (.flt b)
 | .ref a=>some (.ref a)
 | .type n=>some (.ty n)
 | _=>none
theorem bj.abs {x:V} {u:χ} (r:bj x u):EE u=some x:=by
 cases x with
 | non=>cases r; rfl
 | bl _=>cases r; rfl
 | int _=>obtain ⟨t,rfl⟩:=r; rfl
 | str _=>obtain ⟨t,rfl⟩:=r; rfl
 | byt _=>obtain ⟨t,rfl⟩:=r; rfl
 | flt _=>obtain ⟨t,rfl⟩:=r; rfl
 | ref _=>cases r; rfl
 | ty _=>cases r; rfl
theorem bj.inj {x y:V} {u:χ} (r:bj x u) (q:bj y u):x=y:=Fo (r.abs.symm.trans q.abs)
theorem Vals.inj:∀ {xs ys:List V} {us:List χ},Vals xs us->Vals ys us->xs=ys
 | _,_,_,.nil,.nil=>rfl
 | _,_,_,.cons r t,.cons r' t'=>by rw [r.inj r',Vals.inj t t']
section
variable {X:Cx} {pins:List (Δ×Hu)} {σ:St} {H:Hp} {s:AU} {a:Δ} {xs ys:List V}
theorem SqL.of {K:W.Frag} (h:H a=some (.lst xs)):SqL K H a xs:=.inl (.inl h)
theorem SqT.of {K:W.Frag} (h:H a=some (.tup xs)):SqT K H a xs:=.inl (.inl h)
theorem Inv.list (I:Inv X pins σ H s) (h:SqL X.K H a xs):∃ its:List χ,Vals xs its/\PlainL s.heap a its.toArray/\xs.length<=sizeLine:=by
 rcases h with h | ⟨o,its,n,hk,hc,hd,hs,hz,r⟩
 ·obtain ⟨z,its,n,r,e⟩:=h.ok I.hok;exact ⟨its,r,⟨_,n,e,rfl,rfl,rfl⟩,z⟩
 ·refine ⟨its.toList,r,⟨o,n,I.kIn a o hk,hc,hd,by simpa using hs⟩,?_⟩;have e:=r.length;simp only [FT] at e;omega
theorem Inv.tuple (I:Inv X pins σ H s) (h:SqT X.K H a xs):∃ its:List χ,Vals xs its/\IsTup s.heap a its.toArray/\xs.length<=sizeLine:=by
 rcases h with h | ⟨o,its,n,hk,hc,hs,hz,r⟩
 ·obtain ⟨z,its,r,p⟩:=h.ok I.hok;exact ⟨its,r,p,z⟩
 ·refine ⟨its.toList,r,⟨o,I.kIn a o hk,hc,n,by simpa using hs⟩,?_⟩;have e:=r.length;simp only [FT] at e;omega
theorem Inv.list_inj (I:Inv X pins σ H s) (h:SqL X.K H a xs) (h':SqL X.K H a ys):xs=ys:=by
 obtain ⟨its,r,⟨o,n,e,_,_,d⟩,_⟩:=I.list h;obtain ⟨its',r',⟨o',n',e',_,_,d'⟩,_⟩:=I.list h';rw [e] at e'; cases e';rw [d] at d';injection d' with d1 _;have:its=its':=by simpa using congrArg Array.toList d1
 subst this;exact r.inj r'
theorem Inv.tuple_inj (I:Inv X pins σ H s) (h:SqT X.K H a xs) (h':SqT X.K H a ys):xs=ys:=by
 obtain ⟨its,r,⟨o,e,_,n,d⟩,_⟩:=I.tuple h;obtain ⟨its',r',⟨o',e',_,n',d'⟩,_⟩:=I.tuple h';rw [e] at e'; cases e';rw [d] at d';injection d' with d1 _;have:its=its':=by simpa using congrArg Array.toList d1
 subst this;exact r.inj r'
end
noncomputable abbrev Cx.wish (X:Cx) (E:χ->AU->Prop):Cx:={ X with xe:=E }
noncomputable abbrev Cx.nox (X:Cx):Cx:=X.wish fun _ _=>False
theorem Cx.Ok.wish {X:Cx} (ok:X.Ok) (E:χ->AU->Prop):(X.wish E).Ok :=
 ⟨ok.mod,ok.kind,ok.glob,ok.blt,ok.above,ok.inj,ok.has,ok.cab,ok.hd,ok.frames,ok.stk,ok.exf,ok.bs,ok.bsz,ok.noex,ok.exfs,ok.funs,ok.frf⟩
theorem Cx.Ok.unwish {X:Cx} {E:χ->AU->Prop} (ok:(X.wish E).Ok):X.Ok :=
 ⟨ok.mod,ok.kind,ok.glob,ok.blt,ok.above,ok.inj,ok.has,ok.cab,ok.hd,ok.frames,ok.stk,ok.exf,ok.bs,ok.bsz,ok.noex,ok.exfs,ok.funs,ok.frf⟩
section
variable {X:Cx} {pins:List (Δ×Hu)} {σ:St} {H:Hp} {s:AU} {E:χ->AU->Prop}
theorem Inv.wish (I:Inv X pins σ H s) (E:χ->AU->Prop):Inv (X.wish E) pins σ H s:=⟨I.ok.wish E,I.os,I.bare,I.base,I.loc,I.cell,I.free,I.freeC,I.pin,I.hok,I.len⟩
theorem Inv.unwish (I:Inv (X.wish E) pins σ H s):Inv X pins σ H s:=⟨I.ok.unwish,I.os,I.bare,I.base,I.loc,I.cell,I.free,I.freeC,I.pin,I.hok,I.len⟩
theorem SP.unwish {D:dh} {f:Flow} {s':AU} (h:SP (X.wish E) pins D f s'):SP X pins D f s':=by
 cases f with
 | next=>obtain ⟨σ',H',I,q⟩:=h; exact ⟨σ',H',I.unwish,q⟩
 | brk=>obtain ⟨σ',H',I,q⟩:=h; exact ⟨σ',H',I.unwish,q⟩
 | cont=>obtain ⟨σ',H',I,q⟩:=h; exact ⟨σ',H',I.unwish,q⟩
 | ret u=>obtain ⟨v,σ',H',I,r,q⟩:=h; exact ⟨v,σ',H',I.unwish,r,q⟩
theorem PSs.nox {st:List Jz} {t:TS} (h:PSs X.nox st t):PSs X st t:=fun pins s σ H D I hw =>
 GW (h pins s σ H D (I.wish _) hw) (fun _ _ q=>q.unwish) fun _ _ z=>GU z
end
section
variable {X:Cx} {st:Jz} {eC:List Jz} {t u:TS} {e:GO} {te:TE} {pos:Jf}
def Ce:TS:=fun D σ H=>D.nx σ H
def DD (t u:TS):TS:=fun D σ H=>t { D with nx:=u D } σ H
theorem aC:PSs X [] Ce:=fun _ _ σ H _ I h=>K0 ⟨σ,H,I,h⟩
theorem aQ (h1:PS X st t) (h2:PSs X eC u):PSs X (st::eC) (DD t u):=by
 intro pins s σ H D I h;refine wpAny_execs_cons (thn (h1 pins s σ H { D with nx:=u D } I h) fun f s1 q=>?_)
 cases f with
 | next =>
  obtain ⟨σ',H',I',q⟩:=q;exact h2 pins s1 σ' H' D I' q
 | ret v=>exact q
 | brk=>exact q
 | cont=>exact q
theorem ai (h1:PS X st t):PSs X [st] t:=by
 intro pins s σ H D I h;refine wpAny_execs_cons (thn (h1 pins s σ H D I h) fun f s1 q=>?_)
 cases f with
 | next=>exact K0 q
 | ret v=>exact q
 | brk=>exact q
 | cont=>exact q
def DA:TS:=fun D σ H=>D.bk σ H
theorem yU:PS X (.Break pos) DA:=fun _ _ σ H _ I h=>wpAny_Break ⟨σ,H,I,h⟩
theorem Inv.quiet {pins:List (Δ×Hu)} {σ:St} {H:Hp} {s:AU} (I:Inv X pins σ H s):interactive X.env=false:=by simp [interactive,I.ok.kind]
def Ca (te:TE):TS:=fun D σ H=>te σ H fun _ H1=>D.nx σ H1
theorem bg (he:PE X e te) (hs:LK e none pos.line X.env=pure false:=by rfl):PS X (.Expr e pos) (Ca te):=by
 intro pins s σ H D I h;exact wpAny_Expr_any (thn (he pins s σ H _ I h) fun v s1 ⟨x,H1,I1,r1,q1⟩=>⟨σ,H1,I1,q1⟩) I.quiet hs
def Er (te:TE):TS:=fun D σ H=>te σ H D.rt
theorem aA (he:PE X e te):PS X (.Return (some e) pos) (Er te):=by
 intro pins s σ H D I h;exact wpAny_Return_some (thn (he pins s σ H _ I h) fun v s1 ⟨x,H1,I1,r1,q1⟩=>⟨x,σ,H1,I1,r1,q1⟩)
def En (c:TT) (t u:TS):TS:=fun D σ H=>c σ H fun b H1=>if b=true then t D σ H1 else u D σ H1
theorem aO {c:GO} {a b:List Jz} {tc:TT} (hc:PT X c tc) (ha:PSs X a t) (hb:PSs X b u):PS X (.If c a b pos) (En tc t u):=by
 intro pins s σ H D I h;refine wpAny_If (thn (hc pins s σ H _ I h) fun d s1 ⟨H1,I1,q1⟩=>?_)
 cases d with
 | true=>exact ha pins s1 σ H1 D I1 q1
 | false=>exact hb pins s1 σ H1 D I1 q1
def Ah:TS:=fun _ _ _=>False
theorem dF:PS X st Ah:=fun _ _ _ _ _ _ h=>h.elim
theorem v8 {sts:List Jz}:PSs X sts Ah:=fun _ _ _ _ _ _ h=>h.elim
end
noncomputable abbrev TG:=V->St->Hp->(St->Hp->Prop)->Prop
noncomputable abbrev TGs:=List V->St->Hp->(St->Hp->Prop)->Prop
def PG (X:Cx) (target:GO) (t:TG):Prop :=
 ∀ (pins:List (Δ×Hu)) (s:AU) (σ:St) (H:Hp) (v:V) (u:χ) (Q:St->Hp->Prop),Inv X pins σ H s->bj v u->t v σ H Q ->
  FD (FQ X.prog X.w) X.A (assign target X.env u) (fun _ s'=>∃ σ' H',Inv X pins σ' H' s'/\Q σ' H') X.xe s
def PGs (X:Cx) (ts:List GO) (t:TGs):Prop :=
 ∀ (pins:List (Δ×Hu)) (s:AU) (σ:St) (H:Hp) (vs:List V) (us:List χ) (Q:St->Hp->Prop),Inv X pins σ H s->Vals vs us->t vs σ H Q ->
  FD (FQ X.prog X.w) X.A (assignInOrder ((Jj ts X.env).map (·.2)) us) (fun _ s'=>∃ σ' H',Inv X pins σ' H' s'/\Q σ' H') X.xe s
noncomputable abbrev ED:=V->V->V->Hp->(Hp->Prop)->Prop
section
variable {X:Cx} {pos:Jf}
def cX (i:Nat):TG:=fun v σ H Q=>Q (σ.set i (some v)) H
theorem aK {i:Nat} {x:Str} (hN:X.N.Nodup) (hi:X.N[i]?=some x) (hx:Loc X.env.scope x) (hf:X.fn x=true\/X.env.scope.names.lookup x=some .local:=by first | exact .inl rfl | exact .inr rfl | assumption):PG X (.Name x pos) (cX i):=by
 intro pins s σ H v u Q I r h;exact wpAny_assign_Name (jv I hN hi hx r (fun s' I'=>⟨_,H,I',h⟩) hf)
def vy:TGs:=fun vs σ H Q=>vs=[]/\Q σ H
def ij (t:TG) (u:TGs):TGs:=fun vs σ H Q=>∃ v r,vs=v::r/\t v σ H fun σ' H'=>u r σ' H' Q
theorem fQ:PGs X [] vy:=by
 intro pins s σ H vs us Q I r h;obtain ⟨e,h⟩:=h;subst e
 cases r;exact assignInOrder_nil ⟨σ,H,I,h⟩
theorem bV {e:GO} {es:List GO} {t:TG} {u:TGs} (h1:PG X e t) (h2:PGs X es u)
  (hs:(Jj (e::es) X.env).map (·.2)=assign e X.env::(Jj es X.env).map (·.2):=by rfl):PGs X (e::es) (ij t u):=by
 intro pins s σ H vs us Q I r h;obtain ⟨v,vr,e1,h⟩:=h;subst e1
 cases r with
 | cons r rr =>
  rw [hs];refine assignInOrder_cons (thn (h1 pins s σ H _ _ _ I r h) fun _ s1 ⟨σ1,H1,I1,q1⟩=>?_);exact h2 pins s1 σ1 H1 _ _ Q I1 rr q1
def sq (K:W.Frag) (n:Nat) (t:TGs):TG:=fun v σ H Q=>∃ a xs,v=.ref a/\SqT K H a xs/\xs.length=n/\t xs σ H Q
theorem C1 {es:List GO} {k:Nat} {t:TGs} {n:Nat} (hc:X.calm=true) (h:PGs X es t)
  (hn:(Jj es X.env).length=n:=by rfl) (hst:(Jj es X.env).findIdx? (·.1)=none:=by rfl):PG X (.Tuple es k pos) (sq X.K n t):=by
 intro pins s σ H v u Q I r hw;obtain ⟨a,xs,e1,hq,hl,hw⟩:=hw;subst e1
 cases r;obtain ⟨its,rv,ht,hz⟩:=I.tuple hq;refine assign_Tuple_tuple (I.ok.hd hc) ht (by simp [hn,<- hl,rv.length]) hst fun h' hx=>?_;have I1:Inv X pins σ H { s with heap:=h' }:=I.kept (t':=s.toks) fun b o e=>hx b o (E6 (E1 e)) e;exact h pins _ σ H xs _ Q I1 (by simpa using rv) hw
def Aa (te:TE) (g:TG):TS:=fun D σ H=>te σ H fun x H1=>g x σ H1 D.nx
theorem C2 {tg e:GO} {te:TE} {g:TG} (he:PE X e te) (hg:PG X tg g) (hs:swapsWithSole [tg] e pos.line X.env=pure false:=by rfl) (hw:swappedStores [tg] e X.env=pure none:=by rfl)
  (h1:(Jj [tg] X.env).map (·.2)=[assign tg X.env]:=by rfl):PS X (.Assign [tg] e pos) (Aa te g):=by
 intro pins s σ H D I h;refine wpAny_Assign_stores (thn (he pins s σ H _ I h) fun v s1 ⟨x,H1,I1,r1,q1⟩=>?_) hs hw;rw [h1];exact thn (hg pins s1 σ H1 x v _ I1 r1 q1) fun _ s2 q=>q
theorem gw {i:Nat} {x:Str} {e:GO} {te:TE} {pos':Jf} (hN:X.N.Nodup) (hi:X.N[i]?=some x) (hx:Loc X.env.scope x) (he:PE X e te) (hs:LK e (some (.Name x pos')) pos.line X.env=pure false:=by rfl) (hf:X.fn x=true\/X.env.scope.names.lookup x=some .local:=by first | exact .inl rfl | exact .inr rfl | assumption) :
  PS X (.Assign [.Name x pos'] e pos) (Aa te (cX i)):=by
 intro pins s σ H D I h;refine wpAny_Assign_Name (thn (he pins s σ H _ I h) fun v s1 ⟨y,H1,I1,r1,q1⟩=>?_) hs;exact jv I1 hN hi hx r1 (fun s2 I2=>⟨_,H1,I2,q1⟩) hf
def Aj (c:TT) (tb:TS):TS:=fun D σ H=>∃ W:Nat->St->Hp->Prop,(∃ m,W m σ H)/\∀ m σ H,W m σ H ->
 c σ H fun b H1=>if b=true then ∃ N:St->Hp->Prop,(∀ σ' H',N σ' H'->∃ m',m'<m/\W m' σ' H')/\tb { D with nx:=N,ct:=N,bk:=D.nx } σ H1 else D.nx σ H1
theorem gx {c:GO} {body:List Jz} {tc:TT} {tb:TS} (hp:PassesOwn (FQ X.prog X.w) X.A X.env X.xe) (hc:PT X c tc) (hb:PSs X body tb):PS X (.While c body [] pos) (Aj tc tb):=by
 intro pins s σ H D I h;obtain ⟨W,⟨m0,w0⟩,turn⟩:=h;refine wpAny_While (codeAny_whileLoop (fun n s'=>∃ σ' H',Inv X pins σ' H' s'/\W n σ' H') ?_ m0 ⟨σ,H,I,w0⟩);rintro n s1 ⟨σ1,H1,I1,w1⟩;refine Ik hp (thn (hc pins s1 σ1 H1 _ I1 (turn n σ1 H1 w1)) fun b s2 ⟨H2,I2,q2⟩=>?_)
 cases b with
 | true =>
  obtain ⟨N,hN,q2⟩:=q2;rw [if_pos rfl];refine Ik hp (thn (hb pins s2 σ1 H2 _ I2 q2) fun f s3 q3=>?_)
  cases f with
  | next =>
   obtain ⟨σ3,H3,I3,n3⟩:=q3;obtain ⟨m',hm,w3⟩:=hN σ3 H3 n3;exact ⟨m',hm,σ3,H3,I3,w3⟩
  | cont =>
   obtain ⟨σ3,H3,I3,n3⟩:=q3;obtain ⟨m',hm,w3⟩:=hN σ3 H3 n3;exact ⟨m',hm,σ3,H3,I3,w3⟩
  | brk => exact q3
  | ret v => exact q3
 | false =>
  rw [if_neg Ft];exact K0 ⟨σ1,H2,I2,q2⟩
end
structure It where
 go:Nat->Hp->Prop
 yld:Nat->Hp->V->Hp->Prop
 stop:Nat->Hp->Prop
def hW (X:Cx) (pins:List (Δ×Hu)) (H:Hp) (b:Δ):Prop :=
 H b=none/\b≠X.env.locals/\b∉X.fs/\(b∈X.ex\/X.s₀.heap.objs.size<=b)/\(∀ x c,X.env.cells.lookup x=some c->c≠b)/\∀ p∈X.pn++pins,p.1≠b
theorem Inv.fpOk {X:Cx} {pins:List (Δ×Hu)} {σ:St} {H H':Hp} {s:AU} {b:Δ} (I:Inv X pins σ H s) (hb:s.heap.objs.size<=b) (hn:H' b=none):hW X pins H' b:=by
 refine ⟨hn,Kg (FI I.lt hb),I.nofs hb,.inr (Fe I.sz hb),fun x c e z=>?_,fun p hp z=>?_⟩
 ·obtain ⟨v,q⟩:=I.cell x c e;exact absurd (FI q.lt (by rw [z]; exact hb)) (G_ _)
 ·exact absurd (FI (E1 (I.pin p hp).1) (by rw [z]; exact hb)) (G_ _)
structure p7 (P:FP) (w:F0) (K:W.Frag) (tg:GO) (J:It) (fp:List Δ) (it:Δ) (tn:Nat->F6->Prop):Prop where
 mem:it∈fp
 obj:∀ i h,tn i h->∀ b∈fp,∃ o,h.get? b=some o/\∀ v,o.data≠.cell v
 keep:∀ i h h',tn i h->(∀ b∈fp,∀ o,h.get? b=some o->h'.get? b=some o)->tn i h'
 item:∀ (X:Cx),X.prog=P->X.w=w->X.K=K->X.calm=true->∀ (i:Nat) (pins:List (Δ×Hu)) (s:AU) (σ:St) (H:Hp) (E:χ->AU->Prop),Inv X pins σ H s->(∀ b∈fp,hW X pins H b)->tn i s.heap->J.go i H ->
  FD (FQ P w) X.A (LB (.ref it)) (fun r s1=>∃ u,r=some u /\
   FD (FQ P w) X.A (Jv tg (.ref it) u) (fun _ s2=>∃ x H',Inv X pins σ H' s2/\bj x u/\J.yld i H x H'/\tn (i+1) s2.heap/\∀ b∈fp,H' b=none) E s1) E s
 done:∀ (X:Cx),X.prog=P->X.w=w->X.K=K->X.calm=true->∀ (i:Nat) (pins:List (Δ×Hu)) (s:AU) (σ:St) (H:Hp) (E:χ->AU->Prop),Inv X pins σ H s->(∀ b∈fp,hW X pins H b)->tn i s.heap->J.stop i H ->
  FD (FQ P w) X.A (LB (.ref it)) (fun r s1=>r=none/\Inv X pins σ H s1) E s
 self:∀ (A:Fv) (i:Nat) (s:AU) (Q:χ->AU->Prop) (E:χ->AU->Prop),tn i s.heap->Q (.ref it) s->FD (FQ P w) A (pyIter (.ref it)) Q E s
noncomputable abbrev TI:=St->Hp->(It->Hp->Prop)->Prop
def PIE (X:Cx) (pins:List (Δ×Hu)) (σ:St) (tg:GO) (R:It->Hp->Prop) (itv:χ) (s2:AU):Prop :=
 ∃ (it:Δ) (fp:List Δ) (tn:Nat->F6->Prop) (J:It) (H':Hp),itv=.ref it/\Inv X pins σ H' s2/\p7 X.prog X.w X.K tg J fp it tn/\tn 0 s2.heap/\(∀ b∈fp,hW X pins H' b)/\R J H'
def PI (X:Cx) (tg iter:GO) (wi:TI):Prop :=
 ∀ (pins:List (Δ×Hu)) (s:AU) (σ:St) (H:Hp) (R:It->Hp->Prop),Inv X pins σ H s->wi σ H R ->
  FD (FQ X.prog X.w) X.A (Hs iter X.env) (fun v s1=>FD (FQ X.prog X.w) X.A (pyIter v) (PIE X pins σ tg R) X.xe s1) X.xe s
theorem uw {M:Jo} {A:Fv} {E:χ->AU->Prop} {s:AU} {tg:GO} {it:Δ} {u:χ} {o:Hu} {n:String} {vs:Array χ} {Q:Unit->AU->Prop} (ho:s.heap.get? it=some o) (hc:o.cls=.type n) (hd:o.data=.fields vs)
    (hn:["enumerate","zip","dict_itemiterator","dict_reverseitemiterator","odict_iterator","itertools.zip_longest","itertools.pairwise"].contains n=false) (hQ:Q () s):FD M A (Jv tg (.ref it) u) Q E s:=by
  unfold Jv
  cases tg<;>first
    | exact D_ hQ
    | (cases u<;>first
        | exact D_ hQ
        | (refine ξ (wpAny_load ho ?_)
           rw [hc,hd]
           show FD M A (if (["enumerate","zip","dict_itemiterator","dict_reverseitemiterator","odict_iterator","itertools.zip_longest","itertools.pairwise"].contains n&&vs[0]?==some (rawInt _))=true then _ else _) Q E s
           rw [if_neg (by intro h; rw [hn,Bool.false_and] at h; cases h)];exact D_ hQ))
noncomputable def Itl (K:W.Frag) (a:Δ):It :=
 ⟨fun i H=>∃ xs x,SqL K H a xs/\xs[i]?=some x,fun i H x H'=>H'=H/\∀ xs,SqL K H a xs->xs[i]?=some x,fun i H=>∃ xs,SqL K H a xs/\xs.length<=i⟩
noncomputable def Itt (K:W.Frag) (a:Δ):It :=
 ⟨fun i H=>∃ xs x,SqT K H a xs/\xs[i]?=some x,fun i H x H'=>H'=H/\∀ xs,SqT K H a xs->xs[i]?=some x,fun i H=>∃ xs,SqT K H a xs/\xs.length<=i⟩
noncomputable def Itr (lo:Int) (n:Nat):It:=⟨fun i _=>i<n,fun i H x H'=>H'=H/\x=.int (lo+i),fun i _=>n<=i⟩
theorem xg {P:FP} {w:F0} {K:W.Frag} {tg:GO} (a it:Δ):p7 P w K tg (Itl K a) [it] it (fun i h=>h.IsListIter it a i) where
 mem:=by simp
 obj:=fun i h st b hb=>by
  have e:b=it:=by simpa using hb
  subst e;obtain ⟨o,e,c,d⟩:=st;exact ⟨o,e,fun v z=>by rw [d] at z; cases z⟩
 keep:=fun i h h' st k=>st.at fun o e=>k it (by simp) o e
 item:=by
  intro X hP hw hK hc i pins s σ H E I hf st hg;subst hP hw hK;obtain ⟨xs,x,hq,hx⟩:=hg;obtain ⟨its,rv,p,hz⟩:=I.list hq;obtain ⟨u,hu,ru⟩:=rv.get hx;obtain ⟨f0,f1,f2,f3,f4,f5⟩:=hf it (by simp);refine wpAny_pyNext_list_item st p.isList (x:=u) (by simpa using hu) fun h' st' sb=>?_;have I1:Inv X pins σ H { s with heap:=h' }:=I.turned (t':=s.toks) (fun b o hb e=>(sb.2 b hb).trans e) f0 f1 f3 f4 f5;obtain ⟨o,e,c,d⟩:=id st';exact ⟨u,rfl,uw (s:={ s with heap:=h' }) e c d (by decide) ⟨x,H,I1,ru,⟨rfl,fun ys hy=>by rw [I.list_inj hy hq]; exact hx⟩,st',fun b hb=>(hf b hb).1⟩⟩
 done:=by
  intro X hP hw hK hc i pins s σ H E I hf st hg;subst hP hw hK;obtain ⟨xs,hq,hx⟩:=hg;obtain ⟨its,rv,p,hz⟩:=I.list hq;obtain ⟨f0,f1,f2,f3,f4,f5⟩:=hf it (by simp);have hl:=rv.length;exact wpAny_pyNext_list_end (I.ok.hd hc) st p.isList (by simp; omega) fun h' eb=>⟨rfl,I.turned (t':=s.toks) (fun b o hb e=>eb b o hb e) f0 f1 f3 f4 f5⟩
 self:=fun _ _ _ _ _ st h=>wpAny_pyIter_listiter st h
theorem ua {P:FP} {w:F0} {K:W.Frag} {tg:GO} (a it:Δ):p7 P w K tg (Itt K a) [it] it (fun i h=>h.IsTupleIter it a i) where
 mem:=by simp
 obj:=fun i h st b hb=>by
  have e:b=it:=by simpa using hb
  subst e;obtain ⟨o,e,c,d⟩:=st;exact ⟨o,e,fun v z=>by rw [d] at z; cases z⟩
 keep:=fun i h h' st k=>st.at fun o e=>k it (by simp) o e
 item:=by
  intro X hP hw hK hc i pins s σ H E I hf st hg;subst hP hw hK;obtain ⟨xs,x,hq,hx⟩:=hg;obtain ⟨its,rv,p,hz⟩:=I.tuple hq;obtain ⟨u,hu,ru⟩:=rv.get hx;obtain ⟨f0,f1,f2,f3,f4,f5⟩:=hf it (by simp);refine wpAny_pyNext_tuple_item st (show s.heap.IsTuple a its.toArray from p) (x:=u) (by simpa using hu) fun h' st' sb=>?_;have I1:Inv X pins σ H { s with heap:=h' }:=I.turned (t':=s.toks) (fun b o hb e=>(sb.2 b hb).trans e) f0 f1 f3 f4 f5;obtain ⟨o,e,c,d⟩:=id st';exact ⟨u,rfl,uw (s:={ s with heap:=h' }) e c d (by decide) ⟨x,H,I1,ru,⟨rfl,fun ys hy=>by rw [I.tuple_inj hy hq]; exact hx⟩,st',fun b hb=>(hf b hb).1⟩⟩
 done:=by
  intro X hP hw hK hc i pins s σ H E I hf st hg;subst hP hw hK;obtain ⟨xs,hq,hx⟩:=hg;obtain ⟨its,rv,p,hz⟩:=I.tuple hq;obtain ⟨f0,f1,f2,f3,f4,f5⟩:=hf it (by simp);have hl:=rv.length;exact wpAny_pyNext_tuple_end (I.ok.hd hc) st (show s.heap.IsTuple a its.toArray from p) (by simp; omega) fun h' eb=>⟨rfl,I.turned (t':=s.toks) (fun b o hb e=>eb b o hb e) f0 f1 f3 f4 f5⟩
 self:=fun _ _ _ _ _ st h=>wpAny_pyIter_tupleiter st h
theorem tZ {P:FP} {w:F0} {K:W.Frag} {tg:GO} (it:Δ) (lo:Int) (n:Nat):p7 P w K tg (Itr lo n) [it] it (fun i h=>IsRangeIter h it (lo+(i:Nat)*1) ((n:Int) - (i:Nat)) 1) where
 mem:=by simp
 obj:=fun i h st b hb=>by
  have e:b=it:=by simpa using hb
  subst e;exact ⟨_,st,fun v z=>by
   have z':Data.fields _=Data.cell v:=z
   cases z'⟩
 keep:=fun i h h' st k=>k it (by simp) _ st
 item:=by
  intro X hP hw hK hc i pins s σ H E I hf st hg;subst hP hw hK;obtain ⟨f0,f1,f2,f3,f4,f5⟩:=hf it (by simp);have W:=Walks.range (prog:=X.prog) (w:=X.w) (I.ok.hd hc) it lo 1 n;refine W.item i s _ _ hg st fun v h' tk hv st' kk=>?_;obtain ⟨t,rfl⟩:=hv;have I1:Inv X pins σ H { s with heap:=h',toks:=tk }:=I.turned (fun b o hb e=>kk b o (by simpa using hb) e) f0 f1 f3 f4 f5;refine ⟨_,rfl,uw (s:={ s with heap:=h',toks:=tk }) (n:="range_iterator") st' rfl rfl (by decide) ⟨.int (lo+i),H,I1,⟨t,?_⟩,⟨rfl,rfl⟩,st',fun b hb=>(hf b hb).1⟩⟩;rw [Int.mul_one]
 done:=by
  intro X hP hw hK hc i pins s σ H E I hf st hg;subst hP hw hK;obtain ⟨f0,f1,f2,f3,f4,f5⟩:=hf it (by simp);exact wpAny_pyNext_range_end (I.ok.hd hc) st (by have:n<=i:=hg; omega) fun h' eb=>⟨rfl,I.turned (t':=s.toks) (fun b o hb e=>eb b o hb e) f0 f1 f3 f4 f5⟩
 self:=fun _ _ _ _ _ st h=>wpAny_pyIter_rangeiter st h
section
variable {X:Cx} {tg:GO}
def BX (K:W.Frag) (tl:TE):TI:=fun σ H R=>tl σ H fun x H1=>∃ a,x=.ref a/\(∃ xs,SqL K H1 a xs)/\R (Itl K a) H1
def DT (K:W.Frag) (tl:TE):TI:=fun σ H R=>tl σ H fun x H1=>∃ a,x=.ref a/\(∃ xs,SqT K H1 a xs)/\R (Itt K a) H1
theorem bQ {l:GO} {tl:TE} (hl:PE X l tl):PI X tg l (BX X.K tl):=by
 intro pins s σ H R I h;refine thn (hl pins s σ H _ I h) fun v s1 ⟨x,H1,I1,r1,q1⟩=>?_;obtain ⟨a,e,⟨xs,hq⟩,q⟩:=q1;subst e
 cases r1;obtain ⟨its,rv,p,hz⟩:=I1.list hq;refine KP p.isList ?_;refine ⟨s1.heap.objs.size,[s1.heap.objs.size],_,_,H1,rfl,I1.kept (t':=s1.toks) fun b o e=>ς _ e,xg a _,⟨_,E5 _ rfl,rfl,rfl⟩,fun b hb=>?_,q⟩;have e:b=s1.heap.objs.size:=by simpa using hb
 subst e;exact I1.fpOk (BE _) (I1.hok.fresh (BE _))
theorem yN {l:GO} {tl:TE} (hl:PE X l tl):PI X tg l (DT X.K tl):=by
 intro pins s σ H R I h;refine thn (hl pins s σ H _ I h) fun v s1 ⟨x,H1,I1,r1,q1⟩=>?_;obtain ⟨a,e,⟨xs,hq⟩,q⟩:=q1;subst e
 cases r1;obtain ⟨its,rv,p,hz⟩:=I1.tuple hq;refine J6 (show s1.heap.IsTuple a its.toArray from p) ?_;refine ⟨s1.heap.objs.size,[s1.heap.objs.size],_,_,H1,rfl,I1.kept (t':=s1.toks) fun b o e=>ς _ e,ua a _,⟨_,E5 _ rfl,rfl,rfl⟩,fun b hb=>?_,q⟩;have e:b=s1.heap.objs.size:=by simpa using hb
 subst e;exact I1.fpOk (BE _) (I1.hok.fresh (BE _))
theorem zc {pins:List (Δ×Hu)} {σ:St} {H:Hp} {s:AU} {R:It->Hp->Prop} {E:χ->AU->Prop} {lo hi:Int} {t u v:Tok} {tk:Nat} (I:Inv X pins σ H s) (h1:-(2 ^ 62)<=lo) (h2:lo<2 ^ 62) (h3:-(2 ^ 62)<=hi) (h4:hi<2 ^ 62)
  (q:R (Itr lo (hi - lo).toNat) H):FD (FQ X.prog X.w) X.A (pyIter (.ref s.heap.objs.size)) (PIE X pins σ tg R) E { s with heap:=s.heap.push { cls:=.type "range",data:=.fields #[.int lo t,.int hi u,.int 1 v] },toks:=tk }:=by
 refine wpAny_pyIter_range (IsRange.new ..) (small_one h1 h2 h3 h4) ?_;have I1:Inv X pins σ H { s with heap:=s.heap.push { cls:=.type "range",data:=.fields #[.int lo t,.int hi u,.int 1 v] },toks:=tk }:=I.kept fun b o e=>ς _ e;refine ⟨(s.heap.push { cls:=.type "range",data:=.fields #[.int lo t,.int hi u,.int 1 v] }).objs.size,[(s.heap.push { cls:=.type "range",data:=.fields #[.int lo t,.int hi u,.int 1 v] }).objs.size],_,_,H,rfl,
  I1.kept (t':=tk) fun b o e=>ς _ e,tZ _ lo (hi - lo).toNat,?_,fun b hb=>?_,q⟩
 ·have e1:lo+((0:Nat):Int)*1=lo:=by simp
  have e2:(((hi - lo).toNat:Nat):Int) - ((0:Nat):Int)=Builtin.Range.rangeSize lo hi 1:=by rw [rangeSize_one]; split<;>omega
  show IsRangeIter _ _ (lo+((0:Nat):Int)*1) ((((hi - lo).toNat:Nat):Int) - ((0:Nat):Int)) 1
  rw [e1,e2];exact E5 _ rfl
 ·have e:b=(s.heap.push { cls:=.type "range",data:=.fields #[.int lo t,.int hi u,.int 1 v] }).objs.size:=by simpa using hb
  subst e;exact I1.fpOk (BE _) (I1.hok.fresh (BE _))
def BY (ta:TA):TI:=fun σ H R=>ta σ H fun vs H1=>∃ j:Int,vs=[.int j]/\-(2 ^ 62)<=j/\j<2 ^ 62/\R (Itr 0 j.toNat) H1
theorem cf {a:GO} {ta:TA} {p pos:Jf} (hg:Gl X "range") (hm:X.mg "range"=none) (ha:PA X [a] ta) (hs:Fq [a] X.env=[(false,Hs a X.env)]:=by rfl):PI X tg (.Call (.Name "range" p) [a] [] pos) (BY ta):=by
 intro pins s σ H R I h;refine Call_ (fJ I hg hm boot_range (Gn (thn (ha pos pins s σ H _ I h) fun us s1 ⟨vs,H1,I1,r1,q1⟩=>?_) hs rfl));obtain ⟨j,e,q1,q2,q⟩:=q1;subst e
 cases r1 with
 | cons r rr =>
  cases rr;obtain ⟨t,rfl⟩:=r;exact call_range_1 (zc I1 (by omega) (by omega) q1 q2 (by simpa using q))
def Em (wi:TI) (g:TG) (tb:TS):TS:=fun D σ H=>wi σ H fun J H1=>∃ W:Nat->Nat->St->Hp->Prop,(∃ m,W 0 m σ H1)/\∀ i m σ H,W i m σ H ->
 (J.stop i H/\D.nx σ H)\/(J.go i H/\∃ N:St->Hp->Prop,(∀ σ' H',N σ' H'->∃ m',m'<m/\W (i+1) m' σ' H')/\∀ x H',J.yld i H x H'->g x σ H' fun σ2 H2=>tb { D with nx:=N,ct:=N,bk:=D.nx } σ2 H2)
noncomputable def lG (fp:List Δ) (h:F6):List (Δ×Hu):=fp.filterMap fun b=>(h.get? b).map fun o=>(b,o)
theorem fL {fp:List Δ} {h:F6} {b:Δ} {o:Hu} (hb:b∈fp) (e:h.get? b=some o):(b,o)∈lG fp h:=K8.mpr ⟨b,hb,by rw [e]; rfl⟩
theorem vQ {fp:List Δ} {h:F6} {p:Δ×Hu} (hp:p∈lG fp h):p.1∈fp/\h.get? p.1=some p.2:=by
 obtain ⟨b,hb,e⟩:=K8.mp hp
 cases q:h.get? b with
 | none=>rw [q] at e; cases e
 | some o =>
  rw [q] at e;have e':(b,o)=p:=Fo e;subst e';exact ⟨hb,q⟩
theorem Inv.pinned {pins:List (Δ×Hu)} {σ:St} {H:Hp} {s:AU} {fp:List Δ} (I:Inv X pins σ H s) (hf:∀ b∈fp,hW X pins H b) (ho:∀ b∈fp,∃ o,s.heap.get? b=some o/\∀ v,o.data≠.cell v):Inv X (pins++lG fp s.heap) σ H s :=
 I.pins_of fun p hp=>(E_.mp hp).elim (fun z=>I.pin p (E3 _ z)) fun z=>by
  obtain ⟨hb,e⟩:=vQ z;obtain ⟨f0,f1,f2,_⟩:=hf p.1 hb;obtain ⟨o,e',d⟩:=ho p.1 hb;rw [e] at e'; cases e';exact ⟨e,f0,f1,f2,d⟩
theorem Inv.unpinned {pins pl:List (Δ×Hu)} {σ:St} {H:Hp} {s:AU} (I:Inv X (pins++pl) σ H s):Inv X pins σ H s:=I.pins_of fun p hp=>I.pin p (E3 _ (Ff _ hp))
theorem df {iter:GO} {body:List Jz} {wi:TI} {g:TG} {tb:TS} {pos:Jf} (hp:PassesOwn (FQ X.prog X.w) X.A X.env X.xe) (hc:X.calm=true) (hi:PI X tg iter wi) (hg:PG X tg g) (hb:PSs X body tb)
  (hs:∀ x,Lx iter X.env x=pure x:=by intro _; rfl):PS X (.For tg iter body [] pos) (Em wi g tb):=by
 intro pins s σ H D I h;refine wpAny_For (thn (hi pins s σ H _ I h) fun v s1 h1=>thn h1 fun itv s2 h2=>?_) hs;obtain ⟨it,fp,tn,J,H2,e,I2,T,st2,f2,W,⟨m0,w0⟩,turn⟩:=h2;subst e
 -- what stays true of the iterator's objects through the loop
 have stat:∀ {H':Hp},(∀ b∈fp,H' b=none)->∀ b∈fp,hW X pins H' b:=fun hn b hb=>⟨hn b hb,(f2 b hb).2⟩
 refine codeAny_forLoop_any (fun n s'=>∃ i σ' H',Inv X pins σ' H' s'/\tn i s'.heap/\(∀ b∈fp,H' b=none)/\W i n σ' H') ?_ m0 ⟨0,σ,H2,I2,st2,fun b hb=>(f2 b hb).1,w0⟩;rintro n s3 ⟨i,σ3,H3,I3,st3,fr3,w3⟩;rcases turn i n σ3 H3 w3 with ⟨stop,qn⟩ | ⟨go,N,hN,step⟩
 ·refine Ik hp (thn (T.done X rfl rfl rfl hc i pins s3 σ3 H3 X.xe I3 (stat fr3) st3 stop) fun r s4 ⟨hr,I4⟩=>?_);subst hr;exact K0 ⟨σ3,H3,I4,qn⟩
 ·refine Ik hp (thn (T.item X rfl rfl rfl hc i pins s3 σ3 H3 X.xe I3 (stat fr3) st3 go) fun r s4 ⟨u,hr,h4⟩=>?_);subst hr;refine Ik hp (thn h4 fun _ s5 ⟨x,H5,I5,r5,y5,st5,fr5⟩=>?_);have I5':=I5.pinned (stat fr5) (T.obj _ _ st5);refine Ik hp (thn (hg _ s5 σ3 H5 x u _ I5' r5 (step x H5 y5)) fun _ s6 ⟨σ6,H6,I6,q6⟩=>?_);refine Ik hp (thn (hb _ s6 σ6 H6 _ I6 q6) fun f s7 q7=>?_);have again:∀ {σ7:St} {H7:Hp},Inv X (pins++lG fp s5.heap) σ7 H7 s7->N σ7 H7->∃ m,m<n/\∃ i σ' H',Inv X pins σ' H' s7/\tn i s7.heap/\(∀ b∈fp,H' b=none)/\W i m σ' H':=fun {σ7 H7} I7 n7=>by
   obtain ⟨m',hm,w7⟩:=hN σ7 H7 n7;refine ⟨m',hm,i+1,σ7,H7,I7.unpinned,T.keep _ _ _ st5 fun b hb o e=>(I7.pin (b,o) (E3 _ (E3 _ (fL hb e)))).1,fun b hb=>?_,w7⟩;obtain ⟨o,e,d⟩:=T.obj _ _ st5 b hb;exact (I7.pin (b,o) (E3 _ (E3 _ (fL hb e)))).2.1
  cases f with
  | next => obtain ⟨σ7, H7, I7, n7⟩ := q7; exact again I7 n7
  | cont => obtain ⟨σ7, H7, I7, n7⟩ := q7; exact again I7 n7
  | brk => obtain ⟨σ7, H7, I7, q7⟩ := q7; exact ⟨σ7, H7, I7.unpinned, q7⟩
  | ret v => obtain ⟨x7, σ7, H7, I7, r7, q7⟩ := q7; exact ⟨x7, σ7, H7, I7.unpinned, r7, q7⟩
end
theorem xS {K:W.Frag} {a:Δ} {xs:List V} {g:TG} {tb:TS} {D:dh} {σ:St} {H:Hp} (Pv:Nat->St->Hp->Prop) (h0:Pv 0 σ H) (hl:∀ i σ H,i<=xs.length->Pv i σ H->SqL K H a xs)
  (hs:∀ i x σ H,xs[i]?=some x->Pv i σ H->g x σ H fun σ2 H2=>tb { D with nx:=Pv (i+1),ct:=Pv (i+1),bk:=D.nx } σ2 H2) (hd:∀ σ H,Pv xs.length σ H->D.nx σ H) :
  ∃ W:Nat->Nat->St->Hp->Prop,(∃ m,W 0 m σ H)/\∀ i m σ H,W i m σ H ->
   ((Itl K a).stop i H/\D.nx σ H)\/((Itl K a).go i H/\∃ N:St->Hp->Prop,(∀ σ' H',N σ' H'->∃ m',m'<m/\W (i+1) m' σ' H')/\∀ x H',(Itl K a).yld i H x H'->g x σ H' fun σ2 H2=>tb { D with nx:=N,ct:=N,bk:=D.nx } σ2 H2):=by
 refine ⟨fun i m σ H=>m=xs.length - i/\i<=xs.length/\Pv i σ H,⟨xs.length,by simp,Fi _,h0⟩,?_⟩;rintro i m σ H ⟨rfl,hi,p⟩;have q:=hl i σ H hi p;by_cases hlt:i<xs.length
 ·refine .inr ⟨⟨xs,xs[i],q,by simp [hlt]⟩,Pv (i+1),fun σ' H' p'=>⟨xs.length - (i+1),by omega,rfl,hlt,p'⟩,fun x H' y=>?_⟩;obtain ⟨e,y⟩:=y;subst e;exact hs i x σ _ (y xs q) p
 ·have e:i=xs.length:=by omega
  subst e;exact .inl ⟨⟨xs,q,BE _⟩,hd σ H p⟩
theorem AA {K:W.Frag} {a:Δ} {xs:List V} {g:TG} {tb:TS} {D:dh} {σ:St} {H:Hp} (Pv:Nat->St->Hp->Prop) (h0:Pv 0 σ H) (hl:∀ i σ H,i<=xs.length->Pv i σ H->SqT K H a xs)
  (hs:∀ i x σ H,xs[i]?=some x->Pv i σ H->g x σ H fun σ2 H2=>tb { D with nx:=Pv (i+1),ct:=Pv (i+1),bk:=D.nx } σ2 H2) (hd:∀ σ H,Pv xs.length σ H->D.nx σ H) :
  ∃ W:Nat->Nat->St->Hp->Prop,(∃ m,W 0 m σ H)/\∀ i m σ H,W i m σ H ->
   ((Itt K a).stop i H/\D.nx σ H)\/((Itt K a).go i H/\∃ N:St->Hp->Prop,(∀ σ' H',N σ' H'->∃ m',m'<m/\W (i+1) m' σ' H')/\∀ x H',(Itt K a).yld i H x H'->g x σ H' fun σ2 H2=>tb { D with nx:=N,ct:=N,bk:=D.nx } σ2 H2):=by
 refine ⟨fun i m σ H=>m=xs.length - i/\i<=xs.length/\Pv i σ H,⟨xs.length,by simp,Fi _,h0⟩,?_⟩;rintro i m σ H ⟨rfl,hi,p⟩;have q:=hl i σ H hi p;by_cases hlt:i<xs.length
 ·refine .inr ⟨⟨xs,xs[i],q,by simp [hlt]⟩,Pv (i+1),fun σ' H' p'=>⟨xs.length - (i+1),by omega,rfl,hlt,p'⟩,fun x H' y=>?_⟩;obtain ⟨e,y⟩:=y;subst e;exact hs i x σ _ (y xs q) p
 ·have e:i=xs.length:=by omega
  subst e;exact .inl ⟨⟨xs,q,BE _⟩,hd σ H p⟩
theorem vx {lo:Int} {n:Nat} {g:TG} {tb:TS} {D:dh} {σ:St} {H:Hp} (Pv:Nat->St->Hp->Prop) (h0:Pv 0 σ H)
  (hs:∀ i σ H,i<n->Pv i σ H->g (.int (lo+i)) σ H fun σ2 H2=>tb { D with nx:=Pv (i+1),ct:=Pv (i+1),bk:=D.nx } σ2 H2) (hd:∀ σ H,Pv n σ H->D.nx σ H) :
  ∃ W:Nat->Nat->St->Hp->Prop,(∃ m,W 0 m σ H)/\∀ i m σ H,W i m σ H ->
   ((Itr lo n).stop i H/\D.nx σ H)\/((Itr lo n).go i H/\∃ N:St->Hp->Prop,(∀ σ' H',N σ' H'->∃ m',m'<m/\W (i+1) m' σ' H')/\∀ x H',(Itr lo n).yld i H x H'->g x σ H' fun σ2 H2=>tb { D with nx:=N,ct:=N,bk:=D.nx } σ2 H2):=by
 refine ⟨fun i m σ H=>m=n - i/\i<=n/\Pv i σ H,⟨n,by simp,Fi _,h0⟩,?_⟩;rintro i m σ H ⟨rfl,hi,p⟩;by_cases hlt:i<n
 ·refine .inr ⟨hlt,Pv (i+1),fun σ' H' p'=>⟨n - (i+1),by omega,rfl,hlt,p'⟩,fun x H' y=>?_⟩;obtain ⟨e,y⟩:=y;subst e y;exact hs i σ _ hlt p
 ·have e:i=n:=by omega
  subst e;exact .inl ⟨BE _,hd σ H p⟩
noncomputable abbrev R2:=V->V->Hp->VK->Prop
def OpR (X:Cx) (f:χ->χ->LD χ) (r:R2):Prop :=
 ∀ (pins:List (Δ×Hu)) (s:AU) (σ:St) (H:Hp) (x y:V) (v u:χ) (Q:VK),Inv X pins σ H s->bj x v->bj y u->r x y H Q ->
  FD (FQ X.prog X.w) X.A (f v u) (EP X pins σ Q) X.xe s
def UnR (X:Cx) (f:χ->LD χ) (r:V->Hp->VK->Prop):Prop :=
 ∀ (pins:List (Δ×Hu)) (s:AU) (σ:St) (H:Hp) (x:V) (v:χ) (Q:VK),Inv X pins σ H s->bj x v->r x H Q ->
  FD (FQ X.prog X.w) X.A (f v) (EP X pins σ Q) X.xe s
def bS (X:Cx) (f:χ) (r:List V->Hp->VK->Prop):Prop :=
 ∀ (pins:List (Δ×Hu)) (s:AU) (σ:St) (H:Hp) (xs:List V) (us:List χ) (Q:VK),Inv X pins σ H s->Vals xs us->r xs H Q ->
  FD (FQ X.prog X.w) X.A (call f us) (EP X pins σ Q) X.xe s
def tOp (r:R2) (ta tb:TE):TE:=fun σ H Q=>ta σ H fun x H1=>tb σ H1 fun y H2=>r x y H2 Q
def tUn (r:V->Hp->VK->Prop) (ta:TE):TE:=fun σ H Q=>ta σ H fun x H1=>r x H1 Q
def rI (C:Int->Int->Prop) (g:Int->Int->V):R2:=fun x y H Q=>∃ i j,x=.int i/\y=.int j/\C i j/\Q (g i j) H
def rI0 (g:Int->Int->V):R2:=fun x y H Q=>∃ i j,x=.int i/\y=.int j/\Q (g i j) H
def rU (g:Int->V):V->Hp->VK->Prop:=fun x H Q=>∃ i,x=.int i/\Q (g i) H
section
variable {X:Cx} {a b c:GO} {ta tb tc:TE} {pos:Jf}
theorem Cr (ha:PE X a ta) (hb:PE X b tb) {pins:List (Δ×Hu)} {s:AU} {σ:St} {H:Hp} {R:V->V->Hp->Prop} (I:Inv X pins σ H s)
  (h:ta σ H fun x H1=>tb σ H1 fun y H2=>R x y H2) {Q:χ->AU->Prop} {f:χ->χ->LD χ}
  (hf:∀ v u s2 x y H2,Inv X pins σ H2 s2->bj x v->bj y u->R x y H2->FD (FQ X.prog X.w) X.A (f v u) Q X.xe s2) :
  FD (FQ X.prog X.w) X.A (Hs a X.env) (fun v s₁=>FD (FQ X.prog X.w) X.A (Hs b X.env) (fun u s₂=>FD (FQ X.prog X.w) X.A (f v u) Q X.xe s₂) X.xe s₁) X.xe s:=by
 refine thn (ha pins s σ H _ I h) fun v s1 ⟨x,H1,I1,r1,q1⟩=>?_;refine thn (hb pins s1 σ H1 _ I1 q1) fun u s2 ⟨y,H2,I2,r2,q2⟩=>?_;exact hf v u s2 x y H2 I2 r1 r2 q2
theorem aB {op:Operator} {r:R2} (ho:OpR X (Ks op) r) (ha:PE X a ta) (hb:PE X b tb):PE X (.BinOp a op b pos) (tOp r ta tb):=by
 intro pins s σ H Q I h;exact wpAny_BinOp (Cr ha hb I h fun v u s2 x y H2 I2 rx ry q=>ho pins s2 σ H2 x y v u Q I2 rx ry q)
theorem cO {op:UnaryOp} {r:V->Hp->VK->Prop} (ho:UnR X (unaryOp op) r) (ha:PE X a ta):PE X (.UnaryOp op a pos) (tUn r ta):=by
 intro pins s σ H Q I h;exact UnaryOp_ (thn (ha pins s σ H _ I h) fun v s1 ⟨x,H1,I1,r1,q1⟩=>ho pins s1 σ H1 x v Q I1 r1 q1)
theorem opI {f:χ->χ->LD χ} {C:Int->Int->Prop} {g:Int->Int->Int}
  (rule:∀ (i j:Int) (t u:Tok) (s:AU) (Q:χ->AU->Prop) (E:χ->AU->Prop),C i j->Q (.int (g i j) s.toks) { s with toks:=s.toks+1 }->FD (FQ X.prog X.w) X.A (f (.int i t) (.int j u)) Q E s) :
  OpR X f (rI C fun i j=>.int (g i j)):=by
 intro pins s σ H x y v u Q I rx ry h;obtain ⟨i,j,rfl,rfl,hc,q⟩:=h;obtain ⟨t,rfl⟩:=rx;obtain ⟨t',rfl⟩:=ry;exact rule i j t t' s _ _ hc ⟨.int (g i j),H,I.tok _,⟨_,rfl⟩,q⟩
theorem DX {f:χ->χ->LD χ} {g:Int->Int->Int}
  (rule:∀ (i j:Int) (t u:Tok) (s:AU) (Q:χ->AU->Prop) (E:χ->AU->Prop),Q (.int (g i j) s.toks) { s with toks:=s.toks+1 }->FD (FQ X.prog X.w) X.A (f (.int i t) (.int j u)) Q E s) :
  OpR X f (rI0 fun i j=>.int (g i j)):=by
 intro pins s σ H x y v u Q I rx ry h;obtain ⟨i,j,rfl,rfl,q⟩:=h;obtain ⟨t,rfl⟩:=rx;obtain ⟨t',rfl⟩:=ry;exact rule i j t t' s _ _ ⟨.int (g i j),H,I.tok _,⟨_,rfl⟩,q⟩
theorem CT {f:χ->χ->LD χ} {g:Int->Int->Bool}
  (rule:∀ (i j:Int) (t u:Tok) (s:AU) (Q:χ->AU->Prop) (E:χ->AU->Prop),Q (.bool (g i j)) s->FD (FQ X.prog X.w) X.A (f (.int i t) (.int j u)) Q E s) :
  OpR X f (rI0 fun i j=>.bl (g i j)):=by
 intro pins s σ H x y v u Q I rx ry h;obtain ⟨i,j,rfl,rfl,q⟩:=h;obtain ⟨t,rfl⟩:=rx;obtain ⟨t',rfl⟩:=ry;exact rule i j t t' s _ _ ⟨.bl (g i j),H,I,rfl,q⟩
def Ey (i j:Int):Prop:=0<j/\j<1073741824
def Ez (i j:Int):Prop:=0<=j/\j<=1000000/\i.natAbs<2 ^ 64
def Ck (i j:Int):Prop:=(-(2 ^ 64)<i/\i<2 ^ 64)\/(-(2 ^ 64)<j/\j<2 ^ 64)
theorem Ck.ok {i j:Int} (h:Ck i j):IntMulOk i j:=by
 rcases h with ⟨h1,h2⟩ | ⟨h1,h2⟩
 ·exact .of_left (intBits_le_64 h1 h2)
 ·exact .of_right (intBits_le_64 h1 h2)
theorem aR:OpR X (Ks .Add) (rI0 fun i j=>.int (i+j)):=DX fun _ _ _ _ _ _ _ q=>add_int q
theorem cq:OpR X (Ks .Sub) (rI0 fun i j=>.int (i - j)):=DX fun _ _ _ _ _ _ _ q=>sub_int q
theorem fN:OpR X (Ks .Mult) (rI Ck fun i j=>.int (i*j)):=opI fun _ _ _ _ _ _ _ hc q=>mul_int q hc.ok
theorem kH:OpR X (Ks .FloorDiv) (rI Ey fun i j=>.int (i / j)):=opI fun i j _ _ _ _ _ hc q=>by
 have h1:(0:Int)<j:=hc.1;have h2:j<1073741824:=hc.2;exact floordiv_int (by omega) (by rw [Int.fdiv_eq_ediv_of_nonneg i (by omega)]; exact q) (.inl (PyProof.noPylong_small (by omega)))
theorem bF:OpR X (Ks .Mod) (rI (fun _ j=>0<j) fun i j=>.int (i%j)):=opI fun i j _ _ _ _ _ hc q=>by
 have h1:(0:Int)<j:=hc;exact mod_int' (by omega) (by rw [Int.fmod_eq_emod_of_nonneg i (by omega)]; exact q)
theorem CU:OpR X (Ks .Pow) (rI Ez fun i j=>.int (i ^ j.toNat)):=opI fun _ _ _ _ _ _ _ hc q=>pow_int_small hc.1 hc.2.1 hc.2.2 q
theorem unI {f:χ->LD χ} {g:Int->Int}
  (rule:∀ (i:Int) (t:Tok) (s:AU) (Q:χ->AU->Prop) (E:χ->AU->Prop),Q (.int (g i) s.toks) { s with toks:=s.toks+1 }->FD (FQ X.prog X.w) X.A (f (.int i t)) Q E s) :
  UnR X f (rU fun i=>.int (g i)):=by
 intro pins s σ H x v Q I rx h;obtain ⟨i,rfl,q⟩:=h;obtain ⟨t,rfl⟩:=rx;exact rule i t s _ _ ⟨.int (g i),H,I.tok _,⟨_,rfl⟩,q⟩
theorem bY:UnR X (unaryOp .USub) (rU fun i=>.int (-i)):=unI fun _ _ _ _ _ q=>neg_int q
end
noncomputable def Ei:V->V->Bool
 | .non,.non=>true | .non,.int _=>true | .int _,.non=>true | .non,.bl _=>true | .bl _,.non=>true | .non,.str _=>true | .str _,.non=>true
 | .int _,.int _=>true | .bl _,.bl _=>true | .str _,.str _=>true | .byt _,.byt _=>true
 | .int _,.str _=>true | .str _,.int _=>true | .bl _,.str _=>true | .str _,.bl _=>true
 | _,_=>false
def rEq:R2:=fun x y H Q=>Ei x y=true/\Q (.bl (decide (x=y))) H
def rNe:R2:=fun x y H Q=>Ei x y=true/\Q (.bl (!decide (x=y))) H
theorem kC {i j:Int}:decide (V.int i=V.int j)=(i==j):=by
 rw [JC];simp
theorem xJ {i j:Bool}:decide (V.bl i=V.bl j)=(i==j):=by
 rw [JC];simp
theorem uo {i j:Str}:decide (V.str i=V.str j)=(i==j):=by
 rw [JC];simp
theorem uk {i j:Array UInt8}:decide (V.byt i=V.byt j)=(i.toList==j.toList):=by
 rw [JC]
 cases i
 cases j;simp
section
variable {X:Cx} {a b c:GO} {ta tb tc:TE} {pos:Jf}
theorem ba {pins:List (Δ×Hu)} {σ:St} {H:Hp} {s:AU} {Q:VK} {k k':Bool} (I:Inv X pins σ H s) (q:Q (.bl k) H) (e:k=k'):EP X pins σ Q (.bool k') s:=by
 subst e;exact ⟨.bl k,H,I,rfl,q⟩
theorem b8:OpR X (Gk .Eq) rEq:=by
 intro pins s σ H x y v u Q I rx ry h;obtain ⟨hs,q⟩:=h
 cases x with
 | non =>
  cases rx
  cases y with
  | non => cases ry; exact PySem.EqNone.eq_none_none (ba I q (by simp))
  | bl j => cases ry; exact PySem.EqNone.eq_none_bool (ba I q (by simp))
  | int j => obtain ⟨t', rfl⟩ := ry; exact PySem.EqNone.eq_none_int (ba I q (by simp))
  | str j => obtain ⟨t', rfl⟩ := ry; exact PySem.EqNone.eq_none_str (ba I q (by simp))
  | _ => exact absurd (show false = true from hs) Ft
 | bl i =>
  cases rx
  cases y with
  | non => cases ry; exact PySem.EqNone.eq_bool_none (ba I q (by simp))
  | bl j => cases ry; exact eq_bool (ba I q xJ)
  | str j => obtain ⟨t', rfl⟩ := ry; exact PySem.EqMixed.eq_bool_str (ba I q (by simp))
  | _ => exact absurd (show false = true from hs) Ft
 | int i =>
  obtain ⟨t,rfl⟩:=rx
  cases y with
  | non => cases ry; exact PySem.EqNone.eq_int_none (ba I q (by simp))
  | int j => obtain ⟨t', rfl⟩ := ry; exact eq_int (ba I q kC)
  | str j => obtain ⟨t', rfl⟩ := ry; exact PySem.EqMixed.eq_int_str (ba I q (by simp))
  | _ => exact absurd (show false = true from hs) Ft
 | str i =>
  obtain ⟨t,rfl⟩:=rx
  cases y with
  | non => cases ry; exact PySem.EqNone.eq_str_none (ba I q (by simp))
  | bl j => cases ry; exact PySem.EqMixed.eq_str_bool (ba I q (by simp))
  | int j => obtain ⟨t', rfl⟩ := ry; exact PySem.EqMixed.eq_str_int (ba I q (by simp))
  | str j => obtain ⟨t', rfl⟩ := ry; exact eq_str (ba I q uo)
  | _ => exact absurd (show false = true from hs) Ft
 | byt i =>
  obtain ⟨t,rfl⟩:=rx
  cases y with
  | byt j => obtain ⟨t', rfl⟩ := ry; exact W.eq_bytes (ba I q uk)
  | _ => exact absurd (show false = true from hs) Ft
 | _=>cases y<;>exact absurd (show false=true from hs) Ft
theorem j3:OpR X (Gk .NotEq) rNe:=by
 intro pins s σ H x y v u Q I rx ry h;obtain ⟨hs,q⟩:=h
 cases x with
 | non =>
  cases rx
  cases y with
  | non => cases ry; exact PySem.EqNone.ne_none_none (ba I q (by simp))
  | bl j => cases ry; exact PySem.EqNone.ne_none_bool (ba I q (by simp))
  | int j => obtain ⟨t', rfl⟩ := ry; exact PySem.EqNone.ne_none_int (ba I q (by simp))
  | str j => obtain ⟨t', rfl⟩ := ry; exact PySem.EqNone.ne_none_str (ba I q (by simp))
  | _ => exact absurd (show false = true from hs) Ft
 | bl i =>
  cases rx
  cases y with
  | non => cases ry; exact PySem.EqNone.ne_bool_none (ba I q (by simp))
  | bl j => cases ry; exact ne_bool (ba I q (congrArg not xJ))
  | str j => obtain ⟨t', rfl⟩ := ry; exact PySem.EqMixed.ne_bool_str (ba I q (by simp))
  | _ => exact absurd (show false = true from hs) Ft
 | int i =>
  obtain ⟨t,rfl⟩:=rx
  cases y with
  | non => cases ry; exact PySem.EqNone.ne_int_none (ba I q (by simp))
  | int j => obtain ⟨t', rfl⟩ := ry; exact ne_int (ba I q (congrArg not kC))
  | str j => obtain ⟨t', rfl⟩ := ry; exact PySem.EqMixed.ne_int_str (ba I q (by simp))
  | _ => exact absurd (show false = true from hs) Ft
 | str i =>
  obtain ⟨t,rfl⟩:=rx
  cases y with
  | non => cases ry; exact PySem.EqNone.ne_str_none (ba I q (by simp))
  | bl j => cases ry; exact PySem.EqMixed.ne_str_bool (ba I q (by simp))
  | int j => obtain ⟨t', rfl⟩ := ry; exact PySem.EqMixed.ne_str_int (ba I q (by simp))
  | str j => obtain ⟨t', rfl⟩ := ry; exact ne_str (ba I q (congrArg not uo))
  | _ => exact absurd (show false = true from hs) Ft
 | byt i =>
  obtain ⟨t,rfl⟩:=rx
  cases y with
  | byt j => obtain ⟨t', rfl⟩ := ry; exact W.ne_bytes (ba I q (congrArg not uk))
  | _ => exact absurd (show false = true from hs) Ft
 | _=>cases y<;>exact absurd (show false=true from hs) Ft
theorem dP:OpR X (Gk .Lt) (rI0 fun i j=>.bl (decide (i<j))):=CT fun _ _ _ _ _ _ _ q=>lt_int q
theorem qQ:OpR X (Gk .LtE) (rI0 fun i j=>.bl (decide (i<=j))):=CT fun _ _ _ _ _ _ _ q=>le_int q
theorem uF:OpR X (Gk .Gt) (rI0 fun i j=>.bl (decide (j<i))):=CT fun _ _ _ _ _ _ _ q=>gt_int q
theorem vW:OpR X (Gk .In) (fun x y H Q=>∃ i j,x=.str i/\y=.str j/\Q (.bl (!(Hx j i 0 j.length 1).isEmpty)) H):=by
 intro pins s σ H x y v u Q I rx ry h;obtain ⟨i,j,rfl,rfl,q⟩:=h;obtain ⟨t,rfl⟩:=rx;obtain ⟨t',rfl⟩:=ry;exact in_str (ba I q rfl)
theorem uG:OpR X (Gk .IsNot) (fun x y H Q=>y=.non/\Q (.bl (!decide (x=.non))) H):=by
 intro pins s σ H x y v u Q I rx ry h;obtain ⟨rfl,q⟩:=h
 cases ry;refine isnot_none_gen (ba I q ?_)
 cases x<;>first
  | (cases rx; rfl)
  | (obtain ⟨t, rfl⟩ := rx; rfl)
theorem yn (b:GO) {op:M9} (h:op≠.In:=by decide) (h2:op≠.NotIn:=by decide):JF op b=false:=by
 have e1:(op==CmpOp.In)=false:=by cases op<;>first | rfl | exact absurd rfl h
 have e2:(op==CmpOp.NotIn)=false:=by cases op<;>first | rfl | exact absurd rfl h2
 cases b<;>simp [JF,e1,e2]
theorem uH {op:M9} {r:R2} (ho:OpR X (Gk op) r) (ha:PE X a ta) (hb:PE X b tb) (hm:JF op b=false):PE X (.Compare a [op] [b] pos) (tOp r ta tb):=by
 intro pins s σ H Q I h;exact wpAny_Compare1 (Cr ha hb I h fun v u s2 x y H2 I2 rx ry q=>ho pins s2 σ H2 x y v u Q I2 rx ry q) hm
def u9 (t:TE):TT:=fun σ H Q=>t σ H fun x H'=>∃ k,x=.bl k/\Q k H'
theorem uN {op:M9} {r:R2} (ho:OpR X (Gk op) r) (ha:PE X a ta) (hb:PE X b tb) (hm:JF op b=false):PT X (.Compare a [op] [b] pos) (u9 (tOp r ta tb)):=by
 intro pins s σ H Q I h;refine wpAny_isTrue_Compare1 (thn (ha pins s σ H _ I h) fun v s1 ⟨x,H1,I1,r1,q1⟩=>thn (hb pins s1 σ H1 _ I1 q1) fun u s2 ⟨y,H2,I2,r2,q2⟩ =>
  thn (ho pins s2 σ H2 x y v u _ I2 r1 r2 q2) fun c s3 ⟨z,H3,I3,r3,k,e,q3⟩=>?_) hm
 subst e
 cases r3;exact Gp ⟨H3,I3,q3⟩
def tW (r r':R2) (ta tb tc:TE):TE:=fun σ H Q=>ta σ H fun x H1=>tb σ H1 fun y H2=>r x y H2 fun z H3=>∃ k,z=.bl k /\
 (if k=true then tc σ H3 fun w' H4=>r' y w' H4 Q else Q (.bl false) H3)
theorem yI {op op':M9} {r r':R2} (ho:OpR X (Gk op) r) (ho':OpR X (Gk op') r') (ha:PE X a ta) (hb:PE X b tb) (hc:PE X c tc)
  (hm:lastMarks [op,op'] [b,c]=false:=by with_unfolding_all rfl):PE X (.Compare a [op,op'] [b,c] pos) (tW r r' ta tb tc):=by
 intro pins s σ H Q I h;refine Compare_chain (thn (ha pins s σ H _ I h) fun v s1 ⟨x,H1,I1,r1,q1⟩=>chain_link (thn (hb pins s1 σ H1 _ I1 q1) fun u s2 ⟨y,H2,I2,r2,q2⟩ =>
  thn (ho pins s2 σ H2 x y v u _ I2 r1 r2 q2) fun d s3 ⟨z,H3,I3,r3,k,e,q3⟩=>?_)) hm
 subst e
 cases r3;refine Gp ?_
 cases k with
 | false=>exact ite_ff ⟨.bl false,H3,I3,rfl,q3⟩
 | true=>exact ite_tt (chain_last (thn (hc pins s3 σ H3 _ I3 q3) fun w' s4 ⟨z',H4,I4,r4,q4⟩=>ho' pins s4 σ H4 y z' u w' Q I4 r2 r4 q4))
theorem dG {op op':M9} {r r':R2} (ho:OpR X (Gk op) r) (ho':OpR X (Gk op') r') (ha:PE X a ta) (hb:PE X b tb) (hc:PE X c tc)
  (hm:lastMarks [op,op'] [b,c]=false:=by with_unfolding_all rfl):PT X (.Compare a [op,op'] [b,c] pos) (u9 (tW r r' ta tb tc)):=by
 intro pins s σ H Q I h;refine isTrue_chain (thn (ha pins s σ H _ I h) fun v s1 ⟨x,H1,I1,r1,q1⟩=>test_link (thn (hb pins s1 σ H1 _ I1 q1) fun u s2 ⟨y,H2,I2,r2,q2⟩ =>
  thn (ho pins s2 σ H2 x y v u _ I2 r1 r2 q2) fun d s3 ⟨z,H3,I3,r3,k,e,q3⟩=>?_)) hm
 subst e
 cases r3;refine Gp ?_
 cases k with
 | false =>
  obtain ⟨k',e',q'⟩:=q3
  cases e';exact ite_ff ⟨H3,I3,q'⟩
 | true =>
  refine ite_tt (test_last (thn (hc pins s3 σ H3 _ I3 q3) fun w' s4 ⟨z',H4,I4,r4,q4⟩=>thn (ho' pins s4 σ H4 y z' u w' _ I4 r2 r4 q4) fun d' s5 ⟨z2,H5,I5,r5,k2,e2,q5⟩=>?_));subst e2
  cases r5;exact Gp ⟨H5,I5,q5⟩
theorem lu:(E4:Nat)<2 ^ 63:=by rw [KR]; decide
theorem mn {x:V} {us:List χ} (r:Vals [x] us):∃ u,us=[u]/\bj x u:=by
 cases r with
 | cons r1 r2=>cases r2; exact ⟨_,rfl,r1⟩
theorem xD:bS X (.builtin "abs") (fun xs H Q=>∃ i,xs=[.int i]/\Q (.int (if i<0 then -i else i)) H):=by
 intro pins s σ H xs us Q I r h;obtain ⟨i,rfl,q⟩:=h;obtain ⟨u,rfl,t,rfl⟩:=mn r;exact call_abs_int fun u tk=>⟨.int (if i<0 then -i else i),H,I.tok _,⟨_,rfl⟩,q⟩
theorem nY:bS X (.type "str") (fun xs H Q=>∃ i,xs=[.int i]/\i.natAbs.log2<1920/\Q (.str (toString i)) H):=by
 intro pins s σ H xs us Q I r h;obtain ⟨i,rfl,hz,q⟩:=h;obtain ⟨u,rfl,t,rfl⟩:=mn r;exact PySem.P.str_of_int hz ⟨.str _,H,I.tok _,⟨_,rfl⟩,q⟩
end
structure rV (h:F6) (x dx C:Δ) (mA:Str->Option χ):Prop where
 obj:h.get? x=some (W.instObj C dx)
 ns:h.Ns1 dx mA
 ne:dx≠x
theorem vK {h:F6} {dx:Δ} {mA:Str->Option χ} (n:h.Ns1 dx mA):∃ od,h.get? dx=some od/\∀ name,W.lookIn name od=some (mA name):=by
 obtain ⟨o,es,ep,ho,hd,hk,_,hm⟩:=n;refine ⟨o,ho,fun name=>?_⟩;have e:=hm name;unfold nsFind findBy at e;rw [<- Array.find?_toList] at e;unfold W.lookIn;rw [hd];dsimp only
 split
 ·rename_i y q;rw [q] at e;exact congrArg some e
 ·rename_i q;rw [q] at e
  have a:es.toList.any (·.refKey)=false:=by
   rw [List.any_eq_false];intro y hy;obtain ⟨z,t,hkey⟩:=hk y (Array.mem_toList_iff.mp hy);simp [DictEntry.refKey,hkey]
  have a':¬ es.toList.any (·.refKey)=true:=by rw [a]; exact Ft
  rw [if_neg a'];exact congrArg some e
theorem rV.look {h:F6} {x dx C:Δ} {mA:Str->Option χ} (I:rV h x dx C mA):∃ od,PySem.W.InstAt h x (W.instObj C dx) C (some od)/\∀ name,W.lookIn name od=some (mA name) :=
 let ⟨od,ho,hl⟩:=vK I.ns
 ⟨od,⟨I.obj,rfl,rfl,ho⟩,hl⟩
section
variable {prog:FP} {w:F0} {A:Fv} {E:χ->AU->Prop} {s:AU} {K:W.Frag} {x dx C f:Δ} {mA:Str->Option χ} {name:Str} {v:χ}
theorem AD {expr:Bool} {Q:χ->AU->Prop} (X:K.In s.heap) (I:rV s.heap x dx C mA) (hg:W.plainGet K C name=true) (hh:W.hasDictIn K C=true)
  (ha:W.findIn K (.ref C) name=some none) (hv:mA name=some v) (hv':W.handedIn v=true) (h:Q v { s with toks:=s.toks+1 }) :
  FD (FQ prog w) A (getAttr (.ref x) name expr) Q E s:=by
 obtain ⟨od,J,hl⟩:=I.look;exact W.get_value X J (W.plainGet_of hg).1 (W.findObj_own hh ha rfl (by rw [hl,hv])) hv' h
theorem xT {pl:LD Bool} {Q:χ×List χ->AU->Prop} (X:K.In s.heap) (I:rV s.heap x dx C mA) (hg:W.plainGet K C name=true)
  (hf:W.findIn K (.ref C) name=some (some (.ref f))) (ht:W.isFn K (.ref f)=true) (hv:mA name=none) (h:Q (.ref f,[.ref x]) s) :
  FD (FQ prog w) A (MN (.ref x) name pl) Q E s:=by
 obtain ⟨od,J,hl⟩:=I.look;exact W.method_fn X J (W.plainGet_of hg).1 (W.plainGet_of hg).2 hf (beq_iff_eq.mp ht) (by show (W.lookIn name od).map (·.isSome)=some false; rw [hl,hv]; rfl) h
theorem Bz {ns:List Str} {Q:Unit->AU->Prop} (X:K.In s.heap) (I:rV s.heap x dx C mA)
  (hs:W.findIn K (.ref C) "__setattr__"=some (some (.builtin "object.__setattr__"))) (hp:W.plainOver K C=true) (ht:W.takerIn K C name=some none) (hh:W.hasDictIn K C=true)
  (hw:Mf mA ns) (hsz:ns.length<=E4)
  (h:∀ h',rV h' x dx C (fun y=>if y=name then some v else mA y)->H_ dx s.heap h'->Q () { s with heap:=h',toks:=s.toks+2 }) :
  FD (FQ prog w) A (setAttr (.ref x) name v) Q E s:=by
 obtain ⟨od,J,hl⟩:=I.look;refine W.set_plain X J hs (W.osa_open (s:={ s with toks:=s.toks+1 }) (r:=none) X J hp ht fun b=>?_);obtain ⟨cd,hc,hd'⟩:=W.any_some hh;have hx:s.heap.get? x=some ⟨.ref C,some dx,.plain,#[]⟩:=I.obj;refine ξ (D_ (ξ (ξ (wpAny_loadPart hx (ξ (PySem.W.Looks.here (s:={ s with toks:=s.toks+1 }) (W.looks_clsIn X hc) ?_))))));rw [hd'];refine D_ (a:=some dx) (ξ (D_ (ξ ?_)));refine wpAny_nsSet1 (s:={ s with toks:=s.toks+1 }) I.ns fun h' hn2 hs2=>?_;obtain ⟨oD,esD,epD,hoD,hdD,hcD⟩:=hn2.count (PySem.Within.cons name v hw);refine ξ (wpAny_lookBehind hoD (by rw [hdD]; exact pastItsLine_dict (Fe hcD (by rw [EX]; omega))) ?_);exact D_ (h _ ⟨(hs2.2 _ (Gd I.ne)).trans I.obj,hn2,I.ne⟩ hs2)
theorem qz {R:Result->AU->Prop} {vs:List χ} {kw:List (Str×χ)} (X:K.In s.heap) (hm:W.makesIn K C=true)
  (hi:W.findIn K (.ref C) "__init__"=some (some (.ref f))) (hf:W.typeIn K (.ref f)=some (.type "function"))
  (h:JV (FQ prog w) (A.under (.builtin "type.__call__" ⟨.ref C::vs,kw⟩)) (.call (.ref f) ⟨.ref (s.heap.objs.size+1)::vs,kw⟩) (PySem.W.InitBack (s.heap.objs.size+1) R)
   { s with heap:=(s.heap.push W.emptyDict).push (W.instObj C s.heap.objs.size) }) :
  JV (FQ prog w) A (.call (.ref C) ⟨vs,kw⟩) R s:=by
 obtain ⟨hh,g,d,t,os⟩:=s;exact W.make_core (W.makes_of X hm) (W.looks_findIn X hi) (fun self=>W.bind_fn X self hf) (.inl rfl) h
end
noncomputable def eg (f:Str) (v:V):List (Str×V)->List (Str×V)
 | []=>[(f,v)]
 | (g,x)::r=>if g=f then (g,v)::r else (g,x)::eg f v r
theorem aL (f g:Str) (v:V):∀ fs:List (Str×V),(eg f v fs).lookup g=if g=f then some v else fs.lookup g
 | []=>by
  show Jc g [(f,v)]=_
  by_cases h:g=f
  ·have hb:(g==f)=true:=beq_iff_eq.mpr h;simp only [Jc,hb,if_pos h]
  ·have hb:(g==f)=false:=beq_eq_false_iff_ne.mpr h;simp only [Jc,hb,if_neg h]
 | (k,x)::r=>by
  have ih:=aL f g v r;rw [show eg f v ((k,x)::r)=(if k=f then (k,v)::r else (k,x)::eg f v r) from rfl];by_cases hk:k=f
  ·rw [if_pos hk];by_cases h:g=k
   ·have hb:(g==k)=true:=beq_iff_eq.mpr h;simp only [Jc,hb,if_pos (h.trans hk)]
   ·have hb:(g==k)=false:=beq_eq_false_iff_ne.mpr h;simp only [Jc,hb,if_neg (fun e:g=f=>h (e.trans hk.symm))]
  ·rw [if_neg hk];by_cases h:g=k
   ·have hb:(g==k)=true:=beq_iff_eq.mpr h;simp only [Jc,hb,if_neg (fun e:g=f=>hk (h.symm.trans e))]
   ·have hb:(g==k)=false:=beq_eq_false_iff_ne.mpr h;simp only [Jc,hb];exact ih
theorem jD (f:Str) (v:V):∀ fs:List (Str×V),f∈(eg f v fs).map (·.1)/\∀ g,g∈fs.map (·.1)->g∈(eg f v fs).map (·.1)
 | []=>⟨by simp [eg],fun g h=>by simp at h⟩
 | (k,x)::r=>by
  obtain ⟨i1,i2⟩:=jD f v r;rw [show eg f v ((k,x)::r)=(if k=f then (k,v)::r else (k,x)::eg f v r) from rfl];by_cases hk:k=f
  ·rw [if_pos hk];subst hk;exact ⟨by simp,fun g h=>by simpa using h⟩
  ·rw [if_neg hk];refine ⟨?_,fun g h=>?_⟩
   ·rw [Fg];exact Ξ _ i1
   ·rw [Fg] at h ⊢;rcases BF.mp h with e | e
    ·exact BF.mpr (.inl e)
    ·exact Ξ _ (i2 g e)
theorem bq (f:Str) (v:V):∀ fs:List (Str×V),(eg f v fs).length<=fs.length+1
 | []=>by simp [eg]
 | (k,x)::r=>by
  have ih:=bq f v r;rw [show eg f v ((k,x)::r)=(if k=f then (k,v)::r else (k,x)::eg f v r) from rfl];by_cases hk:k=f
  ·rw [if_pos hk,EX,EX]; omega
  ·rw [if_neg hk,EX,EX]; omega
theorem iU.some_of {v:V} {o:Option χ} (r:iU (some v) o):∃ u,o=some u/\bj v u:=by
 cases o with
 | none=>exact (show False from r).elim
 | some u=>exact ⟨u,rfl,r⟩
theorem iU.none_of {o:Option χ} (r:iU none o):o=none:=by
 cases o with
 | none=>rfl
 | some u=>exact (show False from r).elim
theorem vA {v:V} {u:χ} (r:bj v u):W.handedIn u=true:=by
 cases v with
 | non=>cases (show u=Im from r); rfl
 | bl b=>cases (show u=K3 b from r); rfl
 | int i=>obtain ⟨t,e⟩:=(show ∃ t,u=JQ i t from r); cases e; rfl
 | str x=>obtain ⟨t,e⟩:=(show ∃ t,u=J8 x t from r); cases e; rfl
 | byt b=>obtain ⟨t,e⟩:=(show ∃ t,u=Value.bytes b t from r); cases e; rfl
 | flt b=>obtain ⟨t,e⟩:=(show ∃ t,u=M4 b t from r); cases e; rfl
 | ref a=>cases (show u=Fj a from r); rfl
 | ty n=>cases (show u=GZ n from r); rfl
section
variable {P:FP} {w:F0} {H H':Hp} {h h':F6} {a C dx:Δ} {fs fs':List (Str×V)}
theorem kF (hok:HOk P w H h) (e:H a=some (.ins C dx fs)):∃ mA,rV h a dx C mA/\(∀ f,iU (fs.lookup f) (mA f))/\Mf mA (fs.map (·.1))/\fs.length<=1000/\H dx=some (.own a):=by
 obtain ⟨d,z,ne,ob,mA,n,r,q⟩:=(show bL P w H h a (.ins C dx fs) from hok a _ e)
 exact ⟨mA,⟨ob,n,ne⟩,r,q,z,d⟩
end
structure Cls (K:W.Frag) (C:Δ):Prop where
 pg:W.plainGet K C KL=true
 hd:W.hasDictIn K C=true
 po:W.plainOver K C=true
 sa:W.findIn K (.ref C) "__setattr__"=some (some (.builtin "object.__setattr__"))
theorem Cls.get {K:W.Frag} {C:Δ} (c:Cls K C) (f:Str):W.plainGet K C f=true:=c.pg
def cU (K:W.Frag) (C:Δ) (f:Str):Prop:=W.findIn K (.ref C) f=some none
theorem cU.taker {K:W.Frag} {C:Δ} {f:Str} (n:cU K C f):W.takerIn K C f=some none:=by
 unfold W.takerIn;rw [show W.findIn K (.ref C) f=some none from n];rfl
structure Con (K:W.Frag) (C:Δ) (f:Str) (v:V) (u:χ):Prop where
 at_:W.findIn K (.ref C) f=some (some u)
 rel:bj v u
 get:W.specialIn K u "__get__"=some none
 cp:W.copiedNames.contains f=false
structure j9 (K:W.Frag) (C:Δ) (m:Str) (f:Δ):Prop where
 at_:W.findIn K (.ref C) m=some (some (.ref f))
 fn:W.isFn K (.ref f)=true
 kp:W.keepIn K (.ref f)=true
section
variable {X:Cx} {pins:List (Δ×Hu)} {σ:St} {H:Hp} {s:AU} {a C dx:Δ} {fs:List (Str×V)} {f:Str} {v:V} {A:Fv} {E:χ->AU->Prop}
theorem sr {b:Bool} {Q:χ->AU->Prop} (I:Inv X pins σ H s) (e:H a=some (.ins C dx fs)) (c:Cls X.K C) (n:cU X.K C f) (l:fs.lookup f=some v)
  (h:∀ u s',Inv X pins σ H s'->bj v u->Q u s'):FD (FQ X.prog X.w) A (getAttr (.ref a) f b) Q E s:=by
 obtain ⟨mA,O,r,_,_,_⟩:=kF I.hok e;obtain ⟨u,hu,ru⟩:=iU.some_of (v:=v) (o:=mA f) (by rw [<- l]; exact r f);exact AD I.kIn O (c.get f) c.hd n hu (vA ru) (h u _ (I.tok _) ru)
theorem kZ {m:Str} {g:Δ} {pl:LD Bool} {Q:χ×List χ->AU->Prop} (I:Inv X pins σ H s) (e:H a=some (.ins C dx fs)) (c:Cls X.K C) (k:j9 X.K C m g) (l:fs.lookup m=none)
  (h:Q (.ref g,[.ref a]) s):FD (FQ X.prog X.w) A (MN (.ref a) m pl) Q E s:=by
 obtain ⟨mA,O,r,_,_,_⟩:=kF I.hok e;have hn:mA m=none:=iU.none_of (by rw [<- l]; exact r m);exact xT I.kIn O (c.get m) k.at_ k.fn hn h
theorem tL {y:V} {u:χ} {Q:Unit->AU->Prop} (I:Inv X pins σ H s) (e:H a=some (.ins C dx fs)) (c:Cls X.K C) (n:cU X.K C f) (hl:fs.length<1000) (ry:bj y u)
  (h:∀ s',Inv X pins σ (upd H a (.ins C dx (eg f y fs))) s'->Q () s'):FD (FQ X.prog X.w) A (setAttr (.ref a) f u) Q E s:=by
 obtain ⟨mA,O,r,wi,_,ho⟩:=kF I.hok e;have hz:(fs.map (·.1)).length<=sizeLine:=by rw [Θ,KR]; omega
 refine Bz I.kIn O c.sa c.po n.taker c.hd wi hz fun h' O' sb=>h _ ?_;have hd:∃ o,h'.get? dx=some o:=let ⟨o,_,_,e',_⟩:=O'.ns; ⟨o,e'⟩;refine I.write (x:=a) (e:=dx) (by rw [e]; exact IQ) (.inr ho) (fun b q hb z=>(sb.2 b hb).trans z) hd ?_;refine ⟨by rw [ar O.ne]; exact ho,?_,O.ne,O'.obj,_,O'.ns,fun g=>?_,fun g hg=>?_⟩
 ·have:=bq f y fs; omega
 ·show iU ((eg f y fs).lookup g) (if g=f then some u else mA g)
  rw [aL];by_cases q:g=f
  ·rw [if_pos q,if_pos q]; exact ry
  ·rw [if_neg q,if_neg q]; exact r g
 ·by_cases q:g=f
  ·rw [q]; exact (jD f y fs).1
  ·refine (jD f y fs).2 g (wi g fun z=>hg ?_)
   show (if g=f then some u else mA g)=none
   rw [if_neg q]; exact z
theorem Inv.made (I:Inv X pins σ H s):Inv X pins σ (upd (upd H s.heap.objs.size (.own (s.heap.objs.size+1))) (s.heap.objs.size+1) (.ins C s.heap.objs.size []))
  { s with heap:=(s.heap.push W.emptyDict).push (W.instObj C s.heap.objs.size) }:=by
 have e1:(s.heap.push W.emptyDict).get? s.heap.objs.size=some W.emptyDict:=E5 s.heap rfl
 have e2:((s.heap.push W.emptyDict).push (W.instObj C s.heap.objs.size)).get? (s.heap.objs.size+1)=some (W.instObj C s.heap.objs.size):=by
  have:=E5 (s.heap.push W.emptyDict) (o:=W.instObj C s.heap.objs.size) rfl
  rwa [Gj] at this
 have e3:(s.heap.push W.emptyDict).Ns s.heap.objs.size (fun _=>none):=⟨W.emptyDict,#[],_,e1,rfl,(fun e he=>absurd he (by simp)),fun _=>rfl⟩
 have I1:=I.laid (a:=s.heap.objs.size) (o:=.own (s.heap.objs.size+1)) (h':=s.heap.push W.emptyDict) (t':=s.toks) (fun b u q=>ς _ q) (BE _) ⟨_,e1⟩;refine I1.laid (a:=s.heap.objs.size+1) (o:=.ins C s.heap.objs.size []) (t':=s.toks) (fun b u q=>ς _ q) (Kh (Gj _ _)) ?_;have ne:s.heap.objs.size≠s.heap.objs.size+1:=E6 (Iv _);refine ⟨by rw [ar ne,af],Fi _,ne,e2,fun _=>none,(Heap.Ns1.of_empty e3).at fun o q=>ς _ q,fun _=>IQ,fun y hy=>absurd rfl hy⟩
theorem As {prog:FP} {w:F0} {env:Lo} {e:GO} {f:Str} {pos:Jf} {s:AU} {Q:χ->AU->Prop} (hb:Kd e f env (Hs e env)=Hs e env)
  (h:FD (FQ prog w) A (Hs e env) (fun o s₁=>FD (FQ prog w) A (getAttr o f true) Q E s₁) E s):FD (FQ prog w) A (Hs (.Attribute e f pos) env) Q E s :=
 Attribute_any_ h (by rw [arm_eval_Attribute,hb])
end
def DB (K:W.Frag) (ta:TE) (f:Str):TE:=fun σ H Q=>ta σ H fun x H1=>∃ a C dx fs v,x=.ref a/\H1 a=some (.ins C dx fs)/\Cls K C/\cU K C f/\fs.lookup f=some v/\Q v H1
def Eh (K:W.Frag) (ta tv:TE) (f:Str):TS:=fun D σ H=>tv σ H fun y H1=>ta σ H1 fun x H2=>∃ a C dx fs,x=.ref a/\H2 a=some (.ins C dx fs)/\Cls K C/\cU K C f/\fs.length<1000 /\
 D.nx σ (upd H2 a (.ins C dx (eg f y fs)))
section
variable {X:Cx} {o e value:GO} {f:Str} {pos pos' tpos:Jf} {ta tv:TE}
theorem CY (he:PE X e ta) (hb:Kd e f X.env (Hs e X.env)=Hs e X.env):PE X (.Attribute e f pos) (DB X.K ta f):=by
 intro pins s σ H Q I h;refine As hb (thn (he pins s σ H _ I h) fun u s1 ⟨x,H1,I1,rx,a,C,dx,fs,v,ex,ea,c,n,l,q⟩=>?_);subst ex;obtain rfl:u=Fj a:=rx
 exact sr I1 ea c n l fun u' s2 I2 ru=>⟨v,H1,I2,ru,q⟩
theorem lI (ha:PE X o ta) (hv:PE X value tv) (hs:LK value (some (.Attribute o f pos')) pos.line X.env=pure false):PS X (.Assign [.Attribute o f pos'] value pos) (Eh X.K ta tv f):=by
 intro pins s σ H D I h;refine plainObj_wpAny_Assign_Attribute (thn (hv pins s σ H _ I h) fun u s1 ⟨y,H1,I1,ry,q⟩=>thn (ha pins s1 σ H1 _ I1 q) fun ov s2 ⟨x,H2,I2,rx,a,C,dx,fs,ex,ea,c,n,l,q2⟩=>?_) hs;subst ex;obtain rfl:ov=Fj a:=rx
 exact tL I2 ea c n l ry fun s3 I3=>⟨σ,_,I3,q2⟩
end
section
variable {X:Cx} {pins:List (Δ×Hu)} {σ:St} {H:Hp} {s:AU} {A:Fv} {E:χ->AU->Prop} {Q:χ->AU->Prop} {c:χ} {b:Bool}
inductive h9 (K:W.Frag) (H:Hp):V->χ->Prop where
  | non : h9 K H .non (.type "NoneType")
  | bl (x : Bool) : h9 K H (.bl x) (.type "bool")
  | int (i : Int) : h9 K H (.int i) (.type "int")
  | str (x : Str) : h9 K H (.str x) (.type "str")
  | flt (x : UInt64) : h9 K H (.flt x) (.type "float")
  | lst {a : Δ} {xs : List V} (e : H a = some (.lst xs)) : h9 K H (.ref a) (.type "list")
  | frz {a : Δ} {o : Hu} {xs : List V} (e : H a = some (.frz o (.lst xs))) : h9 K H (.ref a) (.type "list")
  | tup {a : Δ} {xs : List V} (e : H a = some (.tup xs)) : h9 K H (.ref a) (.type "tuple")
  | dK {a : Δ} {kvs : List (Key × V)} (e : H a = some (.dK kvs)) : h9 K H (.ref a) (.type "dict")
  | dT {a : Δ} {kvs : List (List Key × V)} (e : H a = some (.dT kvs)) : h9 K H (.ref a) (.type "dict")
  | ins {a C dx : Δ} {fs : List (Str × V)} (e : H a = some (.ins C dx fs)) (cl : Cls K C) (ha : W.findIn K (.ref C) "__class__" = some (some (.builtin "object.__class__")))
      (hn:W.specialIn K (.builtin "object.__class__") "__get__"=some (some (.builtin "getset_descriptor.__get__"))) (htk:W.takesIn K (.builtin "object.__class__")=some true)
      (hm:W.mroIn K C (.type "object")=some true):h9 K H (.ref a) (.ref C)
theorem vD {x:V} {u t:χ} (I:Inv X pins σ H s) (rx:bj x u) (ty:h9 X.K H x t) (e:W.kitOne X.K t c=some b) (h:∀ tk,Q (.bool b) { s with toks:=tk }) :
  FD (FQ X.prog X.w) A (call (.builtin "isinstance") [u,c]) Q E s:=by
 cases ty with
 | non=>cases (show u=Im from rx); exact W.kia_one W.kitx_none I.kIn IQ e (fun z=>nomatch z) h
 | bl y=>cases (show u=K3 y from rx); exact W.kia_one W.kitx_bool I.kIn IQ e (fun z=>nomatch z) h
 | int i=>obtain ⟨t,q⟩:=(show ∃ t,u=JQ i t from rx); cases q; exact W.kia_one W.kitx_int I.kIn IQ e (fun z=>nomatch z) h
 | str y=>obtain ⟨t,q⟩:=(show ∃ t,u=J8 y t from rx); cases q; exact W.kia_one W.kitx_str I.kIn IQ e (fun z=>nomatch z) h
 | flt y=>obtain ⟨t,q⟩:=(show ∃ t,u=M4 y t from rx); cases q; exact W.kia_one W.kitx_float I.kIn IQ e (fun z=>nomatch z) h
 | @lst a xs ea =>
  cases (show u=Fj a from rx)
  obtain ⟨_,_,n,_,h1⟩:=(show bL X.prog X.w H s.heap a (.lst xs) from I.hok a _ ea)
  exact W.kia_one W.kitx_list I.kIn ⟨_,h1,rfl⟩ e (fun z=>nomatch z) h
 | @frz a ob xs ea =>
  cases (show u=Fj a from rx)
  obtain ⟨_,_,_,n,_,h1⟩:=(show bL X.prog X.w H s.heap a (.frz ob (.lst xs)) from I.hok a _ ea)
  exact W.kia_one W.kitx_list I.kIn ⟨_,h1,rfl⟩ e (fun z=>nomatch z) h
 | @tup a xs ea =>
  cases (show u=Fj a from rx)
  obtain ⟨_,_,_,p⟩:=(show bL X.prog X.w H s.heap a (.tup xs) from I.hok a _ ea)
  obtain ⟨o,h1,h2,_⟩:=p;exact W.kia_one W.kitx_tuple I.kIn ⟨o,h1,h2⟩ e (fun z=>nomatch z) h
 | @dK a kvs ea =>
  cases (show u=Fj a from rx)
  obtain ⟨_,_,vs,_,p⟩:=(show bL X.prog X.w H s.heap a (.dK kvs) from I.hok a _ ea)
  obtain ⟨o,es,ep,h1,h2,_⟩:=p;exact W.kia_one W.kitx_dict I.kIn ⟨o,h1,h2.1⟩ e (fun z=>nomatch z) h
 | @dT a kvs ea =>
  cases (show u=Fj a from rx)
  obtain ⟨_,_,xs,_,o,es,ep,h1,h2,_⟩:=(show bL X.prog X.w H s.heap a (.dT kvs) from I.hok a _ ea)
  exact W.kia_one W.kitx_dict I.kIn ⟨o,h1,h2.1⟩ e (fun z=>nomatch z) h
 | @ins a C dx fs ea cl ha hn htk hm =>
  cases (show u=Fj a from rx)
  obtain ⟨mA,O,_⟩:=kF I.hok ea;obtain ⟨od,J,_⟩:=O.look;exact W.kia_one (W.kitx_own (cl.get _) cl.hd ha hn htk hm) I.kIn J e (fun z=>nomatch z) h
end
structure b6 (k:Nat) (A:Fv):Prop where
 hd:A.handled=none
 dp:A.depth+3*k+5<recursionLimit
 un:A.units+16*k+200<Iq
theorem b6.mono {j k:Nat} {A:Fv} (r:b6 k A) (h:j<=k):b6 j A:=⟨r.hd,by have:=r.dp; omega,by have:=r.un; omega⟩
theorem b6.deeper {k:Nat} {A:Fv} (r:b6 (k+1) A) (env:Lo):b6 k (A.deeper env) :=
 ⟨r.hd,by have:=r.dp; show A.depth+1+3*k+5<_; omega,by have:=r.un; show A.units+3+16*k+200<_; omega⟩
theorem b6.in1 {k:Nat} {A:Fv} (r:b6 (k+1) A):b6 k A.in1 :=
 ⟨r.hd,by have:=r.dp; show A.depth+3*k+5<_; omega,by have:=r.un; show A.units+1+16*k+200<_; omega⟩
theorem sV {A:Fv} {C:Δ} {us:List χ} {kw:List (Str×χ)}:(A.under (.builtin "type.__call__" ⟨.ref C::us,kw⟩)).depth=A.depth+1:=by
 first | rfl | simp [Mb,Code.weight,Code.isCreation,Code.isGuard,Code.isCaller,Code.frames,Mx,guardIds]
theorem sW {A:Fv} {C:Δ} {us:List χ} {kw:List (Str×χ)}:(A.under (.builtin "type.__call__" ⟨.ref C::us,kw⟩)).units=A.units+1:=by
 first | rfl | simp [Mb,Code.cUnits,Code.frames,Mx]
theorem b6.make {k:Nat} {A:Fv} (r:b6 (k+1) A) (C:Δ) (us:List χ) (kw:List (Str×χ)):b6 k (A.under (.builtin "type.__call__" ⟨.ref C::us,kw⟩)) :=
 ⟨r.hd,by have:=r.dp; rw [sV]; omega,by have:=r.un; rw [sW]; omega⟩
theorem b6.depth {k:Nat} {A:Fv} (r:b6 k A):A.depth<recursionLimit:=by have:=r.dp; omega
theorem b6.units {k:Nat} {A:Fv} (r:b6 k A):A.units+64<cLine:=by have:=r.un; omega
def DC:TA:=fun _ H Q=>Q [] H
def B9 (ta:TE) (tr:TA):TA:=fun σ H Q=>ta σ H fun x H1=>tr σ H1 fun xs H2=>Q (x::xs) H2
section
variable {X:Cx} {e:GO} {es:List GO} {te:TE} {t:TA} {pos:Jf}
theorem ae:PA X [] DC:=fun _ _ _ _ H Q I h=>Jx ⟨[],H,I,.nil,h⟩
theorem aa (ha:PE X e te) (hr:PA X es t) (hs:Fq (e::es) X.env=(false,Hs e X.env)::Fq es X.env:=by rfl):PA X (e::es) (B9 te t):=by
 intro pos pins s σ H Q I h;rw [hs]
 show FD _ _ (spliced ((false,Hs e X.env)::Ih pos (Fq es X.env))) _ _ s
 refine Jp (thn (ha pins s σ H _ I h) fun u s1 ⟨x,H1,I1,r1,q1⟩=>?_);exact thn (hr pos pins s1 σ H1 _ I1 q1) fun us s2 ⟨xs,H2,I2,r2,q2⟩=>⟨x::xs,H2,I2,.cons r1 r2,q2⟩
def Eu (t:TA):TE:=fun σ H Q=>t σ H fun xs H1=>xs.length<=E4/\∀ p,H1 p=none->Q (.ref p) (upd H1 p (.tup xs))
def Eo (t:TA):TE:=fun σ H Q=>t σ H fun xs H1=>xs.length<=E4/\∀ p,H1 p=none->Q (.ref p) (upd H1 p (.lst xs))
theorem bJ {x1} (h:PA X es t):PE X (.Tuple es x1 pos) (Eu t):=by
 intro pins s σ H Q I hq;refine wpAny_Tuple_spliced (thn (h pos pins s σ H _ I hq) fun us s1 ⟨xs,H1,I1,r,z,q⟩=>⟨by rw [<- r.length]; exact z,?_⟩);have hf:H1 s1.heap.objs.size=none:=I1.hok.fresh (BE _);refine ⟨.ref s1.heap.objs.size,upd H1 s1.heap.objs.size (.tup xs),I1.laid (t':=s1.toks) (fun b u e=>ς _ e) (BE _) ?_,rfl,q _ hf⟩;exact ⟨z,us,r,⟨_,E5 _ rfl,rfl,_,rfl⟩⟩
theorem bT (h:PA X es t):PE X (.List es pos) (Eo t):=by
 intro pins s σ H Q I hq;refine wpAny_List_spliced (thn (h pos pins s σ H _ I hq) fun us s1 ⟨xs,H1,I1,r,z,q⟩=>⟨by rw [<- r.length]; exact z,?_⟩);have hf:H1 s1.heap.objs.size=none:=I1.hok.fresh (BE _);refine ⟨.ref s1.heap.objs.size,upd H1 s1.heap.objs.size (.lst xs),I1.laid (t':=s1.toks) (fun b u e=>ς _ e) (BE _) ?_,rfl,q _ hf⟩;exact ⟨z,us,0,r,E5 _ rfl⟩
end
noncomputable abbrev Sp:=List V->Hp->VK->XK->Prop
noncomputable abbrev CXT:=List Lo->Hp->AU->XK->χ->AU->Prop
structure rS (P:FP) (w:F0) (K:W.Frag) (mg:Str->Option χ) (base:F6) (A:Fv) (outer:List Lo) (s:AU) (H:Hp):Prop where
 frames:A.frames=some outer
 mod:Mod K mg base
 bs:∀ b o,base.get? b=some o->s.heap.get? b=some o/\H b=none
 bsz:base.objs.size<=s.heap.objs.size
 funs:s.heap.FunFrames base outer
 frf:∀ b∈frs outer,H b=none
 hok:HOk P w H s.heap
 bare:J2 s.gens
def CE (outer:List Lo) (P:FP) (w:F0) (H:Hp) (s:AU) (Q:VK) (u:χ) (s':AU):Prop :=
 ∃ v H',s'.os=s.os/\J2 s'.gens/\Un (frs outer) [] H H' s.heap s'.heap/\HOk P w H' s'.heap/\bj v u/\Q v H'
def CR (CX:CXT) (outer:List Lo) (P:FP) (w:F0) (H:Hp) (s:AU) (Q:VK) (E:XK) (r:Result) (s':AU):Prop :=
 match r with
 | .ok (.ret u)=>CE outer P w H s Q u s'
 | .ok _=>False
 | .error e=>CX outer H s E e s'
structure aN (P:FP) (w:F0) (K:W.Frag) (mg:Str->Option χ) (base:F6) (CX:CXT) (k:Nat) (f:Δ) (fd:GX) (ps:List Str) (sp:Sp):Prop where
 len:∀ vs H Q E,sp vs H Q E->vs.length=ps.length
 run:∀ (A:Fv) (outer:List Lo) (s:AU) (H:Hp) (args:Args) (us:List χ) (vs:List V) (Q:VK) (E:XK),b6 k A->rS P w K mg base A outer s H->Mz s fd args (ps.zip us)->Vals vs us->sp vs H Q E ->
  JV (FQ P w) A (.call (.ref f) args) (CR CX outer P w H s Q E) s
theorem rS.make {P:FP} {w:F0} {K:W.Frag} {mg:Str->Option χ} {base:F6} {A:Fv} {outer:List Lo} {s:AU} {H:Hp} (e:rS P w K mg base A outer s H) (C:Δ) (us:List χ) (kw:List (Str×χ)) :
  rS P w K mg base (A.under (.builtin "type.__call__" ⟨.ref C::us,kw⟩)) outer s H:=⟨by first | exact e.frames | (simpa [Mb,Code.envs,Mx,pushEnvs] using e.frames),e.mod,e.bs,e.bsz,e.funs,e.frf,e.hok,e.bare⟩
section
variable {X:Cx} {pins:List (Δ×Hu)} {σ:St} {H:Hp} {s s':AU}
theorem Inv.env0 (I:Inv X pins σ H s):rS X.prog X.w X.K X.mg X.base X.A X.stack s H :=
 ⟨I.ok.frames,I.ok.mod,I.bs,Fe I.ok.bsz I.sz,I.stack,I.stkFree,I.hok,I.bare⟩
theorem Inv.after {Q:VK} {u:χ} (I:Inv X pins σ H s) (h:CE X.stack X.prog X.w H s Q u s'):EP X pins σ Q u s':=by
 obtain ⟨v,H',os,bare,un,hok,r,q⟩:=h;obtain ⟨hh,g,d,t,os'⟩:=s';obtain rfl:os'=s.os:=os
 exact ⟨v,H',I.call (h':=hh) (g':=g) (d':=d) (t':=t) (ch:=[]) un hok bare (fun b z=>absurd z (by simp)),r,q⟩
end
def Ab (sp:Sp) (dvs:List V) (E:XK) (t:TA):TE:=fun σ H Q=>t σ H fun vs H1=>sp (vs++dvs) H1 Q E
def Ag (C:Δ) (m:Str) (sp:Sp) (dvs:List V) (E:XK) (ta:TE) (t:TA):TE:=fun σ H Q=>ta σ H fun x H1=>∃ a dx fs,x=.ref a/\H1 a=some (.ins C dx fs)/\fs.lookup m=none /\
 t σ H1 fun vs H2=>sp (x::(vs++dvs)) H2 Q E
def Cd (C:Δ) (sp:Sp) (dvs:List V) (E:XK) (t:TA):TE:=fun σ H Q=>t σ H fun vs H1=>∀ x dx,H1 x=none->H1 dx=none->dx≠x ->
 sp (.ref x::(vs++dvs)) (upd (upd H1 dx (.own x)) x (.ins C dx [])) (fun v H2=>v=.non/\Q (.ref x) H2) E
def aI (K:W.Frag) (fd:GX) (ps:List Str) (ds:List χ):Prop :=
 ∀ (s:AU) (us:List χ),K.In s.heap->(us++ds).length=ps.length->Mz s fd ⟨us,[]⟩ (ps.zip (us++ds))
theorem aI.all {K:W.Frag} {fd:GX} {ps:List Str} (h:∀ us:List χ,us.length=ps.length->Kr fd ⟨us,[]⟩=pure (ps.zip us)):aI K fd ps []:=fun s us _ hl=>by
 rw [FH] at hl ⊢;exact .of_eq (h us hl)
def fD (CX:CXT) (X:Cx) (E:XK):Prop:=∀ (pins:List (Δ×Hu)) (σ:St) (H:Hp) (s:AU) (e:χ) (s':AU),Inv X pins σ H s->CX X.stack H s E e s'->X.xe e s'
section
variable {X:Cx} {CX:CXT} {k:Nat} {f C:Δ} {fd:GX} {ps:List Str} {sp:Sp} {dvs:List V} {ds:List χ} {E:XK} {x m:Str} {p pos apos:Jf} {e o:GO} {es:List GO} {ta:TE} {t:TA}
theorem oY {pins:List (Δ×Hu)} {σ:St} {H:Hp} {s:AU} {Q:VK} {us:List χ} {vs:List V} (F:aN X.prog X.w X.K X.mg X.base CX k f fd ps sp) (hr:b6 k X.A) (hb:aI X.K fd ps ds) (hd:Vals dvs ds) (hx:fD CX X E)
  (I:Inv X pins σ H s) (r:Vals vs us) (h:sp (vs++dvs) H Q E):FD (FQ X.prog X.w) X.A (call (.ref f) us) (EP X pins σ Q) X.xe s:=by
 have r2:Vals (vs++dvs) (us++ds):=r.append hd;have hl:(us++ds).length=ps.length:=by rw [<- r2.length]; exact F.len _ _ _ _ h
 refine M0 (JA (F.run X.A X.stack s H ⟨us,[]⟩ (us++ds) (vs++dvs) Q E hr I.env0 (hb s us I.kIn hl) r2 h) fun r s' hq=>?_)
 cases r with
 | error e=>exact hx pins σ H s e s' I hq
 | ok fl =>
  cases fl with
  | ret u => exact I.after hq
  | next => exact GU hq
  | brk => exact GU hq
  | cont => exact GU hq
theorem aj (F:aN X.prog X.w X.K X.mg X.base CX k f fd ps sp) (hr:b6 k X.A) (hg:Gl X x) (hm:X.mg x=some (.ref f)) (hk:W.keepIn X.K (.ref f)=true) (hb:aI X.K fd ps ds) (hd:Vals dvs ds) (hx:fD CX X E)
  (ha:PA X (e::es) t) (hdb:(x==("__debug__":Str))=false:=by decide) (he:Fq (e::es) X.env=(false,Hs e X.env)::Fq es X.env:=by rfl) (hpl:(Ih pos (Fq es X.env)).any (·.1)=false:=by rfl) :
  PE X (.Call (.Name x p) (e::es) [] pos) (Ab sp dvs E t):=by
 intro pins s σ H Q I h;refine HS (fK I hg hm ?_ hdb);refine W.callWith_K (h₀:=X.base) I.ok.mod.kin hk (thn (ha pos pins s σ H _ I h) fun us s1 ⟨vs,H1,I1,r,q⟩=>⟨I1.kIn,?_⟩) he hpl;exact oY F hr hb hd hx I1 r q
theorem eU {pl:LD Bool} (he:PE X o ta) (c:Cls X.K C) (hm:j9 X.K C m f) (F:aN X.prog X.w X.K X.mg X.base CX k f fd ps sp) (hr:b6 k X.A) (hb:aI X.K fd ps ds) (hd:Vals dvs ds) (hx:fD CX X E) (ha:PA X (e::es) t)
  (hst:Fq (e::es) X.env=(false,Hs e X.env)::Fq es X.env:=by rfl) (hpl:(Ih pos (Fq es X.env)).any (·.1)=false:=by rfl)
  (ht:Hs (.Call (.Attribute o m apos) (e::es) [] pos) X.env=(do
   let ov <- Hs o X.env
   standAt apos.atName
   let (f,first) <- Mp [ov] (MN ov m pl)
   callWith pos f first (Ih pos (Fq (e::es) X.env)) (backToKw pos (MS [] X.env))):=by rfl) :
  PE X (.Call (.Attribute o m apos) (e::es) [] pos) (Ag C m sp dvs E ta t):=by
 intro pins s σ H Q I h;refine W.methodCall_KW (pl:=pl) (thn (he pins s σ H _ I h) fun u s1 ⟨x,H1,I1,rx,a,dx,fs,ex,ea,l,q⟩=>?_) ht;subst ex;obtain rfl:u=Fj a:=rx
 refine kZ I1 ea c hm l ?_;refine W.callWith_K (first:=[.ref a]) (h₀:=X.base) I.ok.mod.kin hm.kp (thn (ha pos pins s1 σ H1 _ I1 q) fun us s2 ⟨vs,H2,I2,r,q2⟩=>⟨I2.kIn,?_⟩) hst hpl;exact oY (us:=.ref a::us) (vs:=.ref a::vs) F hr hb hd hx I2 (.cons rfl r) q2
theorem aE {pl:LD Bool} (he:PE X o ta) (c:Cls X.K C) (hm:j9 X.K C m f) (F:aN X.prog X.w X.K X.mg X.base CX k f fd ps sp) (hr:b6 k X.A) (hb:aI X.K fd ps ds) (hd:Vals dvs ds) (hx:fD CX X E)
  (ht:Hs (.Call (.Attribute o m apos) [] [] pos) X.env=(do
   let ov <- Hs o X.env
   standAt apos.atName
   let (f,first) <- Mp [ov] (MN ov m pl)
   callWith pos f first (Ih pos (Fq [] X.env)) (backToKw pos (MS [] X.env))):=by rfl) :
  PE X (.Call (.Attribute o m apos) [] [] pos) (Ag C m sp dvs E ta DC):=by
 intro pins s σ H Q I h;refine W.methodCall_KW (pl:=pl) (thn (he pins s σ H _ I h) fun u s1 ⟨x,H1,I1,rx,a,dx,fs,ex,ea,l,q⟩=>?_) ht;subst ex;obtain rfl:u=Fj a:=rx
 refine kZ I1 ea c hm l ?_;exact W.callWith_K0 (first:=[.ref a]) I1.kIn hm.kp (oY (us:=[.ref a]) (vs:=[.ref a]) F hr hb hd hx I1 (.cons rfl .nil) q)
structure Mk (K:W.Frag) (C f:Δ):Prop where
 makes:W.makesIn K C=true
 init:W.findIn K (.ref C) "__init__"=some (some (.ref f))
 fn:W.isFn K (.ref f)=true
 kp:W.keepIn K (.ref C)=true
theorem zI {pins:List (Δ×Hu)} {σ:St} {H:Hp} {s:AU} {Q:VK} {us:List χ} {vs:List V} (M:Mk X.K C f) (F:aN X.prog X.w X.K X.mg X.base CX k f fd ps sp) (hr:b6 (k+1) X.A) (hb:aI X.K fd ps ds) (hd:Vals dvs ds)
  (hx:fD CX X E) (I:Inv X pins σ H s) (r:Vals vs us)
  (h:∀ x dx,H x=none->H dx=none->dx≠x->sp (.ref x::(vs++dvs)) (upd (upd H dx (.own x)) x (.ins C dx [])) (fun v H2=>v=.non/\Q (.ref x) H2) E) :
  FD (FQ X.prog X.w) X.A (call (.ref C) us) (EP X pins σ Q) X.xe s:=by
 have hq:=h (s.heap.objs.size+1) s.heap.objs.size (I.hok.fresh (HU _)) (I.hok.fresh (BE _)) (E6 (Iv _));have I2:=Inv.made (C:=C) I;have r2:Vals (V.ref (s.heap.objs.size+1)::(vs++dvs)) (Fj (s.heap.objs.size+1)::(us++ds)):=.cons rfl (r.append hd)
 have hl:(Fj (s.heap.objs.size+1)::us++ds).length=ps.length:=by
  have e:=r2.length;rw [F.len _ _ _ _ hq] at e;exact e.symm
 refine M0 (qz (f:=f) I.kIn M.makes M.init (beq_iff_eq.mp M.fn) (JA (F.run _ X.stack _ _ ⟨Fj (s.heap.objs.size+1)::us,[]⟩ (Fj (s.heap.objs.size+1)::(us++ds)) _ _ E (hr.make C us [])
  (I2.env0.make C us []) (hb _ (Fj (s.heap.objs.size+1)::us) I2.kIn hl) r2 hq) fun r s' hq'=>?_))
 cases r with
 | error e=>exact hx pins σ _ _ e s' I2 hq'
 | ok fl =>
  cases fl with
  | ret u =>
   obtain ⟨v,H',I3,rv,ev,q3⟩:=I2.after hq';subst ev;exact ⟨rv,⟨V.ref (s.heap.objs.size+1),H',I3,rfl,q3⟩⟩
  | next => exact GU hq'
  | brk => exact GU hq'
  | cont => exact GU hq'
theorem fO (M:Mk X.K C f) (F:aN X.prog X.w X.K X.mg X.base CX k f fd ps sp) (hr:b6 (k+1) X.A) (hg:Gl X x) (hm:X.mg x=some (.ref C)) (hb:aI X.K fd ps ds) (hd:Vals dvs ds) (hx:fD CX X E)
  (ha:PA X (e::es) t) (hdb:(x==("__debug__":Str))=false:=by decide) (he:Fq (e::es) X.env=(false,Hs e X.env)::Fq es X.env:=by rfl) (hpl:(Ih pos (Fq es X.env)).any (·.1)=false:=by rfl) :
  PE X (.Call (.Name x p) (e::es) [] pos) (Cd C sp dvs E t):=by
 intro pins s σ H Q I h;refine HS (fK I hg hm ?_ hdb);refine W.callWith_K (h₀:=X.base) I.ok.mod.kin M.kp (thn (ha pos pins s σ H _ I h) fun us s1 ⟨vs,H1,I1,r,q⟩=>⟨I1.kIn,?_⟩) he hpl;exact zI M F hr hb hd hx I1 r q
end
structure ay (N P:List Str) (sc:KS):Prop where
 kind:sc.kind=.function
 co:sc.isCoroutine=false
 gen:sc.isGenerator=false
 nd:N.Nodup
 pre:N.take P.length=P
 par:∀ x∈P,sc.names.lookup x=some .local\/sc.names.lookup x=some .cell
 nofree:∀ y∈sc.names,y.2≠.free
theorem m7 {G0:Str->Option J9} {x:Str}:∀ {binds:List (Str×χ)} {m:Str->Option χ},(∀ v,(x,v)∉binds)->NX G0 binds m x=m x
 | [],_,_=>rfl
 | (n,v)::r,m,h=>by
  unfold NX;rw [m7 fun w hw=>h w (Ξ _ hw)]
  split
  ·have:x≠n:=by rintro rfl; exact h v θ
   simp [this]
  ·rfl
theorem mY {G0:Str->Option J9} {x:Str}:∀ {binds:List (Str×χ)} {m:Str->Option χ},(∀ v,(x,v)∉binds)->NY G0 binds m x=m x
 | [],_,_=>rfl
 | (n,v)::r,m,h=>by
  unfold NY;rw [mY fun w hw=>h w (Ξ _ hw)]
  split
  ·rfl
  ·have:x≠n:=by rintro rfl; exact h v θ
   simp [this]
theorem mZ {G0:Str->Option J9} {x:Str} {v:χ}:∀ {P:List Str} {vs:List χ} {i:Nat} {m:Str->Option χ},P.Nodup->P[i]?=some x->vs[i]?=some v->G0 x=some .local ->
  NX G0 (P.zip vs) m x=some v
 | [],_,_,_,_,h,_,_=>by simp at h
 | _::_,[],_,_,_,_,h,_=>by simp at h
 | p::P,w::vs,0,m,nd,h1,h2,hk=>by
  simp at h1 h2; subst h1; subst h2
  show NX G0 ((p,w)::P.zip vs) m p=_
  unfold NX;rw [m7 fun v hv=>(Fb.mp nd).1 (Lr hv).1,if_pos hk];simp
 | p::P,w::vs,i+1,m,nd,h1,h2,hk=>by
  show NX G0 ((p,w)::P.zip vs) m x=_
  unfold NX;exact mZ (i:=i) (Fb.mp nd).2 (by simpa using h1) (by simpa using h2) hk
theorem mX {G0:Str->Option J9} {x:Str} {v:χ}:∀ {P:List Str} {vs:List χ} {i:Nat} {m:Str->Option χ},P.Nodup->P[i]?=some x->vs[i]?=some v->G0 x≠some .local ->
  NY G0 (P.zip vs) m x=some v
 | [],_,_,_,_,h,_,_=>by simp at h
 | _::_,[],_,_,_,_,h,_=>by simp at h
 | p::P,w::vs,0,m,nd,h1,h2,hk=>by
  simp at h1 h2; subst h1; subst h2
  show NY G0 ((p,w)::P.zip vs) m p=_
  unfold NY;rw [mY fun v hv=>(Fb.mp nd).1 (Lr hv).1,if_neg hk];simp
 | p::P,w::vs,i+1,m,nd,h1,h2,hk=>by
  show NY G0 ((p,w)::P.zip vs) m x=_
  unfold NY;exact mX (i:=i) (Fb.mp nd).2 (by simpa using h1) (by simpa using h2) hk
noncomputable def start (N:List Str) (vs:List V):St:=vs.map some++JG (N.length - vs.length) none
noncomputable def fq (CX:CXT) (P:FP) (w:F0) (K:W.Frag) (mg:Str->Option χ) (base:F6) (N:List Str) (qual:Str) (scope:KS) (f:Δ) (cd:χ) (A:Fv) (outer:List Lo) (s:AU) (H:Hp) (E:XK):Cx where
 prog:=P
 w:=w
 K:=K
 mg:=mg
 base:=base
 A:=A.deeper (Kc qual scope s.heap.objs.size f cd)
 N:=N
 s₀:=s
 H₀:=H
 env:=Kc qual scope s.heap.objs.size f cd
 outer:=outer
 stack:=Kc qual scope s.heap.objs.size f cd::outer
 ex:=[]
 calm:=true
 fn:=fun _=>true
 pn:=[]
 xe:=fun e s'=>FD (FQ P w) (A.deeper (Kc qual scope s.heap.objs.size f cd)) (leaving (Kc qual scope s.heap.objs.size f cd) e) (fun _ s''=>CX outer H s E e s'') (fun e' s''=>CX outer H s E e' s'') s'
theorem qk {sc:KS} {n:Nat} {x:Str} (h:sc.names.lookup x=some .cell):∃ c,(cellsFrom n sc.names []).lookup x=some c:=by
 have q:=W.cellsFrom_some sc.names n [] (.inl h);exact Option.isSome_iff_exists.mp q
theorem vC {CX:CXT} {P:FP} {w:F0} {K:W.Frag} {mg:Str->Option χ} {base:F6} {N ps:List Str} {qual:Str} {scope:KS} {f:Δ} {cd:χ} {A:Fv} {outer:List Lo} {s s1:AU} {H:Hp} {E:XK} {us:List χ} {vs:List V}
    (S:ay N ps scope) (hd:A.handled=none) (e0:rS P w K mg base A outer s H) (hl:vs.length=ps.length) (r:Vals vs us)
    (x:InCallC s s.heap.objs.size (NX (Kc qual scope s.heap.objs.size f cd).kindOf (ps.zip us) fun _=>none) (cellsFrom (s.heap.objs.size+1) scope.names []) (NY (Kc qual scope s.heap.objs.size f cd).kindOf (ps.zip us) fun _=>none) s1) :
    Inv (fq CX P w K mg base N qual scope f cd A outer s H E) [] (start N vs) H s1:=by
  have hpl:ps.length<=N.length:=by have:=congrArg Jd S.pre; rw [Fl] at this; omega
  obtain ⟨h1,tk,rfl,hk⟩:=x.done;have noA:∀ b:Δ,b∉(fq CX P w K mg base N qual scope f cd A outer s H E).ex:=fun b z=>absurd (show b∈([]:List Δ) from z) (by simp);refine ⟨⟨e0.mod,S.kind,rfl,rfl,BE _,fun y z c h1 h2=>?_,fun y hy=>?_,fun y c _ h=>?_,fun _=>hd,Around.frames_deeper e0.frames,.inr ⟨rfl,rfl⟩,fun b z=>absurd z (noA b),e0.bs,e0.bsz,fun b _ _=>noA b,fun b z=>absurd z (noA b),e0.funs,e0.frf⟩,
    rfl,e0.bare,Un.kept hk,⟨_,x.toInCall.ns,fun i y v h1 h2 h3=>?_⟩,fun y c h=>⟨_,x.cell y c h⟩,e0.hok.fresh (BE _),fun y c h=>?_,fun p hp=>absurd (show p∈([]:List (Δ×Hu)) from hp) (by simp),e0.hok.kept hk,?_⟩
  · exact name_of_addr x.apart (Iu h1) (Iu h2)
  · have hy:scope.names.lookup y=some .cell\/scope.names.lookup y=some .free:=hy
    rcases hy with hy | hy
    · exact qk hy
    · exact absurd rfl (S.nofree _ (Iu hy))
  · exact LV (x.above y c (Iu h))
  · have hi:i<vs.length:=by
      unfold start at h2;by_cases hi:i<vs.length
      · exact hi
      · rw [F4 (by simpa using hi)] at h2
        rw [KG] at h2
        split at h2<;>cases h2
    have ha:vs[i]?=some v:=by
      unfold start at h2;rw [GK (by simpa using hi),FE] at h2
      cases e:vs[i]? with
      | none=>rw [e] at h2; cases h2
      | some a=>rw [e] at h2; cases h2; rfl
    obtain ⟨u,hu,rv⟩:=r.get ha
    have hp:ps[i]?=some y:=by
      rw [<- S.pre,G9 (by omega)]; exact h1
    have ndP:ps.Nodup:=by rw [<- S.pre]; exact S.nd.sublist (GG _ _)
    refine ⟨u,rv,?_⟩;rcases S.par y (FN hp) with k | k
    · exact .inl ⟨k,mZ ndP hp hu k⟩
    · obtain ⟨c,e⟩:=qk (n:=s.heap.objs.size+1) k
      refine .inr ⟨.inl k,c,e,?_⟩;have q:=x.cell y c e;rw [mX ndP hp hu (by show scope.names.lookup y≠_; rw [k]; decide)] at q;exact q
  · exact e0.hok.fresh (LV (x.above y c (Iu h)))
  · unfold start
    show _=N.length
    rw [BG,Θ,G6];omega
theorem BV {CX:CXT} {P:FP} {w:F0} {K:W.Frag} {mg:Str->Option χ} {base:F6} {k:Nat} {f:Δ} {name qual:Str} {params:Arguments} {body:List Jz} {scope:KS} {dV kV doc pm cdv ct oc:χ} {an od:Option Δ}
  {osl:Array (Option χ)} {N ps:List Str} {sp:Sp} (lk:K.lookup f=some ⟨oc,od,.func (W.fnOf name qual params body scope dV kV doc pm an cdv ct),osl⟩) (hcd:W.codeIn K cdv qual=true) (S:ay N ps scope)
  (len:∀ vs H Q E,sp vs H Q E->vs.length=ps.length)
  (hbody:∀ (A:Fv) (outer:List Lo) (s:AU) (H:Hp) (vs:List V) (Q:VK) (E:XK),b6 k (A.deeper (Kc qual scope s.heap.objs.size f cdv))->sp vs H Q E ->
   ∃ t,PSs (fq CX P w K mg base N qual scope f cdv A outer s H E) body t/\t { nx:=fun _ H'=>Q .non H',rt:=Q } (start N vs) H) :
  aN P w K mg base CX (k+1) f (W.fnOf name qual params body scope dV kV doc pm an cdv ct) ps sp:=by
 refine ⟨len,fun A outer s H args us vs Q E hr e0 hb r hsp=>?_⟩;have hl:=len _ _ _ _ hsp;have KX:K.In s.heap:=e0.mod.kin.keeps fun b o e=>(e0.bs b o e).1;have lim:s.heap.NoLimit:=e0.mod.nolimit.keeps fun b o e=>(e0.bs b o e).1;have hkind:∀ y∈ps.zip us,scope.names.lookup y.1=some .local\/(scope.names.lookup y.1=some .cell/\((cellsFrom (s.heap.objs.size+1) scope.names []).lookup y.1).isSome=true):=fun ⟨n,v⟩ hy=>by
  rcases S.par n (Lr hy).1 with q | q
  ·exact .inl q
  ·exact .inr ⟨q,W.cellsFrom_some _ _ _ (.inl q)⟩
 refine codeAny_call_function hr.depth (KX _ _ lk) rfl S.co S.gen rfl (W.codeRec_of KX hcd) (hb _ _ _ _ ?_);refine wpAny_newFunctionEnv_cells S.kind hkind fun env he s1 x=>?_;subst he;refine ⟨lim.keeps x.toInCall.keep,codeAny_func ?_⟩;obtain ⟨t,ht,hq⟩:=hbody A outer s H vs Q E (hr.deeper _) hsp;have I:Inv (fq CX P w K mg base N qual scope f cdv A outer s H E) [] (start N vs) H s1:=vC S hr.hd e0 hl r x;refine GW (ht [] s1 (start N vs) H _ I hq) (fun fl s' hs=>?_) fun e s' hs=>hs
 have fin:∀ {σ':St} {H':Hp} {v:V} {u:χ},Inv (fq CX P w K mg base N qual scope f cdv A outer s H E) [] σ' H' s'->bj v u->Q v H'->CE outer P w H s Q u s' :=
  fun {σ' H' v u} J rv q=>⟨v,H',J.os,J.bare,J.base,J.hok,rv,q⟩
 cases fl with
 | ret u =>
  obtain ⟨v,σ',H',J,rv,q⟩:=hs;exact fin J rv q
 | next =>
  obtain ⟨σ',H',J,q⟩:=hs;exact fin (v:=V.non) (u:=Im) J rfl q
 | brk =>
  obtain ⟨_,_,_,q⟩:=hs;exact GU q
 | cont =>
  obtain ⟨_,_,_,q⟩:=hs;exact GU q
section
variable {X:Cx} {x:Str} {p pos:Jf} {e:GO} {es:List GO} {t:TA} {id T:String} {r:List V->Hp->VK->Prop}
def tCB (r:List V->Hp->VK->Prop) (t:TA):TE:=fun σ H Q=>t σ H fun vs H1=>r vs H1 Q
theorem aw (hc:bS X (.builtin id) r) (hg:Gl X x) (hm:X.mg x=none) (hv:GD x=some (.builtin id)) (ha:PA X (e::es) t) (hn:x≠"__name__":=by decide) (hdb:(x==("__debug__":Str))=false:=by decide)
  (he:Fq (e::es) X.env=(false,Hs e X.env)::Fq es X.env:=by rfl) (hpl:(Ih pos (Fq es X.env)).any (·.1)=false:=by rfl):PE X (.Call (.Name x p) (e::es) [] pos) (tCB r t):=by
 intro pins s σ H Q I h;refine HS (fJ I hg hm hv ?_ hn hdb);exact PyProof.Rows.callWith_builtin1 (thn (ha pos pins s σ H _ I h) fun us s1 ⟨vs,H1,I1,r1,q1⟩=>hc pins s1 σ H1 vs us Q I1 r1 q1) he hpl
theorem cF (hc:bS X (.type T) r) (hg:Gl X x) (hm:X.mg x=none) (hv:GD x=some (.type T)) (ha:PA X (e::es) t) (hn:x≠"__name__":=by decide) (hdb:(x==("__debug__":Str))=false:=by decide)
  (he:Fq (e::es) X.env=(false,Hs e X.env)::Fq es X.env:=by rfl) (hpl:(Ih pos (Fq es X.env)).any (·.1)=false:=by rfl):PE X (.Call (.Name x p) (e::es) [] pos) (tCB r t):=by
 intro pins s σ H Q I h;refine HS (fJ I hg hm hv ?_ hn hdb);exact Gn (thn (ha pos pins s σ H _ I h) fun us s1 ⟨vs,H1,I1,r1,q1⟩=>hc pins s1 σ H1 vs us Q I1 r1 q1) he hpl
end
end L2
namespace HT
open PySem PyProof.Rows
section
open PySem.SeqAt
open PySem.AutoSeq1 (wpAny_loadPart')
open PySem.MeetsSeq PySem.MeetsSeq2 PySem.MeetsSeq3
end
section
variable {prog:FP} {w:F0} {A:Fv} {E:χ->AU->Prop} {s:AU}
noncomputable def sIx (n d:Nat):Option Int->Nat
 | none=>d
 | some v=>if v<0 then (v+(n:Int)).toNat else min v.toNat n
theorem gB (n d:Nat):sIx n d none=d:=rfl
theorem gU (n d k:Nat):sIx n d (some (k:Int))=min k n:=by
 show (if (k:Int)<0 then ((k:Int)+(n:Int)).toNat else min (k:Int).toNat n)=min k n
 rw [if_neg (by omega),F9]
theorem Dy (n d:Nat) (hd:d<=n) (o:Option Int):sIx n d o<=n:=by
 cases o with
 | none=>exact hd
 | some v =>
  show (if v<0 then (v+(n:Int)).toNat else min v.toNat n)<=n
  by_cases hv:v<0
  ·rw [if_pos hv]; omega
  ·rw [if_neg hv]; exact Ll _ _
theorem ui (v:Int) (n d:Nat):(if v<0 then max (v+(n:Int)) 0 else min v (n:Int))=((sIx n d (some v):Nat):Int):=by
 show (if v<0 then max (v+(n:Int)) 0 else min v (n:Int))=(((if v<0 then (v+(n:Int)).toNat else min v.toNat n):Nat):Int)
 by_cases hv:v<0
 ·simp only [if_pos hv]; omega
 ·simp only [if_neg hv]; omega
theorem rX (lo hi:Option Int) (n:Nat):JY lo hi 1 (n:Int)=(((sIx n 0 lo:Nat):Int),((sIx n n hi:Nat):Int)):=by
 have h1:¬ ((1:Int)<0):=by omega
 unfold JY;simp only [h1,if_false];refine G5 ?_ ?_
 ·cases lo with
  | none => rfl
  | some v => exact ui v n 0
 ·cases hi with
  | none => rfl
  | some v => exact ui v n n
theorem ti (i j:Nat):IY (i:Int) (j:Int) 1=j - i:=by
 unfold IY;have h1:(1:Int) > 0:=by omega
 simp only [h1,if_true,Int.ediv_one]
 split<;>omega
theorem me {v:χ} {o:Option Int} {Q:Option Int->AU->Prop} (p:LI v o) (h:Q o s):FD (FQ prog w) A (Builtin.Slice.slicePartIndex v) Q E s:=by
 cases p with
 | none=>exact slicePart_none h
 | int i t=>exact slicePart_int h
theorem fB {sl:Δ} {vl vu:χ} {lo hi:Option Int} {n:Nat} {Q:Int×Int×Nat->AU->Prop} (hs:s.heap.IsSliceOf sl vl vu .none) (pl:LI vl lo) (pu:LI vu hi)
  (h:Q (((sIx n 0 lo:Nat):Int),1,sIx n n hi - sIx n 0 lo) s):FD (FQ prog w) A (K5 (.ref sl) (pure (n:Int))) Q E s:=by
 obtain ⟨os,hos,hcs,hds⟩:=id hs;unfold K5 Builtin.Slice.sliceFields;refine ξ (ξ (Gy hos hds (x:=vl) rfl (ξ (Gy hos hds (x:=vu) rfl (ξ (Gy hos hds (x:=.none) rfl (D_ ?_)))))));refine ξ (slicePart_none ?_)
 show FD _ _ (if ((1:Int)==0)=true then _ else _) _ _ s
 rw [if_neg (by decide)];refine ξ (me pl (ξ (me pu (ξ (D_ ?_)))))
 show FD _ _ (match JY lo hi 1 (n:Int) with | (lo,hi)=>pure (lo,(1:Int),IY lo hi 1)) _ _ s
 rw [rX lo hi n]
 show FD _ _ (pure (((sIx n 0 lo:Nat):Int),(1:Int),IY ((sIx n 0 lo:Nat):Int) ((sIx n n hi:Nat):Int) 1)) _ _ s
 rw [ti];exact D_ h
theorem yR (xs:Array χ) (i k:Nat):((F3 k).filterMap fun (m:Nat)=>xs[((i:Int)+(m:Int)*1).toNat]?).toArray=((xs.toList.drop i).take k).toArray:=by
 have e:(fun (m:Nat)=>xs[((i:Int)+(m:Int)*1).toNat]?)=fun m=>xs[i+m]?:=by
  funext m
  have:((i:Int)+(m:Int)*1).toNat=i+m:=by omega
  rw [this]
 rw [e];have:=pick_run xs i k
 rw [Ng] at this;have e2:((fun x=>xs[x]?)∘fun x=>i+x)=fun m=>xs[i+m]?:=rfl;rw [e2] at this;rw [this]
theorem i3 {t sl:Δ} {items:Array χ} {vl vu:χ} {lo hi:Option Int} {Q:χ->AU->Prop} (ht:IsTup s.heap t items) (hs:s.heap.IsSliceOf sl vl vu .none) (pl:LI vl lo) (pu:LI vu hi)
  (hw:¬ (sIx items.size 0 lo=0/\sIx items.size items.size hi=items.size))
  (h:Q (.ref s.heap.objs.size) { s with heap:=s.heap.push { cls:=.type "tuple",data:=.seq ((items.toList.drop (sIx items.size 0 lo)).take (sIx items.size items.size hi - sIx items.size 0 lo)).toArray } })
  (hsz:items.size<=E4):FD (FQ prog w) A (Lw (.ref t) (.ref sl)) Q E s:=by
 have htake:sizeOk (.seq ((items.toList.drop (sIx items.size 0 lo)).take (sIx items.size items.size hi - sIx items.size 0 lo)).toArray):=by
  show ((items.toList.drop (sIx items.size 0 lo)).take (sIx items.size items.size hi - sIx items.size 0 lo)).toArray.size<=E4
  rw [E8,Fl,Fw,FT];omega
 have hj:sIx items.size items.size hi<=items.size:=Dy _ _ (BE _) hi;obtain ⟨os,hos,hcs,hds⟩:=id hs;have hTs:s.TypeIs (.ref sl) "slice":=⟨os,hos,hcs⟩
 unfold Lw
 try with_reducible refine HW ?_
 first | refine ξ (D_ ?_) | skip
 refine ξ (wpAny_sequenceKey ht.typeIs (by decide) ?_);refine ξ (Hl (name:=IA "__getitem__") ht.typeIs Gb
  (HJ Gb ht.typeIs entry_tuple_getitem ?_ (args_tuple_getitem _ _)))
 show FD _ _ (K4 (.ref t) >>= _) _ _ s
 refine ξ (tupleItemsOf_ ht ?_);refine ξ (Ls hTs ?_);rw [if_pos (by decide)];refine ξ (fB hs pl pu ?_)
 have hno:¬ ((((sIx items.size 0 lo:Nat):Int)==0&&(1:Int)==1&&(sIx items.size items.size hi - sIx items.size 0 lo)==items.size)=true):=by
  intro q;rw [GB,GB] at q;have q1:((sIx items.size 0 lo:Nat):Int)=0:=eq_of_beq q.1.1;have q2:sIx items.size items.size hi - sIx items.size 0 lo=items.size:=eq_of_beq q.2;exact hw ⟨by omega,by omega⟩
 show FD _ _ (if (((sIx items.size 0 lo:Nat):Int)==0&&(1:Int)==1&&(sIx items.size items.size hi - sIx items.size 0 lo)==items.size)=true then _ else _) _ _ s
 rw [if_neg hno,yR]
 first
  | exact ξ (m := Ij _) (Hj (D_ ⟨_, rfl, D_ h⟩) htake)
  | exact ξ (m := Ij _) (Hj (ξ (D_ (D_ ⟨_, rfl, D_ h⟩))) htake)
  | exact ξ (ξ (m := Ij _) (Hj (D_ (D_ ⟨_, rfl, D_ h⟩)) htake))
  | exact ξ (ξ (m := Ij _) (Hj (D_ ⟨_, rfl, D_ h⟩) htake))
end
end HT
namespace L2
open PySem PySem.Spec PyProof.Rows
noncomputable abbrev TO:=St->Hp->(Option Int->Hp->Prop)->Prop
def PO (X:Cx) (e:Option GO) (t:TO):Prop :=
 ∀ (pins:List (Δ×Hu)) (s:AU) (σ:St) (H:Hp) (Q:Option Int->Hp->Prop),Inv X pins σ H s->t σ H Q ->
  FD (FQ X.prog X.w) X.A (evalPart e X.env) (fun u s'=>∃ o H',Inv X pins σ H' s'/\LI u o/\Q o H') X.xe s
noncomputable def u7:TO:=fun _ H Q=>Q none H
noncomputable def Cg (t:TE):TO:=fun σ H Q=>t σ H fun x H1=>∃ i,x=.int i/\Q (some i) H1
theorem su {ns:List Int}:∀ {us:List χ},Vals (ns.map V.int) us->Ky us ns:=by
 induction ns with
 | nil=>intro us r; rw [Ir] at r; cases r; exact .nil
 | cons n ns ih =>
  intro us r;rw [Fg] at r
  cases r with
  | cons r1 r2 =>
   obtain ⟨t,e⟩:=r1;subst e;exact .cons n t (ih r2)
section
variable {X:Cx} {e:GO} {te:TE} {lo hi:Option GO} {tl th:TO} {pos p2:Jf}
theorem de:PO X none u7:=by
 intro pins s σ H Q I h;rw [La];exact D_ ⟨none,H,I,.none,h⟩
theorem bE (h:PE X e te):PO X (some e) (Cg te):=by
 intro pins s σ H Q I hw;rw [evalPart_some];refine thn (h pins s σ H _ I hw) fun u s1 ⟨x,H1,I1,r1,q1⟩=>?_;obtain ⟨i,rfl,q⟩:=q1;obtain ⟨t,rfl⟩:=r1;exact ⟨some i,H1,I1,.int i t,q⟩
def SlR (X:Cx) (r:V->Option Int->Option Int->Hp->VK->Prop):Prop :=
 ∀ (pins:List (Δ×Hu)) (s:AU) (σ:St) (H:Hp) (x:V) (v vl vu:χ) (lo hi:Option Int) (sl:Δ) (Q:VK),Inv X pins σ H s->bj x v->s.heap.IsSliceOf sl vl vu .none->LI vl lo->LI vu hi->r x lo hi H Q ->
  ∃ T id,typeLookup (.type T) "__getitem__"=pure (some (.builtin id))/\s.TypeIs v T/\FD (FQ X.prog X.w) X.A (Lw v (.ref sl)) (EP X pins σ Q) X.xe s
def tSl (r:V->Option Int->Option Int->Hp->VK->Prop) (te:TE) (tl th:TO):TE:=fun σ H Q=>te σ H fun x H1=>tl σ H1 fun l H2=>th σ H2 fun u H3=>r x l u H3 Q
theorem b9 {r:V->Option Int->Option Int->Hp->VK->Prop} (hr:SlR X r) (he:PE X e te) (hl:PO X lo tl) (hu:PO X hi th):PE X (.Subscript e (.Slice lo hi none p2) pos) (tSl r te tl th):=by
 intro pins s σ H Q I h;refine M5 (thn (he pins s σ H _ I h) fun v s1 ⟨x,H1,I1,r1,q1⟩=>?_);refine wpAny_Slice (thn (hl pins s1 σ H1 _ I1 q1) fun vl s2 ⟨l,H2,I2,pl,q2⟩=>thn (hu pins s2 σ H2 _ I2 q2) fun vu s3 ⟨u,H3,I3,pu,q3⟩=>?_);rw [La];refine D_ ?_;have I4:Inv X pins σ H3 { s3 with heap:=s3.heap.push { cls:=.type "slice",data:=.fields #[vl,vu,.none] } }:=I3.kept (t':=s3.toks) fun b ob q=>ς _ q;obtain ⟨T,id,hT,ht,hg⟩:=hr pins { s3 with heap:=s3.heap.push { cls:=.type "slice",data:=.fields #[vl,vu,.none] } } σ H3 x v vl vu l u s3.heap.objs.size Q I4 r1 (KI ..) pl pu q3
 show FD (FQ X.prog X.w) X.A (LZ e (.Slice lo hi none p2) v (.ref s3.heap.objs.size)) (EP X pins σ Q) X.xe { s3 with heap:=s3.heap.push { cls:=.type "slice",data:=.fields #[vl,vu,.none] } }
 exact tail_any (ops:=[.ref s3.heap.objs.size,v]) ht hT hg (by with_unfolding_all rfl)
noncomputable def di (xs:List V) (lo hi:Option Int):List V:=(xs.drop (HT.sIx xs.length 0 lo)).take (HT.sIx xs.length xs.length hi - HT.sIx xs.length 0 lo)
theorem jW (xs:List V) (lo hi:Option Int):(di xs lo hi).length<=xs.length:=by
 unfold di;rw [Fl,Fw];omega
def ER (K:W.Frag):V->Option Int->Option Int->Hp->VK->Prop:=fun x lo hi H Q=>∃ a xs,x=.ref a/\SqT K H a xs /\
 ¬ (HT.sIx xs.length 0 lo=0/\HT.sIx xs.length xs.length hi=xs.length)/\∀ p,H p=none->Q (.ref p) (upd H p (.tup (di xs lo hi)))
theorem Dz:SlR X (ER X.K):=by
 intro pins s σ H x v vl vu lo hi sl Q I rx hs pl pu h;obtain ⟨a,xs,rfl,hx,hw,q⟩:=h
 cases rx;obtain ⟨its,r,ht,hz⟩:=I.tuple hx;have hlen:its.toArray.size=xs.length:=by rw [E8]; exact r.length.symm
 refine ⟨"tuple",_,Gb.lookup,ht.typeIs,?_⟩;refine HT.i3 ht hs pl pu (by rw [hlen]; exact hw) ?_ (by rw [hlen]; exact hz);rw [hlen];refine ⟨.ref s.heap.objs.size,_,I.laid (t':=s.toks) (o:=.tup (di xs lo hi)) (fun b ob q=>ς _ q) (BE _) ?_,rfl,q _ (I.hok.fresh (BE _))⟩;exact ⟨Fe (jW xs lo hi) hz,_,(r.drop (HT.sIx xs.length 0 lo)).take (HT.sIx xs.length xs.length hi - HT.sIx xs.length 0 lo),IsTup.new _ _⟩
end
noncomputable def ixN (n:Nat) (i:Int):Option Nat:=if 0<=i then (if i<n then some i.toNat else none) else if -(n:Int)<=i then some (i+n).toNat else none
noncomputable def atI {α:Type} (xs:List α) (i:Int):Option α:=(ixN xs.length i).bind fun j=>xs[j]?
theorem AI {n:Nat} {i:Int} {j:Nat} (h:ixN n i=some j):seqIndex? i n=some j/\j<n/\-(n:Int)<=i/\i<n:=by
 unfold ixN at h;by_cases h0:0<=i
 ·rw [if_pos h0] at h;by_cases h1:i<n
  ·rw [if_pos h1] at h;have e:i.toNat=j:=Fo h;exact ⟨by rw [seqIndex_of h0 h1,e],by omega,by omega,h1⟩
  ·rw [if_neg h1] at h; cases h
 ·rw [if_neg h0] at h;by_cases h1:-(n:Int)<=i
  ·rw [if_pos h1] at h;have e:(i+n).toNat=j:=Fo h;exact ⟨by rw [seqIndex_neg (by omega) h1,e],by omega,h1,by omega⟩
  ·rw [if_neg h1] at h; cases h
theorem nQ {α:Type} {xs:List α} {i:Int} {v:α} (h:atI xs i=some v):∃ j,seqIndex? i xs.length=some j/\xs[j]?=some v/\j<xs.length/\-(xs.length:Int)<=i/\i<xs.length:=by
 unfold atI at h
 cases e:ixN xs.length i with
 | none=>rw [e] at h; cases h
 | some j =>
  rw [e] at h;obtain ⟨h1,h2,h3,h4⟩:=AI e;exact ⟨j,h1,h,h2,h3,h4⟩
theorem cg {α:Type} {xs:List α} {j:Nat} {v:α} (h:xs[j]?=some v):atI xs (j:Int)=some v:=by
 have hj:j<xs.length:=(C_.mp h).1
 have e:ixN xs.length (j:Int)=some j:=by
  unfold ixN;rw [if_pos (by omega),if_pos (by omega)]; simp
 unfold atI; rw [e]; exact h
theorem xw {α:Type} (xs:List α) (v:α):atI (xs++[v]) (-1)=some v:=by
 have hl:(xs++[v]).length=xs.length+1:=by simp
 have e:ixN (xs++[v]).length (-1)=some xs.length:=by
  unfold ixN;rw [hl,if_neg (by decide),if_pos (by omega)]
  congr 1
  omega
 unfold atI;rw [e]
 show (xs++[v])[xs.length]?=some v
 simp
def ue (b:GO):Prop:=∀ o i,subscripted b false o i=operate [o,i] (Lw o i)
def IxR (X:Cx) (r:R2):Prop :=
 ∀ (value slice:GO) (pins:List (Δ×Hu)) (s:AU) (σ:St) (H:Hp) (x y:V) (v u:χ) (Q:VK),Inv X pins σ H s->bj x v->bj y u->r x y H Q ->
  subscripted slice false v u=operate [v,u] (Lw v u)->FD (FQ X.prog X.w) X.A (LZ value slice v u) (EP X pins σ Q) X.xe s
def MtR (X:Cx) (id:String) (r:V->List V->Hp->VK->Prop):Prop :=
 ∀ (pins:List (Δ×Hu)) (s:AU) (σ:St) (H:Hp) (x:V) (xs:List V) (v:χ) (us:List χ) (Q:VK),Inv X pins σ H s->bj x v->Vals xs us->r x xs H Q ->
  FD (FQ X.prog X.w) X.A (call (.builtin id) (v::us)) (EP X pins σ Q) X.xe s
section
variable {X:Cx} {a b:GO} {ta tb:TE} {pos:Jf}
theorem IxR.or {r r':R2} (h:IxR X r) (h':IxR X r'):IxR X (fun x y H Q=>r x y H Q\/r' x y H Q):=by
 intro value slice pins s σ H x y v u Q I rx ry q hs;rcases q with q | q
 ·exact h value slice pins s σ H x y v u Q I rx ry q hs
 ·exact h' value slice pins s σ H x y v u Q I rx ry q hs
theorem DZ {r:R2} (hr:IxR X r) (ha:PE X a ta) (hb:PE X b tb) (hs:ue b):PE X (.Subscript a b pos) (tOp r ta tb):=by
 intro pins s σ H Q I h;exact M5 (Cr ha hb I h fun v u s2 x y H2 I2 rx ry q=>hr a b pins s2 σ H2 x y v u Q I2 rx ry q (hs _ _))
def A4 (K:W.Frag):R2:=fun x y H Q=>∃ p xs i v,x=.ref p/\y=.int i/\SqL K H p xs/\atI xs i=some v/\Q v H
def A5 (K:W.Frag):R2:=fun x y H Q=>∃ p xs i v,x=.ref p/\y=.int i/\SqT K H p xs/\atI xs i=some v/\Q v H
def D5:R2:=fun x y H Q=>∃ z i c,x=.str z/\y=.int i/\z.length<=E4/\atI z.cps.toList i=some c/\Q (.str ⟨#[c]⟩) H
theorem uz:IxR X (A4 X.K):=by
  intro value slice pins s σ H x y v u Q I rx ry h hs;obtain ⟨p,xs,i,z,rfl,rfl,hq,he,q⟩:=h
  cases rx;obtain ⟨t,rfl⟩:=ry;obtain ⟨its,r,pl,hz⟩:=I.list hq;obtain ⟨j,h1,h2,h3,h4,h5⟩:=nQ he;obtain ⟨w,ew,rw'⟩:=r.get h2;have hl:=r.length;have hn:=lu;have fin:EP X pins σ Q w s:=⟨z,H,I,rw',q⟩
  by_cases h0:0<=i
  · have hj:i.toNat=j:=by
      rw [seqIndex_of h0 h5] at h1;exact Fo h1
    exact item_listR pl.isList h0 (by omega) (by rw [hj]; simpa using ew) fin hs
  · have hj:(i+(its.toArray.size:Int)).toNat=j:=by
      rw [seqIndex_neg (by omega) h4] at h1;rw [E8,<- hl];exact Fo h1
    exact subscriptTail_builtinR (x:=w) pl.isList.typeIs KQ.lookup
      (wpAny_getItem_list_neg (Q:=fun r s'=>r=w/\EP X pins σ Q r s') pl.isList (by omega) (by rw [E8]<;>omega) (by omega) (by rw [hj]; simpa using ew) ⟨rfl,fin⟩) hs
theorem x6:IxR X (A5 X.K):=by
 intro value slice pins s σ H x y v u Q I rx ry h hs;obtain ⟨p,xs,i,z,rfl,rfl,hq,he,q⟩:=h
 cases rx;obtain ⟨t,rfl⟩:=ry;obtain ⟨its,r,pl,hz⟩:=I.tuple hq;obtain ⟨j,h1,h2,h3,h4,h5⟩:=nQ he;obtain ⟨w,ew,rw'⟩:=r.get h2;have hl:=r.length;have hn:=lu;have fin:EP X pins σ Q w s:=⟨z,H,I,rw',q⟩
 exact subscriptTail_builtinR (x:=w) pl.typeIs slot_tuple_getitem.lookup
  (getItem_tuple (j:=j) (Q:=fun r s'=>r=w/\EP X pins σ Q r s') pl (by omega) (by omega) (by rw [E8,<- hl]; exact h1) (by simpa using ew) ⟨rfl,fin⟩) hs
theorem CG:IxR X D5:=by
 intro value slice pins s σ H x y v u Q I rx ry h hs;obtain ⟨z,i,c,rfl,rfl,hz,he,q⟩:=h;obtain ⟨t,rfl⟩:=rx;obtain ⟨t',rfl⟩:=ry;obtain ⟨j,h1,h2,h3,h4,h5⟩:=nQ he;have hl:z.cps.toList.length=z.length:=by simp [Str.length]
 rw [hl] at h1 h4 h5;have hn:=lu;exact tail_any (Lj s z t) slot_str_getitem.lookup (getItem_str (c:=c) (by
  have e1:decide (i < -(2 ^ 63:Int))=false:=decide_eq_false (by omega);have e2:decide (i>=2 ^ 63)=false:=decide_eq_false (by omega);rw [e1,e2,MZ]) (by rw [h1]; simpa using h2) ⟨.str ⟨#[c]⟩,H,I.tok _,⟨_,rfl⟩,q⟩) hs
def rIx (K:W.Frag):R2:=fun x y H Q=>A4 K x y H Q\/A5 K x y H Q\/D5 x y H Q
theorem CF:IxR X (rIx X.K):=uz.or (x6.or CG)
theorem pM (lo hi:Option Int) (n:Nat):(I_ lo hi none n).1=((HT.sIx n 0 lo:Nat):Int)/\(I_ lo hi none n).2.1=((HT.sIx n n hi:Nat):Int)/\(I_ lo hi none n).2.2=1:=by
 refine ⟨?_,?_,rfl⟩
 ·cases lo with
  | none => simp [I_, HT.sIx]
  | some i =>
   simp only [I_,HT.sIx,Nb,show (1:Int) > 0 by decide,if_true];by_cases h:i<0
   ·simp only [h,if_true]<;>omega
   ·simp only [h,if_false]<;>omega
 ·cases hi with
  | none => simp [I_, HT.sIx]
  | some i =>
   simp only [I_,HT.sIx,Nb,show (1:Int) > 0 by decide,if_true];by_cases h:i<0
   ·simp only [h,if_true]<;>omega
   ·simp only [h,if_false]<;>omega
theorem mH (its:List χ) (lo hi:Option Int):NW its.toArray lo hi none=((its.drop (HT.sIx its.length 0 lo)).take (HT.sIx its.length its.length hi - HT.sIx its.length 0 lo)).toArray:=by
 obtain ⟨h1,h2,h3⟩:=pM lo hi its.toArray.size;unfold NW;rw [h1,h2,h3];simp only [sliceRange_one,pick_run,E8]<;>rfl
def A7 (K:W.Frag):V->Option Int->Option Int->Hp->VK->Prop:=fun x lo hi H Q=>∃ a xs,x=.ref a/\SqL K H a xs/\∀ p,H p=none->Q (.ref p) (upd H p (.lst (di xs lo hi)))
theorem BC:SlR X (A7 X.K):=by
 intro pins s σ H x v vl vu lo hi sl Q I rx hs pl pu h;obtain ⟨a,xs,rfl,hx,q⟩:=h
 cases rx;obtain ⟨its,r,ht,hz⟩:=I.list hx;have hlen:=r.length;refine ⟨"list",_,KQ.lookup,ht.isList.typeIs,?_⟩;refine KY ht.isList hs pl pu .none (by simp) ?_ (by rw [E8]<;>omega);rw [mH,<- hlen];refine ⟨.ref s.heap.objs.size,_,I.laid (t':=s.toks) (o:=.lst (di xs lo hi)) (fun b ob q=>ς _ q) (BE _) ?_,rfl,q _ (I.hok.fresh (BE _))⟩;exact ⟨Fe (jW xs lo hi) hz,_,0,(r.drop (HT.sIx xs.length 0 lo)).take (HT.sIx xs.length xs.length hi - HT.sIx xs.length 0 lo),E5 _ rfl⟩
theorem nU:bS X (.builtin "len") (fun xs H Q=>∃ p ys,xs=[.ref p]/\(SqL X.K H p ys\/SqT X.K H p ys)/\Q (.int ys.length) H):=by
 intro pins s σ H xs us Q I r h;obtain ⟨p,ys,rfl,hq,q⟩:=h;obtain ⟨u,rfl,rx⟩:=mn r
 cases rx;have hn:=lu;rcases hq with hq | hq
 ·obtain ⟨its,r',pl,hz⟩:=I.list hq;have hlen:=r'.length;exact Calls.call_len_list pl.isList (by simp only [E8]<;>omega) ⟨.int ys.length,H,I.tok _,⟨s.toks+1,by rw [E8,hlen]⟩,q⟩
 ·obtain ⟨its,r',pl,hz⟩:=I.tuple hq;have hlen:=r'.length;exact len_tuple pl (by simp only [E8]<;>omega) ⟨.int ys.length,H,I.tok _,⟨s.toks+1,by rw [E8,hlen]⟩,q⟩
theorem nV:bS X (.builtin "len") (fun xs H Q=>∃ z,xs=[.str z]/\z.length<=E4/\Q (.int z.length) H):=by
 intro pins s σ H xs us Q I r h;obtain ⟨z,rfl,hz,q⟩:=h;obtain ⟨u,rfl,t,rfl⟩:=mn r;have hn:=lu;exact len_str (by omega) ⟨.int z.length,H,I.tok _,⟨_,rfl⟩,q⟩
theorem nW:bS X (.type "list") (fun xs H Q=>∃ p ys,xs=[.ref p]/\(SqL X.K H p ys\/SqT X.K H p ys)/\∀ l,H l=none->Q (.ref l) (upd H l (.lst ys))):=by
  intro pins s σ H xs us Q I r h;obtain ⟨p,ys,rfl,hq,q⟩:=h;obtain ⟨u,rfl,rx⟩:=mn r
  cases rx;have fin:∀ (its:List χ),Vals ys its->ys.length<=E4->∀ (h':F6) (c':Nat),(∀ b o',s.heap.get? b=some o'->h'.get? b=some o') ->
      h'.get? s.heap.objs.size=some { cls:=.type "list",dict:=none,data:=.seq its.toArray c',slots:=#[] }->EP X pins σ Q (.ref s.heap.objs.size) { s with heap:=h' }:=fun its r' hz h' c' kp e =>
    ⟨.ref s.heap.objs.size,_,I.laid (t':=s.toks) kp (BE _) (show bL X.prog X.w _ h' _ (.lst ys) from ⟨hz,its,c',r',e⟩),rfl,q _ (I.hok.fresh (BE _))⟩
  rcases hq with hq | hq
  · obtain ⟨its,r',pl,hz⟩:=I.list hq
    have hlen:=r'.length;obtain ⟨o,ho,hc,n,hd⟩:=pl.isList;exact call_list_seq p (.inl rfl) ho hc hd (fun h' c' kp e=>fin its r' hz h' c' kp e) (by simp only [E8]<;>omega)
  · obtain ⟨its,r',pl,hz⟩:=I.tuple hq
    have hlen:=r'.length;obtain ⟨o,ho,hc,n,hd⟩:=pl;exact call_list_seq p (.inr rfl) ho hc hd (fun h' c' kp e=>fin its r' hz h' c' kp e) (by simp only [E8]<;>omega)
theorem mw:bS X (.type "tuple") (fun xs H Q=>∃ p ys,xs=[.ref p]/\((SqL X.K H p ys/\∀ l,H l=none->Q (.ref l) (upd H l (.tup ys)))\/(SqT X.K H p ys/\Q (.ref p) H))):=by
 intro pins s σ H xs us Q I r h;obtain ⟨p,ys,rfl,h⟩:=h;obtain ⟨u,rfl,rx⟩:=mn r
 cases rx;rcases h with ⟨hq,q⟩ | ⟨hq,q⟩
 ·obtain ⟨its,r',pl,hz⟩:=I.list hq;have hlen:=r'.length;refine call_tuple_list pl.isList (fun h' kp=>?_) (by simp only [E8]<;>omega);have I1:Inv X pins σ H { s with heap:=h' }:=I.kept (t':=s.toks) kp
  have I2:Inv X pins σ (upd H h'.objs.size (.tup ys)) { s with heap:=h'.push { cls:=.type "tuple",data:=.seq its.toArray } } :=
   I1.laid (t':=s.toks) (fun b o e=>ς _ e) (BE _) (show bL X.prog X.w _ _ _ (.tup ys) from ⟨hz,its,r',IsTup.new _ _⟩)
  exact ⟨.ref h'.objs.size,_,I2,rfl,q _ (I1.hok.fresh (BE _))⟩
 ·obtain ⟨its,r',pl,hz⟩:=I.tuple hq;exact call_tuple_same pl ⟨.ref p,H,I,rfl,q⟩
def tyV (K:W.Frag) (T:String) (x:V) (H:Hp):Prop:=match x with
  | .str _ => T = "str"
  | .int _ => T = "int"
  | .ref p => (T = "list" /\ ∃ xs, SqL K H p xs) \/ (T = "tuple" /\ ∃ o, K.lookup p = some o /\ o.cls = .type "tuple" /\ o.dict = none) \/
      (T="dict"/\((∃ kvs,H p=some (.dK kvs))\/∃ kvs,H p=some (.dT kvs)))\/(T="set"/\∃ S n,H p=some (.set S n))
  | _ => False
theorem Al {pins:List (Δ×Hu)} {σ:St} {H:Hp} {s:AU} {T:String} {x:V} {v:χ} (I:Inv X pins σ H s) (r:bj x v) (ty:tyV X.K T x H) :
    s.TypeIs v T/\∀ a,v=.ref a->∃ ob,s.heap.get? a=some ob/\ob.dict=none:=by
  cases x with
  | str z =>
    obtain ⟨t,rfl⟩:=r
    cases (show T="str" from ty)
    exact ⟨Lj s z t,fun _ e=>nomatch e⟩
  | int i =>
    obtain ⟨t,rfl⟩:=r
    cases (show T="int" from ty)
    exact ⟨typeIs_int s i t,fun _ e=>nomatch e⟩
  | ref p =>
    cases r;rcases ty with ⟨rfl,xs,hq⟩ | ⟨rfl,o,hk,hc,hd⟩ | ⟨rfl,hk⟩ | ⟨rfl,S,n,hk⟩
    · obtain ⟨its,_,pl,_⟩:=I.list hq
      refine ⟨pl.isList.typeIs,fun a e=>?_⟩
      cases e;obtain ⟨o,n,e,c,hd,_⟩:=pl;exact ⟨o,e,hd⟩
    · refine ⟨⟨o,I.kIn p o hk,hc⟩,fun a e=>?_⟩
      cases e;exact ⟨o,I.kIn _ o hk,hd⟩
    · have z:∃ o,s.heap.get? p=some o/\o.ExactDict:=by
        rcases hk with ⟨kvs,hk⟩ | ⟨kvs,hk⟩
        · obtain ⟨_,_,_,_,o,_,_,e,ex,_⟩:=I.hok p _ hk
          exact ⟨o,e,ex⟩
        · obtain ⟨_,_,_,_,o,_,_,e,ex,_⟩:=I.hok p _ hk
          exact ⟨o,e,ex⟩
      obtain ⟨o,e,ex⟩:=z;refine ⟨⟨o,e,ex.1⟩,fun a e2=>?_⟩
      cases e2;exact ⟨o,e,ex.2.1⟩
    · obtain ⟨o,_,_,_,e,ex,_⟩:=I.hok p _ hk
      refine ⟨⟨o,e,ex.1⟩,fun a e2=>?_⟩
      cases e2;exact ⟨o,e,ex.2.1⟩
  | _ => exact GU ty
def Ek (K:W.Frag) (T:String) (r:V->List V->Hp->VK->Prop) (to:TE):TE:=fun σ H Q=>to σ H fun x H1=>tyV K T x H1/\r x [] H1 Q
def tBM (K:W.Frag) (T:String) (r:V->List V->Hp->VK->Prop) (to:TE) (t:TA):TE:=fun σ H Q=>to σ H fun x H1=>tyV K T x H1/\t σ H1 fun xs H2=>r x xs H2 Q
variable {o e:GO} {es:List GO} {to:TE} {t:TA} {name:Str} {apos cpos:Jf} {T id:String} {r:V->List V->Hp->VK->Prop}
theorem yF (pa:PlainAttrs T) (slot:Slot T name id) (hty:typeOf (.builtin id)=pure (.type "method_descriptor")) (hm:MtR X id r) (ho:PE X o to)
  (hbase:Kd o name X.env (Hs o X.env)=Hs o X.env:=by rfl) (hline:(apos.endLine==cpos.line)=true:=by rfl):PE X (.Call (.Attribute o name apos) [] [] cpos) (Ek X.K T r to):=by
 intro pins s σ H Q I h;refine wpAny_Call_method0_late hbase hline (thn (ho pins s σ H _ I h) fun v s1 ⟨x,H1,I1,r1,ty,q1⟩=>?_);obtain ⟨h1,h2⟩:=Al I1 r1 ty;exact ⟨T,id,pa,slot,hty,h1,h2,Mm rfl (PySem.evalArgs_none (hm pins s1 σ H1 x [] v [] Q I1 r1 .nil q1))⟩
theorem cL (pa:PlainAttrs T) (slot:Slot T name id) (hty:typeOf (.builtin id)=pure (.type "method_descriptor")) (hm:MtR X id r) (ho:PE X o to) (ha:PA X (e::es) t)
  (hbase:Kd o name X.env (Hs o X.env)=Hs o X.env:=by rfl)
  (hfew:((Ih cpos (Fq (e::es) X.env)).all (fun x=>!x.1)&&(backToKw cpos (MS [] X.env)).all (fun x=>x.1.isSome)
   && decide ((e::es).length+([]:List Keyword).length+(if ([]:List Keyword).isEmpty then 0 else 1)<30))=true:=by rfl)
  (hline:(apos.endLine==cpos.line)=true:=by rfl) (hs:Fq (e::es) X.env=(false,Hs e X.env)::Fq es X.env:=by rfl) (hplain:(Ih cpos (Fq es X.env)).any (·.1)=false:=by rfl) :
  PE X (.Call (.Attribute o name apos) (e::es) [] cpos) (tBM X.K T r to t):=by
 intro pins s σ H Q I h;refine wpAny_Call_method_late hbase hfew hline rfl (thn (ho pins s σ H _ I h) fun v s1 ⟨x,H1,I1,r1,ty,q1⟩=>?_);obtain ⟨h1,h2⟩:=Al I1 r1 ty;refine ⟨T,id,pa,slot,hty,h1,h2,?_⟩;have hA:=ha cpos pins s1 σ H1 _ I1 q1;rw [hs] at hA ⊢;refine Mm (by show (false||(Ih cpos (Fq es X.env)).any (·.1))=false; rw [hplain]<;>rfl) (M_ ?_);exact thn hA fun us s2 ⟨vs,H2,I2,r2,q2⟩=>hm pins s2 σ H2 x vs v us Q I2 r1 r2 q2
end
def MtM (X:Cx) (id:String) (r:V->List V->Hp->VK->Prop):Prop :=
 ∀ (pins:List (Δ×Hu)) (s:AU) (σ:St) (H:Hp) (x:V) (xs:List V) (v:χ) (us:List χ) (Q:VK),Inv X pins σ H s->bj x v->Vals xs us->r x xs H Q ->
  FD (FQ X.prog X.w) X.A (call (.builtin id) (v::us)) (EP X pins σ Q) X.xe s
theorem Vals.one:∀ {x:V} {us:List χ},Vals [x] us->∃ u,us=[u]/\bj x u:=by
 intro x us h;cases h with | cons r h=>cases h;exact ⟨_,rfl,r⟩
theorem Vals.two:∀ {x y:V} {us:List χ},Vals [x,y] us->∃ u v,us=[u,v]/\bj x u/\bj y v:=by
 intro x y us h;cases h with | cons r h=>cases h with | cons q h=>cases h;exact ⟨_,_,rfl,r,q⟩
theorem Vals.zero:∀ {us:List χ},Vals [] us->us=[]
 | _,.nil=>rfl
section
variable {X:Cx} {pins:List (Δ×Hu)} {σ:St} {H:Hp} {s:AU} {l b:Δ} {xs ys zs:List V}
theorem Inv.lset {its its':List χ} {n:Nat} {f:Array χ->Array χ} {t':Nat} (I:Inv X pins σ H s) (hH:H l=some (.lst xs))
  (e:s.heap.get? l=some { cls:=.type "list",data:=.seq its.toArray n }) (hf:f its.toArray=its'.toArray) (hv:Vals ys its') (hz:ys.length<=E4) :
  Inv X pins σ (upd H l (.lst ys)) { s with heap:=s.heap.update l (FZ f),toks:=t' }:=by
 have q:=PySem.IsL.update e f;rw [hf] at q;refine I.write (x:=l) (e:=l) (by rw [hH]; exact trivial) (.inl rfl) (fun b' u hb hu=>(Fy s.heap (FZ f) (Gd hb)).trans hu) ⟨_,q⟩ ?_;exact ⟨hz,its',_,hv,q⟩
theorem Inv.lnew {its:List χ} {t':Nat} (I:Inv X pins σ H s) (hv:Vals ys its) (hz:ys.length<=E4) :
  Inv X pins σ (upd H s.heap.objs.size (.lst ys)) { s with heap:=s.heap.push { cls:=.type "list",data:=.seq its.toArray },toks:=t' } :=
 I.laid (fun _ _ q=>ς _ q) (BE _) ⟨hz,its,0,hv,E5 _ rfl⟩
theorem Inv.fresh (I:Inv X pins σ H s):H s.heap.objs.size=none:=I.hok.fresh (BE _)
theorem Inv.lstM (I:Inv X pins σ H s) (hH:H l=some (.lst xs)):xs.length<=E4/\∃ (its:List χ) (n:Nat),Vals xs its/\xs.length=its.length/\s.heap.get? l=some { cls:=.type "list",data:=.seq its.toArray n }:=by
 obtain ⟨z,its,n,r,e⟩:=I.hok l _ hH;exact ⟨z,its,n,r,r.length,e⟩
theorem yo {n:Nat} (h:n<=E4):Jh n=false:=by
 unfold Jh;exact decide_eq_false (by omega)
end
section
variable {X:Cx}
def uP:V->List V->Hp->VK->Prop:=fun x vs H Q=>∃ l xs y,x=.ref l/\vs=[y]/\H l=some (.lst xs)/\xs.length<E4/\Q .non (upd H l (.lst (xs++[y])))
theorem a8:MtM X "list.append" uP:=by
 intro pins s σ H x vs v us Q I rx rv h;obtain ⟨l,xs,y,rfl,rfl,hH,hz,q⟩:=h
 cases rx;obtain ⟨u,rfl,ru⟩:=rv.one;obtain ⟨z,its,n,r,hl,e⟩:=I.lstM hH;refine J7 F.slot_list_append ⟨_,e,rfl⟩ F.entry_list_append (F.args_list_append_2 _ _) (PySem.list_append l its.toArray n u (by rw [E8]; omega)) ⟨e,?_⟩;refine ⟨.non,_,I.lset (its':=its++[u]) hH e (by simp) (r.append (.cons ru .nil)) ?_,rfl,q⟩;rw [BG,FA];omega
def A2:V->List V->Hp->VK->Prop:=fun x vs H Q=>∃ l b xs zs,x=.ref l/\vs=[.ref b]/\H l=some (.lst xs)/\H b=some (.lst zs)/\xs.length+zs.length<=E4/\Q .non (upd H l (.lst (xs++zs)))
theorem vN:MtM X "list.extend" A2:=by
 intro pins s σ H x vs v us Q I rx rv h;obtain ⟨l,b,xs,zs,rfl,rfl,hH,hB,hz,q⟩:=h
 cases rx;obtain ⟨u,rfl,ru⟩:=rv.one
 cases ru;obtain ⟨z,its,n,r,hl,e⟩:=I.lstM hH;obtain ⟨z2,its2,n2,r2,hl2,e2⟩:=I.lstM hB;have hsz:its.toArray.size+its2.toArray.size<=sizeLine:=by rw [E8,E8]; omega
 have hlong:¬ (!its.toArray.isEmpty&&Jh (its.toArray.size+its2.toArray.size))=true:=by
  rw [yo hsz,MI];exact Ft
 refine J7 F.slot_list_extend ⟨_,e,rfl⟩ F.entry_list_extend (F.args_list_extend_2 _ _)
  (AutoSeq1.list_extend_list_list_0 l its.toArray n b its2.toArray n2 hlong (by rw [E8]; omega) (by omega)) ⟨e,e2,?_⟩
 refine ⟨.non,_,I.lset (its':=its++its2) hH e (by simp) (r.append r2) ?_,rfl,q⟩;rw [BG];omega
def y7:V->List V->Hp->VK->Prop:=fun x vs H Q=>∃ l xs,x=.ref l/\vs=[]/\H l=some (.lst xs)/\Q .non (upd H l (.lst []))
theorem qF:MtM X "list.clear" y7:=by
 intro pins s σ H x vs v us Q I rx rv h;obtain ⟨l,xs,rfl,rfl,hH,q⟩:=h
 cases rx;have hus:=rv.zero;subst hus;obtain ⟨z,its,n,r,hl,e⟩:=I.lstM hH;refine J7 F.slot_list_clear ⟨_,e,rfl⟩ F.entry_list_clear (F.args_list_clear_1 _) (AutoSeq1.list_clear_list_0 l its.toArray n (by rw [E8]; omega)) ⟨e,?_⟩;exact ⟨.non,_,I.lset (its':=[]) (ys:=[]) hH e rfl .nil (Fi _),rfl,q⟩
def D2:R2:=fun x y H Q=>∃ l b xs zs,x=.ref l/\y=.ref b/\H l=some (.lst xs)/\H b=some (.lst zs)/\xs.length+zs.length<=E4/\∀ p,H p=none->Q (.ref p) (upd H p (.lst (xs++zs)))
theorem lE:OpR X (Ks .Add) D2:=by
 intro pins s σ H x y v u Q I rx ry h;obtain ⟨l,b,xs,zs,rfl,rfl,hH,hB,hz,q⟩:=h
 cases rx
 cases ry;obtain ⟨z,its,n,r,hl,e⟩:=I.lstM hH;obtain ⟨z2,its2,n2,r2,hl2,e2⟩:=I.lstM hB;refine PySem.P.add_list e e2 ?_ (by rw [E8,E8]; omega);have ea:its.toArray++its2.toArray=(its++its2).toArray:=by simp
 rw [ea];exact ⟨.ref _,_,I.lnew (t':=s.toks) (r.append r2) (by rw [BG]; omega),rfl,q _ I.fresh⟩
end
section
variable {prog:FP} {w:F0} {A:Fv} {E:χ->AU->Prop} {s:AU}
set_option maxRecDepth 100000 in
end
end L2
namespace Att
open PySem PySem.W PySem.Calls PyProof.Rows
theorem kc {P:Params} {h:F6}:∀ (ns:List Int) (vs:List χ),WellAll P h vs (ns.map WData.int)->Ky vs ns:=by
 intro ns
 induction ns with
 | nil =>
  intro vs w;rw [Ir] at w
  cases w;exact .nil
 | cons n ns ih =>
  intro vs w;rw [Fg] at w
  cases w with
  | cons a b =>
   cases a;exact .cons _ _ (ih _ b)
theorem wF {l:OpenLaw} {n:Nat} (hn:l.most=some n) {P:Params} {h:F6} {args:List WData} {vals:List χ}
  (hpre:l.row.toRowW.claim.pre args=true) (hwl:WellAll P h vals args) :
  ∃ a vs ns,vals=[Fj a]/\args=[WData.list (ns.map WData.int)]/\h.get? a=some { cls:=.type "list",data:=.seq vs.toArray }/\Ky vs ns/\ns.length<=n:=by
 have hsh:WShape.hasAll [] args [.list .int]=true:=(pre_splitW hpre).1;have hc:l.pre.holds [] { args:=args }=true:=(pre_splitW hpre).2;obtain ⟨d,r,rfl,h1,h2⟩:=hasAllW_cons hsh;obtain rfl:=hasAllW_nil h2
 obtain ⟨xs,rfl,h3⟩:=hasW_list h1;obtain ⟨ns,rfl⟩:=items_int h3
 have hlen:ns.length<=n:=by
  unfold OpenLaw.pre at hc
  have h4:(WTm.not (.lt (.lit (.int (n:Int))) (.len (.arg 0)))).holds [] { args:=[.list (ns.map .int)] }=true:=by
   have h4:=(holds_andW hc).1;rw [hn] at h4;exact h4
  have h5:=condW_of h4 (w_not (w_lt w_lit (w_len_list (w_arg rfl))));rw [Θ] at h5;refine Nat.le_of_not_lt fun q=>?_;have q':(n:Int)<((ns.length:Nat):Int):=by omega
  first
   | (rw [decide_eq_true q'] at h5; exact absurd h5 (by decide))
   | (simp at h5; omega)
 cases hwl with
 | cons w1 w2 =>
  cases w2
  cases w1 with
  | list ho hall => exact ⟨_, _, ns, rfl, rfl, ho, kc ns _ hall, hlen⟩
theorem v7 (l:OpenLaw) (args:List WData):l.row.toRowW.claim.post args (.bool true) args=true :=
 postW_of (r:=l.row.toRowW) (X:=(true==true))
  (show WShape.has [] (.bool true) .bool=true by first | rfl | decide | simp [WShape.has,WShape.arms,WShape.armsAll])
  (show (WTm.eq .res (.lit (.bool true))).value [] { args:=args,res:=some (.bool true),after:=args }=some (.bool (true==true)) from w_eq_bool (w_res rfl) w_lit) rfl
theorem p9 {l:OpenLaw} {n:Nat} {q:FP} {loose:List Str} {XP:(Str->Option χ)->F6->Prop} {YP:F0->F6->Prop} {d:DefRec}
  (hn:l.most=some n) (hdf:d.params.defaults=[])
  (call:∀ (w:F0) (s₀ s₁:AU) (mg mb:Str->Option χ) (fa:Δ) (o:Hu) (pm cd doc:χ) (a:Δ) (vs:List χ) (ns:List Int),
   Ground q loose [] XP w s₀ mg mb s₁.heap->YP w s₁.heap ->
   s₁.heap.get? fa=some o->o.data=.func (docDef d.name d.params d.body d.scope pm cd doc)->s₁.heap.CodeRec cd d.name->mg d.name=some (.ref fa) ->
   s₁.heap.get? a=some { cls:=.type "list",data:=.seq vs.toArray }->Ky vs ns->ns.length<=n->s₁.gens=#[] ->
   JV (FQ l.prog w) LM (.call (.ref fa) ⟨[.ref a],[]⟩) (fun r s'=>r=.ok (.ret (.bool true))/\OldK s₁.heap s'.heap/\s'.os=s₁.os/\J2 s'.gens) s₁) :
  WalkO q loose XP YP l.row.toRowW d [] (fun f vs=>KN f vs):=by
 intro w s₀ s₁ mg mb G Y fa o pm cd doc dV kV ho hd hcd hD hmg hg args vals as hpre hlay hrd hwl hlo;obtain rfl:dV=.none:=Dflts.none hD hdf
 obtain rfl:kV=.none:=Dflts.noKw hD
 obtain ⟨a,vs,ns,rfl,rfl,hobj,hints,hlen⟩:=wF hn hpre hwl;refine enter_call (JA (call w s₀ s₁ mg mb fa o pm cd doc a vs ns G Y ho (fd_plain hd) hcd hmg hobj hints hlen hg) fun r s' hq=>?_);obtain ⟨rfl,h2,h3,h4⟩:=hq;exact ⟨.inl ⟨.bool true,.bool true,[],rfl,fun _=>rfl,.bool true,v7 l _,fun _=>⟨Gq,fun _ hm=>(nomatch hm)⟩⟩,h2,h3,h4⟩
section
variable {prog:FP} {w:F0} {A:Fv} {E:χ->AU->Prop} {s:AU} {K:Frag}
noncomputable def EJ (h:F6) (L d:Δ):List (Δ×Hu):=(F3 h.objs.size).filterMap fun a=>if a=L\/a=d then none else (h.get? a).map fun o=>(a,o)
end
end Att
namespace L2
open PySem PySem.Spec PyProof.Rows
theorem nN:∀ {vs:List χ} {ns:List Int},Ky vs ns->Vals (ns.map V.int) vs
 | _,_,.nil=>.nil
 | _,_,.cons n t h=>.cons ⟨t,rfl⟩ (nN h)
def Aq (H:Hp):Prop:=∀ b,H b=none\/∃ o xs,H b=some (.frz o (.lst xs))
theorem yb {P:FP} {w:F0} {K:W.Frag} {mg mb:Str->Option χ} {CX:CXT} {k:Nat} {fa a:Δ} {fd:GX} {x:Str} {sp:Sp} {s₁:AU} {vs:List χ} {ns:List Int}
    (KX:K.In s₁.heap) (hns:s₁.heap.Ns Hh mg) (hb:s₁.heap.Ns builtinsNs mb) (hbb:∀ x:Str,x≠"__name__"->mb x=GD x) (hlim:s₁.heap.NoLimit) (hg:s₁.gens=#[])
    (ha:s₁.heap.get? a=some { cls:=.type "list",data:=.seq vs.toArray }) (hi:Ky vs ns) (hl:ns.length<=E4) (hr:b6 k LM)
    (F:∀ base:F6,K.In base->base.Ns Hh mg->aN P w K mg base CX k fa fd [x] sp) (hbind:∀ (s:AU) (u:χ),Mz s fd ⟨[u],[]⟩ [(x,u)])
    (hsp:∀ H:Hp,Aq H->SqL K H a (ns.map V.int)->sp [.ref a] H (fun v _=>v=.bl true) fun _ _ _=>False)
    (hCX:∀ H e s',CX [] H s₁ (fun _ _ _=>False) e s'->False) :
    JV (FQ P w) LM (.call (.ref fa) ⟨[.ref a],[]⟩) (fun r s'=>r=.ok (.ret (.bool true))/\OldK s₁.heap s'.heap/\s'.os=s₁.os/\J2 s'.gens) s₁:=by
  have rv:=nN hi;have lenV:=hi.length
  -- from an abstract heap in which nothing but the script may be tracked
  have core:∀ H:Hp,Aq H->SqL K H a (ns.map V.int)->HOk P w H s₁.heap->(∀ b,H b≠none->b=a)->(H a≠none->K.lookup a=none) ->
      JV (FQ P w) LM (.call (.ref fa) ⟨[.ref a],[]⟩) (fun r s'=>r=.ok (.ret (.bool true))/\OldK s₁.heap s'.heap/\s'.os=s₁.os/\J2 s'.gens) s₁:=by
    intro H hO hS hok hA hK;have base_of:∀ {b:Δ} {o:Hu},s₁.heap.get? b=some o->H b=none->(oA s₁.heap H).get? b=some o:=fun e n=>xU e n;have noA:∀ {b:Δ} {o:Hu} {es:Array DictEntry} {ep:Nat},s₁.heap.get? b=some o->o.data=.dict es ep->H b=none:=fun {b o es ep} e d=>by
      cases q:H b with
      | none=>rfl
      | some u =>
        have e':b=a:=hA b (by rw [q]; simp);subst e';rw [ha] at e; cases e;have d':Data.seq vs.toArray _=Data.dict es ep:=d
        cases d'
    have nsK:∀ {b:Δ} {m:Str->Option χ},s₁.heap.Ns b m->(oA s₁.heap H).Ns b m:=fun {b m} ⟨o,es,ep,e,d,r⟩=>⟨o,es,ep,base_of e (noA e d),d,r⟩
    have hKb:K.In (oA s₁.heap H):=fun b o e=>base_of (KX b o e) (by
      cases q:H b with
      | none=>rfl
      | some u =>
        have e':b=a:=hA b (by rw [q]; simp);subst e';rw [hK (by rw [q]; simp)] at e; cases e)
    have hM:Mod K mg (oA s₁.heap H):=⟨hKb,nsK hns,⟨mb,nsK hb,hbb⟩,let ⟨mc,h1,h2⟩:=hlim; ⟨mc,nsK h1,h2⟩⟩
    have e0:rS P w K mg (oA s₁.heap H) LM [] s₁ H:=⟨rfl,hM,fun b o e=>AQ e,Kh (vB _ _),trivial,fun b hb=>absurd (show b∈([]:List Δ) from hb) (by simp),hok,.of_eq hg⟩
    refine JA ((F _ hKb (nsK hns)).run LM [] s₁ H ⟨[.ref a],[]⟩ [.ref a] [.ref a] _ _ hr e0 (hbind s₁ (.ref a)) (.cons rfl .nil) (hsp H hO hS)) fun r s' h=>?_
    cases r with
    | error e=>exact (hCX H e s' h).elim
    | ok fl =>
      cases fl with
      | next=>exact GU h
      | brk=>exact GU h
      | cont=>exact GU h
      | ret u =>
        obtain ⟨v,H',os,bare,un,hok',r',q⟩:=h;have q':v=.bl true:=q;subst q';obtain rfl:u=K3 true:=r'
        refine ⟨rfl,OldK.of_keep fun b o e=>?_,os,bare⟩
        cases q:H b with
        | none=>exact un.keep b o e q (by intro z; exact absurd (show b∈([]:List Δ) from z) (by simp)) (by simp)
        | some u =>
          rcases hO b with z | ⟨ob,xs,z⟩
          · rw [q] at z; cases z
          · have z2:=un.frzs b ob _ z
            obtain ⟨e1,_⟩:=hok b _ z;obtain ⟨e2,_⟩:=hok' b _ z2;rw [e] at e1; cases e1;exact e2
  cases hk:K.lookup a with
  | some o =>
    -- the script is one of the module's own objects
    have e:=KX a o hk;rw [ha] at e
    cases e;refine core (fun _=>none) (fun _=>.inl rfl) (.inr ⟨_,vs.toArray,_,hk,rfl,rfl,rfl,by rw [E8,lenV]; exact hl,by simpa using rv⟩) (fun b u z=>by have z':(none:Option HO)=some u:=z; cases z') (fun b z=>absurd rfl z) fun z=>absurd rfl z
  | none =>
    refine core (fun b=>if b=a then some (.frz { cls:=.type "list",data:=.seq vs.toArray } (.lst (ns.map V.int))) else none) (fun b=>?_) (.inl (.inr ⟨{ cls:=.type "list",data:=.seq vs.toArray },if_pos rfl⟩)) (fun b u z=>?_) (fun b z=>?_) fun _=>hk
    · by_cases hb:b=a
      · exact .inr ⟨_,_,if_pos hb⟩
      · exact .inl (if_neg hb)
    · by_cases hb:b=a
      · have z':=(if_pos hb).symm.trans z
        cases z';subst hb;exact ⟨ha,by rw [Θ]; exact hl,vs,_,rv,ha⟩
      · have z':=(if_neg hb).symm.trans z
        cases z'
    · by_cases hb:b=a
      · exact hb
      · exact absurd (if_neg hb) z
noncomputable abbrev KOf {K:W.Frag} {h:F6} (_:K.In h):W.Frag:=K
theorem walk_of {l:Na} {n k:Nat} {q:FP} {loose:List Str} {XP:(Str->Option χ)->F6->Prop} {YP:F0->F6->Prop} {d:DefRec} {K:Params->W.Frag} {CX:F0->CXT} {sp:F0->Sp} {x:Str}
  (hn:l.most=some n) (hn2:n<=E4) (hdf:d.params.defaults=[]) (hr:b6 k LM)
  (hY:∀ (w:F0) (h:F6),YP w h->(K w.params).In h)
  (F:∀ (w:F0) (mg:Str->Option χ) (fa:Δ) (h:F6),(K w.params).In h->h.Ns Hh mg->mg d.name=some (.ref fa) ->
   ∃ fd:GX,(∀ (s:AU) (u:χ),Mz s fd ⟨[u],[]⟩ [(x,u)]) /\
    ∀ base:F6,(K w.params).In base->base.Ns Hh mg->aN l.prog w (K w.params) mg base (CX w) k fa fd [x] (sp w))
  (hsp:∀ (w:F0) (H:Hp) (a:Δ) (ns:List Int),ns.length<=n->Aq H->SqL (K w.params) H a (ns.map V.int)->sp w [.ref a] H (fun v _=>v=.bl true) fun _ _ _=>False)
  (hCX:∀ (w:F0) (H:Hp) (s:AU) (e:χ) (s':AU),CX w [] H s (fun _ _ _=>False) e s'->False) :
  PySem.W.WalkO q loose XP YP l.row.toRowW d [] (fun f vs=>KN f vs):=by
 refine Att.p9 hn hdf fun w s₀ s₁ mg mb fa o pm cd doc a vs ns G Y ho hd hcd hmg hobj hints hlen hg=>?_;have KX:=hY w _ Y;obtain ⟨fd,hb,hF⟩:=F w mg fa _ KX G.T.g hmg;exact yb KX G.T.g G.T.b G.T.builtins G.T.nolimit hg hobj hints (Fe hlen hn2) hr hF hb (fun H hO hS=>hsp w H a ns hlen hO hS) fun H e s'=>hCX w H s₁ e s'
theorem walk_ofK {l:Na} {n k:Nat} {q:FP} {loose:List Str} {XP:(Str->Option χ)->F6->Prop} {YP:F0->F6->Prop} {d:DefRec} {K:Params->W.Frag} {CX:CXT} {sp:W.Frag->Sp} {x:Str}
  (hn:l.most=some n) (hn2:n<=E4) (hdf:d.params.defaults=[]) (hr:b6 k LM)
  (hY:∀ (w:F0) (h:F6),YP w h->(K w.params).In h)
  (F:∀ (w:F0) (mg:Str->Option χ) (fa:Δ) (h:F6),(K w.params).In h->h.Ns Hh mg->mg d.name=some (.ref fa) ->
   ∃ fd:GX,(∀ (s:AU) (u:χ),Mz s fd ⟨[u],[]⟩ [(x,u)]) /\
    ∀ base:F6,(K w.params).In base->base.Ns Hh mg->aN l.prog w (K w.params) mg base CX k fa fd [x] (sp (K w.params)))
  (hsp:∀ (K:W.Frag) (H:Hp) (a:Δ) (ns:List Int),ns.length<=n->Aq H->SqL K H a (ns.map V.int)->sp K [.ref a] H (fun v _=>v=.bl true) fun _ _ _=>False)
  (hCX:∀ (H:Hp) (s:AU) (e:χ) (s':AU),CX [] H s (fun _ _ _=>False) e s'->False) :
  PySem.W.WalkO q loose XP YP l.row.toRowW d [] (fun f vs=>KN f vs) :=
 walk_of (K:=K) (CX:=fun _=>CX) (sp:=fun w=>sp (K w.params)) hn hn2 hdf hr hY F (fun w H a ns h1 h2 h3=>hsp (K w.params) H a ns h1 h2 h3) fun _ H s e s'=>hCX H s e s'
end L2
namespace L2
open PySem PySem.Spec PyProof.Rows
noncomputable def c8 (s:Jz) (j:Nat):Stmt:=match s with
 | .ClassDef _ _ _ body _ _ _ _ _ _ _=>body.getD j (.Pass ⟨0,0,0,0⟩)
 | _=>.Pass ⟨0,0,0,0⟩
noncomputable def dA (s:Jz):Arguments:=match s with
 | .FunctionDef _ a _ _ _ _ _ _ _ _=>a
 | _=>{ posonlyargs:=[],args:=[],vararg:=none,kwonlyargs:=[],kw_defaults:=[],kwarg:=none,defaults:=[] }
noncomputable def cS (s:Jz):List Stmt:=match s with
 | .FunctionDef _ _ b _ _ _ _ _ _ _=>b
 | _=>[]
noncomputable def ak (s:Jz):Scope:=match s with
 | .FunctionDef _ _ _ _ _ _ sc _ _ _=>sc
 | _=>{ kind:=.function,names:=[],isGenerator:=false,isCoroutine:=false }
noncomputable abbrev CX0:CXT:=fun _ _ _ _ _ _=>False
abbrev E0:XK:=fun _ _ _=>False
theorem ao {X:Cx}:fD CX0 X E0:=fun _ _ _ _ _ _ _ h=>h.elim
structure Fun (K:W.Frag) (x qual:Str) (st:Jz) (f:Δ) (fd:GX):Prop where
 ex:∃ (oc:χ) (od:Option Δ) (kV doc pm:χ) (an:Option Δ) (cdv ct:χ) (osl:Array (Option χ)),
  fd=W.fnOf x qual (dA st) (cS st) (ak st) .none kV doc pm an cdv ct/\K.lookup f=some ⟨oc,od,.func fd,osl⟩/\W.codeIn K cdv qual=true
 kp:W.keepIn K (.ref f)=true
section
variable {P:FP} {w:F0} {K:W.Frag} {mg:Str->Option χ} {base:F6}
theorem Fun.ok {x qual:Str} {st:Jz} {f:Δ} {fd:GX} {N ps:List Str} {k:Nat} {sp:Sp} (F:Fun K x qual st f fd) (S:ay N ps (ak st)) (len:∀ vs H Q E,sp vs H Q E->vs.length=ps.length)
  (hbody:∀ (cdv:χ) (A:Fv) (outer:List Lo) (s:AU) (H:Hp) (vs:List V) (Q:VK) (E:XK),b6 k (A.deeper (Kc qual (ak st) s.heap.objs.size f cdv))->sp vs H Q E ->
   ∃ t,PSs (fq CX0 P w K mg base N qual (ak st) f cdv A outer s H E).nox (cS st) t/\t { nx:=fun _ H'=>Q .non H',rt:=Q } (start N vs) H):aN P w K mg base CX0 (k+1) f fd ps sp:=by
 obtain ⟨oc,od,kV,doc,pm,an,cdv,ct,osl,rfl,lk,hcd⟩:=F.ex;refine BV lk hcd S len fun A outer s H vs Q E hr hsp=>?_;obtain ⟨t,h,q⟩:=hbody cdv A outer s H vs Q E hr hsp;exact ⟨t,h.nox,q⟩
theorem Fun.binds {x qual:Str} {st:Jz} {f:Δ} {fd:GX} {ps:List Str} (F:Fun K x qual st f fd)
  (h:∀ (kV doc pm:χ) (an:Option Δ) (cdv ct:χ) (us:List χ),us.length=ps.length->Kr (W.fnOf x qual (dA st) (cS st) (ak st) .none kV doc pm an cdv ct) ⟨us,[]⟩=pure (ps.zip us)):aI K fd ps []:=by
 obtain ⟨oc,od,kV,doc,pm,an,cdv,ct,osl,rfl,lk,hcd⟩:=F.ex;exact .all (h kV doc pm an cdv ct)
theorem fun_mk {x qual:Str} {st:Jz} {f:Δ} {oc:χ} {od an:Option Δ} {osl:Array (Option χ)} {kV doc pm cdv ct:χ} (l:K.lookup f=some ⟨oc,od,.func (W.fnOf x qual (dA st) (cS st) (ak st) .none kV doc pm an cdv ct),osl⟩)
  (c:W.codeIn K cdv qual=true) (k:W.keepIn K (.ref f)=true):Fun K x qual st f (W.fnOf x qual (dA st) (cS st) (ak st) .none kV doc pm an cdv ct):=⟨⟨oc,od,kV,doc,pm,an,cdv,ct,osl,rfl,l,c⟩,k⟩
end
theorem ux {A:Fv} {k:Nat} (hr:b6 k A):A.units+1<cLine:=Fz (Nat.add_le_add_left (by decide:1<=64) _) hr.units
theorem cJ {n:Nat} (h:n<=1000):n<sizeLine:=Fz h (by decide)
section
variable {X:Cx}
theorem pv (i:Nat) {x:Str} {pos:Jf} (hN:X.N[i]?=some x:=by rfl) (hv:Vis X.env.scope x:=by first | exact GJ rfl | exact Kn (GJ rfl) | exact Kn (Kn rfl)) (hd:(x==("__debug__":Str))=false:=by decide)
  (hcd:(x==("__classdict__":Str))=false:=by decide):PE X (.Name x pos) (DE i):=C0 hN hv hd hcd
end
theorem EH {A B:Prop} (h:B):if false=true then A else B:=by
 rw [if_neg Ft];exact h
theorem mz {A B:Prop} (h:A):if true=true then A else B:=by
 rw [if_pos rfl];exact h
theorem jC {c A B:Prop} [Decidable c] (h1:c->A) (h2:¬ c->B):if c then A else B:=by
 by_cases h:c
 ·rw [if_pos h];exact h1 h
 ·rw [if_neg h];exact h2 h
def ah (H H':Hp):Prop:=∀ b o,H b=some o->H' b=some o
theorem ah.refl (H:Hp):ah H H:=fun _ _ h=>h
theorem ah.trans {H H1 H2:Hp} (a:ah H H1) (b:ah H1 H2):ah H H2:=fun c o h=>b c o (a c o h)
theorem ah.free {H H':Hp} (e:ah H H') {l:Δ} (h:H' l=Option.none):H l=Option.none:=by
 cases q:H l with
 | none=>rfl
 | some o =>
  rw [e l o q] at h
  cases h
theorem ah.seq {K:W.Frag} {H H':Hp} {a:Δ} {xs:List V} (e:ah H H') (h:SqL K H a xs):SqL K H' a xs:=by
 rcases h with (h | ⟨o,h⟩) | h
 ·exact .inl (.inl (e _ _ h))
 ·exact .inl (.inr ⟨o,e _ _ h⟩)
 ·exact .inr h
noncomputable def cz (cells:List (Str×Δ)):List (Str×J9)->List (Str×Δ)->List (Str×Δ)
 | [],acc=>acc
 | (n,k)::r,acc=>cz cells r (if k==.free then (n,(cells.lookup n).getD 0)::acc else acc)
theorem ig {scope:KS} {env:Lo} (h:∀ x∈scope.names,x.2=.free->∃ c,env.cells.lookup x.1=some c):closureFor scope env=pure (cz env.cells scope.names []):=by
 unfold closureFor;generalize hn:scope.names=names at h ⊢;clear hn;generalize ([]:List (Str×Δ))=acc
 induction names generalizing acc with
 | nil=>simp [cz]
 | cons x r ih =>
  obtain ⟨n,k⟩:=x;have ih':=fun a=>ih (fun x hx=>h x (Ξ _ hx)) a;simp only [Jg,bind_pure] at ih' ⊢;by_cases hk:k=.free
  ·obtain ⟨c,hc⟩:=h (n,k) θ hk;subst hk;have hcl:cellOf env n=pure c:=by simp only [cellOf,hc]
   simp only [beq_self_eq_true,if_true,hcl,hc,pure_bind,cz,JP]
   simpa using ih' _
  ·have hb:(k==JL)=false:=by simpa using hk
   simp only [hb,F_,if_false,pure_bind,cz]
   simpa using ih' _
theorem eQ {cells:List (Str×Δ)} {y:Str} {c:Δ}:∀ {names:List (Str×J9)} {acc:List (Str×Δ)},(∀ x∈names,x.2=.free->∃ c,cells.lookup x.1=some c)->(acc.lookup y=some c->cells.lookup y=some c) ->
  (cz cells names acc).lookup y=some c->cells.lookup y=some c
 | [],_,_,ha,e=>ha e
 | (n,k)::r,acc,h,ha,e=>by
  unfold cz at e;refine eQ (names:=r) (fun x hx=>h x (Ξ _ hx)) (fun e'=>?_) e;by_cases hk:k=.free
  ·obtain ⟨d,hd⟩:=h (n,k) θ hk;subst hk;simp only [beq_self_eq_true,if_true,hd,JP,Lf] at e'
   cases q:y==n with
   | true =>
    rw [q] at e';have:y=n:=by simpa using q
    subst this;exact hd.trans e'
   | false=>rw [q] at e'; exact ha e'
  ·have hb:(k==JL)=false:=by simpa using hk
   simp only [hb,F_,if_false] at e';exact ha e'
theorem iz {cells:List (Str×Δ)} {y:Str}:∀ {names:List (Str×J9)} {acc:List (Str×Δ)},((y,JL)∈names\/∃ c,acc.lookup y=some c)->∃ c,(cz cells names acc).lookup y=some c
 | [],_,h=>by simpa [cz] using h
 | (n,k)::r,acc,h=>by
  unfold cz;refine iz (names:=r) ?_;rcases h with h | ⟨c,h⟩
  ·rcases BF.mp h with e | e
   ·cases e;right
    simp
   ·exact .inl e
  ·right
   by_cases hk:(k==JL)=true
   ·rw [if_pos hk,Lf]
    cases y==n
    ·exact ⟨c,h⟩
    ·exact ⟨_,rfl⟩
   ·rw [if_neg hk];exact ⟨c,h⟩
def PTs (X:Cx) (ifs:List GO) (t:TT):Prop :=
 ∀ (pins:List (Δ×Hu)) (s:AU) (σ:St) (H:Hp) (Q:Bool->Hp->Prop),Inv X pins σ H s->t σ H Q ->
  FD (FQ X.prog X.w) X.A (forIn ifs true fun c r=>if r=true then do let ok <- isTrue c X.env (Hs c X.env); pure (J5 ok) else pure (J5 r)) (TP X pins σ Q) X.xe s
def iu:TT:=fun _ H Q=>Q true H
theorem cw {X:Cx}:PTs X [] iu:=fun _ _ _ H _ I h=>wpAny_tests_nil ⟨H,I,h⟩
theorem fR {X:Cx} {c:GO} {t:TT} (h:PT X c t):PTs X [c] t:=fun pins s σ H Q I hw=>wpAny_tests_one (h pins s σ H Q I hw)
noncomputable def Cx.block (X:Cx) (scope:KS) (N:List Str) (s:AU) (H:Hp) (fp:List Δ):Cx where
 prog:=X.prog
 w:=X.w
 K:=X.K
 mg:=X.mg
 base:=X.base
 A:=X.A
 N:=N
 s₀:=s
 H₀:=H
 env:=compEnvC scope (cz X.env.cells scope.names []) s.heap.objs.size X.env
 outer:=X.stack
 stack:=X.stack
 ex:=fp
 fn:=fun _=>false
 calm:=X.calm
 pn:=[]
 xe:=fun _ _=>False
noncomputable def xY:Option J9->Bool
 | some .cell=>true
 | some .free=>true
 | _=>false
theorem lg {k:Option J9} (h:xY k=true):k=some .cell\/k=some .free:=by
 unfold xY at h
 split at h
 ·exact .inl rfl
 ·exact .inr rfl
 ·cases h
structure dZ (X:Cx) (scope:KS) (N:List Str) (cap:List (Option Nat)):Prop where
 kind:scope.kind=.function
 nocell:(scope.names.all fun y=>!(y.2==.cell))=true
 loc:(scope.names.all fun y=>!(y.2==.local)||(scope.names.lookup y.1==some .local))=true
 fre:(scope.names.all fun y=>!(y.2==.free)||xY (X.env.kindOf y.1))=true
 len:cap.length=N.length
 cap:((cap.zip N).all fun p=>match p.1 with | none=>true | some j=>(X.N[j]?==some p.2)&&xY (X.env.kindOf p.2)&&xY ((relabel scope X.env).names.lookup p.2))=true
noncomputable def dr (cap:List (Option Nat)) (σ:St):St:=cap.map fun o=>match o with | none=>none | some j=>(σ[j]?).join
section
variable {X:Cx} {pins:List (Δ×Hu)} {σ:St} {H:Hp} {s:AU} {fp:List Δ} {scope:KS} {N:List Str} {cap:List (Option Nat)}
theorem dZ.freeH (c:dZ X scope N cap) (ok:X.Ok):∀ x∈scope.names,x.2=.free->∃ a,X.env.cells.lookup x.1=some a:=fun x hx hf=>by
 have:=Ht.mp c.fre x hx
 rw [hf] at this;simp only [beq_self_eq_true,Bool.not_true,Bool.false_or] at this;exact ok.has x.1 (lg this)
theorem jm {scope:KS} {env:Lo} {y:Str} (h:(relabel scope env).names.lookup y=some .cell\/(relabel scope env).names.lookup y=some .free) (nc:∀ z∈scope.names,z.2≠.cell):(y,JL)∈scope.names:=by
 unfold relabel at h;dsimp only at h;generalize scope.names=names at h nc
 induction names with
 | nil=>simp at h
 | cons z r ih =>
  obtain ⟨n,k⟩:=z;have nc':∀ z∈r,z.2≠.cell:=fun z hz=>nc z (Ξ _ hz);rw [Fg,Lf] at h;have nck:=nc (n,k) θ;dsimp only at h nck;by_cases hc:(k==JL&&env.scope.kind==.function&&env.kindOf n==some .cell)=true
  ·rw [if_pos hc] at h;dsimp only at h
   have hk:k=.free:=by
    simp only [GB,beq_iff_eq] at hc;exact hc.1.1
   cases q:y==n with
   | true=>rw [show y=n from by simpa using q,hk]; exact θ
   | false=>rw [q] at h; exact Ξ _ (ih h nc')
  ·rw [if_neg hc] at h;dsimp only at h
   cases q:y==n with
   | true =>
    rw [q] at h;rcases h with h | h
    ·cases h; exact absurd rfl nck
    ·cases h; rw [show y=n from by simpa using q]; exact θ
   | false=>rw [q] at h; exact Ξ _ (ih h nc')
theorem dZ.nc (c:dZ X scope N cap):∀ z∈scope.names,z.2≠.cell:=fun z hz e=>by
 have:=Ht.mp c.nocell z hz
 rw [e] at this;exact absurd this (by decide)
theorem dZ.lc (c:dZ X scope N cap):∀ x∈scope.names,x.2=.local->scope.names.lookup x.1=some .local:=fun x hx e=>by
 have:=Ht.mp c.loc x hx
 rw [e] at this
 simpa using this
theorem xA (c:dZ X scope N cap) (I:Inv X pins σ H s) (hf:∀ b∈fp,hW X pins H b) (hlt:∀ b∈fp,b<s.heap.objs.size):(X.block scope N s H fp).Ok:=by
 have lk:∀ {y:Str} {a:Δ},(cz X.env.cells scope.names []).lookup y=some a->X.env.cells.lookup y=some a:=fun e=>eQ (c.freeH I.ok) (fun z=>by simp at z) e;refine ⟨I.ok.mod,c.kind,I.ok.glob,I.ok.blt,BE _,fun x y a h1 h2=>I.ok.inj x y a (lk h1) (lk h2),fun x hx=>iz (.inl (jm hx c.nc)),fun x a h=>absurd h (by simp [Cx.block]),I.ok.hd,I.ok.frames,.inl rfl,fun b hb=>⟨?_,fun x a h=>(hf b hb).2.2.2.2.1 x a (lk h)⟩,I.bs,Fe I.ok.bsz I.sz,fun b o e hb=>?_,fun b hb z=>?_,I.stack,I.stkFree⟩
 ·exact E6 (hlt b hb)
 ·rcases (hf b hb).2.2.2.1 with z | z
  ·exact I.ok.noex b o e z
  ·exact absurd (FI (E1 (I.ok.bs b o e).1) z) (G_ _)
 ·rcases BF.mp (I.stkSub b z) with e | e
  ·exact (hf b hb).2.1 e
  ·exact (hf b hb).2.2.1 e
theorem xE {i:Nat} {v:V} (h:(dr cap σ)[i]?=some (some v)):∃ j,cap[i]?=some (some j)/\σ[j]?=some (some v):=by
 unfold dr at h;rw [FE] at h
 cases q:cap[i]? with
 | none=>rw [q] at h; cases h
 | some o =>
  rw [q] at h
  cases o with
  | none => cases h
  | some j =>
   refine ⟨j,rfl,?_⟩;have h':(σ[j]?).join=some v:=Fo h
   cases q2:σ[j]? with
   | none=>rw [q2] at h'; cases h'
   | some o =>
    rw [q2] at h';have:o=some v:=h'
    rw [this]
theorem vi (c:dZ X scope N cap) (I:Inv X pins σ H s) (hf:∀ b∈fp,hW X pins H b) (hlt:∀ b∈fp,b<s.heap.objs.size) {h1:F6} {t1:Nat} (hns:h1.Ns s.heap.objs.size (fun x=>([]:List (Str×χ)).reverse.lookup x))
  (hsb:H_ s.heap.objs.size (s.heap.push { cls:=.type (if (some X.env:Option Lo).isSome then "dict" else "frame"),data:=.dict #[] }) h1):Inv (X.block scope N s H fp) [] (dr cap σ) H { s with heap:=h1,toks:=t1 }:=by
 have lk:∀ {y:Str} {a:Δ},(cz X.env.cells scope.names []).lookup y=some a->X.env.cells.lookup y=some a:=fun e=>eQ (c.freeH I.ok) (fun z=>by simp at z) e;have keep:∀ b o,s.heap.get? b=some o->h1.get? b=some o:=fun b o e=>(hsb.2 b (E6 (E1 e))).trans (ς _ e);have cellK:∀ {a:Δ} {v:Option χ},s.heap.IsCell a v->h1.IsCell a v:=fun ⟨o,e,d⟩=>⟨o,keep _ _ e,d⟩
 refine ⟨xA c I hf hlt,rfl,I.bare,Un.kept keep,⟨_,hns,fun i x v h1 h2 h3=>?_⟩,fun x a e=>?_,I.hok.fresh (BE _),fun x a e=>I.freeC x a (lk e),fun p hp=>absurd (show p∈([]:List (Δ×Hu)) from hp) (by simp),I.hok.kept keep,?_⟩
 ·obtain ⟨j,hc,hs⟩:=xE h2;have hN:N[i]?=some x:=h1;have hz:(cap.zip N)[i]?=some (some j,x):=by rw [Jw]; exact ⟨hc,hN⟩
  have:=Ht.mp c.cap _ (FN hz)
  simp only [GB,beq_iff_eq] at this;obtain ⟨⟨e1,e2⟩,e3⟩:=this;obtain ⟨m,hn,hl⟩:=I.loc;have hk:=lg e2;obtain ⟨u,r,l⟩:=hl j x v e1 hs (by rcases hk with z | z; exact .inr (.inl z); exact .inr (.inr z));refine ⟨u,r,?_⟩;rcases l with ⟨l,_⟩ | ⟨_,a,ea,ca⟩
  ·rw [l] at hk; rcases hk with z | z<;>cases z
  ·have hk':=lg e3;obtain ⟨a',ha'⟩:=iz (cells:=X.env.cells) (acc:=[]) (.inl (jm hk' c.nc));have:a'=a:=Fo ((lk ha').symm.trans ea)
   subst this;exact .inr ⟨hk',a',ha',cellK ca⟩
 ·obtain ⟨v,hv⟩:=I.cell x a (lk e);exact ⟨v,cellK hv⟩
 ·unfold dr;rw [Θ];exact c.len
end
theorem qm {prog:FP} {w:F0} {A:Fv} {R:Result->AU->Prop} {s:AU} {elt target iter:GO} {ifs:List GO} {scope:KS} {pos:Jf} {it acc:χ} {env:Lo} (J:Nat->AU->Prop)
    (turn:∀ n s,J n s->FD (FQ prog w) A (LB it) (fun r s₁=>match r with
      | none=>R (.ok .next) s₁
      | some v=>FD (FQ prog w) A (Jv target it v) (fun _ s₀=>FD (FQ prog w) A (assign target env v) (fun _ s₂ =>
          FD (FQ prog w) A (forIn ifs true fun c r=>if r=true then do let ok <- isTrue c env (Hs c env); pure (J5 ok) else pure (J5 r)) (fun ok s₃ =>
            if ok=true then FD (FQ prog w) A (Hs elt env) (fun x s₄ =>
              FD (FQ prog w) A (call (.builtin "list.append") [acc,x]) (fun _ s₅=>∃ m,m<n/\J m s₅) (fun _ _=>False) s₄) (fun _ _=>False) s₃
            else ∃ m,m<n/\J m s₃) (fun _ _=>False) s₂) (fun _ _=>False) s₀) (fun _ _=>False) s₁) (fun _ _=>False) s)
    (n:Nat) (h:J n s) :
    JV (FQ prog w) A (.compLoop (.ListComp elt [⟨target,iter,ifs,0⟩] scope pos) 0 it acc env) R s:=by
  refine codeAny_loop rfl J (fun n s hI=>?_) n h
  show FD _ A ((compTurn (.ListComp elt [⟨target,iter,ifs,0⟩] scope pos) 0 it acc env).onRaise (fun x=>do noteFrame x env; theTreesLotGoes x)) _ _ s
  refine wpAny_noted ?_;rw [compTurn_list];refine ξ (wpAny_standAt (ξ (GW (turn n s hI) (fun r s₁ h₁=>?_) fun _ _ h'=>h'.elim)))
  cases r with
  | none => exact D_ h₁
  | some v =>
    refine ξ (GW h₁ (fun _ s₀ h₀=>?_) fun _ _ h'=>h'.elim);refine ξ (GW h₀ (fun _ s₂ h₂=>ξ (GW h₂ (fun ok s₃ h₃=>?_) fun _ _ h'=>h'.elim)) fun _ _ h'=>h'.elim)
    cases ok with
    | false=>exact D_ ⟨rfl,h₃⟩
    | true =>
      exact ξ (ξ (GW h₃ (fun x s₄ h₄=>ξ (GW h₄ (fun _ s₅ h₅=>D_ (D_ ⟨rfl,h₅⟩)) fun _ _ h'=>h'.elim)) fun _ _ h'=>h'.elim))
def u5 (wi:TI) (g:TG) (tt:TT) (te:TE) (cap:List (Option Nat)):TE:=fun σ H Q=>wi σ H fun J H1=>∀ l,H1 l=none ->
 ∃ (n:Nat) (Pv:Nat->List V->St->Hp->Prop),Pv 0 [] (dr cap σ) (upd H1 l (.lst [])) /\
  (∀ i ys σ' H',i<n->Pv i ys σ' H'->J.go i H'/\∀ x H2,J.yld i H' x H2->g x σ' H2 fun σ3 H3=>tt σ3 H3 fun b H4 =>
   if b=true then te σ3 H4 fun y H5=>H5 l=some (.lst ys)/\ys.length<E4/\Pv (i+1) (ys++[y]) σ3 (upd H5 l (.lst (ys++[y]))) else Pv (i+1) ys σ3 H4) /\
  ∀ ys σ' H',Pv n ys σ' H'->J.stop n H'/\Q (.ref l) H'
section
variable {X:Cx} {elt tg iter:GO} {ifs:List GO} {scope:KS} {pos:Jf} {N:List Str} {cap:List (Option Nat)} {wi:TI} {g:TG} {tt:TT} {te:TE}
theorem qp {U:χ->Δ->AU->Prop} (hc:X.calm=true) (c:dZ X scope N cap) (hi:PI X tg iter wi) (hg:∀ s H fp,PG (X.block scope N s H fp) tg g) (ht:∀ s H fp,PTs (X.block scope N s H fp) ifs tt)
    (he:∀ s H fp,PE (X.block scope N s H fp) elt te)
    {pins:List (Δ×Hu)} {s:AU} {σ:St} {H:Hp} {Q:VK} (I:Inv X pins σ H s) (h:u5 wi g tt te cap σ H Q)
    (hU:∀ (l C:Δ) (H':Hp) (s':AU),Inv X pins σ H' s'->(∃ m,s'.heap.Ns C m)->hW X pins H' C->Q (.ref l) H'->U (.ref l) C s')
    {RR:χ->Δ->Result->AU->Prop} (hRR:∀ a C s',U a C s'->RR a C (.ok .next) s') :
    FD (FQ X.prog X.w) X.A (Hs iter X.env) (fun x s₁=>FD (FQ X.prog X.w) X.A (pyIter x) (fun it s₂=>FD (FQ X.prog X.w) X.A (newList []) (fun acc s₃ =>
      FD (FQ X.prog X.w) X.A (newFunctionEnv scope X.env.globals (cz X.env.cells scope.names []) [] X.env.qual none .none (some X.env)) (fun cenv s₄ =>
        JV (FQ X.prog X.w) X.A (.compStart (.ListComp elt [⟨tg,iter,ifs,0⟩] scope pos) 0 it acc { cenv with scope:=relabel scope X.env }) (RR acc cenv.locals) s₄) X.xe s₃) X.xe s₂) X.xe s₁) X.xe s:=by
  refine thn (hi pins s σ H _ I h) fun v s1 h1=>thn h1 fun itv s2 h2=>?_;obtain ⟨it,fp,tn,J,H2,e,I2,T,st2,f2,hq⟩:=h2;subst e;have hl:H2 s2.heap.objs.size=none:=I2.hok.fresh (BE _);obtain ⟨n,Pv,p0,step,fin⟩:=hq _ hl;refine Hj ?_ (by show 0<=E4; exact Fi _)
  have I3:Inv X pins σ (upd H2 s2.heap.objs.size (.lst [])) { s2 with heap:=s2.heap.push { cls:=.type "list",data:=.seq ([]:List χ).toArray } } :=
    I2.laid (t':=s2.toks) (fun b u e=>ς _ e) (BE _) ⟨Fi _,[],_,.nil,E5 _ rfl⟩
  generalize hs3:({ s2 with heap:=s2.heap.push { cls:=.type "list",data:=.seq ([]:List χ).toArray } }:AU)=s3 at I3 ⊢;have k23:∀ b o,s2.heap.get? b=some o->s3.heap.get? b=some o:=fun b o e=>by rw [<- hs3]; exact ς _ e
  have fplt2:∀ b∈fp,b<s2.heap.objs.size:=fun b hb=>let ⟨o,e,_⟩:=T.obj _ _ st2 b hb; E1 e;have sz23:s2.heap.objs.size<=s3.heap.objs.size:=by rw [<- hs3]; show _<=(s2.heap.push _).objs.size; rw [Gj]; exact HU _
  have fplt:∀ b∈fp,b<s3.heap.objs.size:=fun b hb=>FI (fplt2 b hb) sz23;have f3:∀ b∈fp,hW X pins (upd H2 s2.heap.objs.size (.lst [])) b:=fun b hb=>⟨by rw [ar (E6 (fplt2 b hb))]; exact (f2 b hb).1,(f2 b hb).2⟩
  have st3:tn 0 s3.heap:=T.keep _ _ _ st2 fun b hb o e=>k23 b o e;refine wpAny_newFunctionEnv c.nc (by intro y hy; simp at hy) (fun h4 hns hsb=>?_) c.kind;have I4:=vi (t1:=s3.toks+([]:List (Str×χ)).length) c I3 f3 fplt hns hsb;have st4:tn 0 h4:=T.keep _ _ _ st3 fun b hb o e=>(hsb.2 b (E6 (fplt b hb))).trans (ς _ e);generalize hY:X.block scope N s3 (upd H2 s2.heap.objs.size (.lst [])) fp=Y at I4;have yP:Y.prog=X.prog:=by rw [<- hY]; rfl
  have yw:Y.w=X.w:=by rw [<- hY]; rfl
  have yK:Y.K=X.K:=by rw [<- hY]; rfl
  have yA:Y.A=X.A:=by rw [<- hY]; rfl
  have yx:Y.xe=fun _ _=>False:=by rw [<- hY]; rfl
  have yc:Y.calm=true:=by rw [<- hY]; exact hc
  have yex:Y.ex=fp:=by rw [<- hY]; rfl
  have yfs:Y.fs=frs X.stack:=by rw [<- hY]; rfl
  have yH:Y.H₀=upd H2 s2.heap.objs.size (.lst []):=by rw [<- hY]; rfl
  have ys:Y.s₀=s3:=by rw [<- hY]; rfl
  have yC:Y.env.locals=s3.heap.objs.size:=by rw [<- hY]; rfl
  have yenv:compEnvC scope (cz X.env.cells scope.names []) s3.heap.objs.size X.env=Y.env:=by rw [<- hY]; rfl
  have yg:=hg s3 (upd H2 s2.heap.objs.size (.lst [])) fp;have yt:=ht s3 (upd H2 s2.heap.objs.size (.lst [])) fp;have ye:=he s3 (upd H2 s2.heap.objs.size (.lst [])) fp;have ypn:Y.pn=[]:=by rw [<- hY]; rfl
  have ycl:Y.env.cells=cz X.env.cells scope.names []:=by rw [<- hY]; rfl
  rw [hY] at yg yt ye;have lk:∀ {y:Str} {a:Δ},Y.env.cells.lookup y=some a->X.env.cells.lookup y=some a:=fun e=>by rw [ycl] at e; exact eQ (c.freeH I.ok) (fun z=>by simp at z) e
  have stat:∀ {H':Hp},(∀ b∈fp,H' b=none)->∀ b∈fp,hW Y [] H' b:=fun hn b hb=>by
    refine ⟨hn b hb,by rw [yC]; exact E6 (fplt b hb),?_,.inl (by rw [yex]; exact hb),fun x a e=>(f2 b hb).2.2.2.2.1 x a (lk e),fun p hp=>?_⟩
    · rw [yfs]
      intro z;rcases BF.mp (I2.stkSub b z) with e | e
      · exact (f2 b hb).2.1 e
      · exact (f2 b hb).2.2.1 e
    · rw [ypn] at hp
      exact absurd hp (by simp)
  -- the end
  have done:∀ {σ':St} {H':Hp} {s':AU},Inv Y [] σ' H' s'->Q (.ref s2.heap.objs.size) H'->U (.ref s2.heap.objs.size) s3.heap.objs.size s':=fun {σ' H' s'} J' q=>by
    have un:=J'.base;rw [yfs,yex,yH,ys] at un;have J3:=I3.call' (s':=s') (ch:=fp) (by rw [J'.os,ys]) un (by have:=J'.hok; rw [yP,yw] at this; exact this) J'.bare fun b hb=>⟨(f3 b hb).2.2.2.1,(f3 b hb).2.1,(f3 b hb).2.2.2.2.1,(f3 b hb).2.2.2.2.2⟩
    have hCn:H' s3.heap.objs.size=none:=by have:=J'.free; rw [yC] at this; exact this
    have hne:s3.heap.objs.size≠X.env.locals:=Kg I3.lt;have hcl:∀ x a,X.env.cells.lookup x=some a->a≠s3.heap.objs.size:=fun x a e=>let ⟨_,o,ho,_⟩:=I3.cell x a e; E6 (E1 ho);have hpn:∀ p∈X.pn++pins,p.1≠s3.heap.objs.size:=fun p hp=>E6 (E1 (I3.pin p hp).1);obtain ⟨m,hn,_⟩:=J'.loc;rw [yC] at hn;exact hU _ _ H' s' J3 ⟨m,hn⟩ ⟨hCn,hne,I3.nofs (BE _),.inr I3.sz,hcl,hpn⟩ q
  have loop:∀ s5:AU,s5={ s3 with heap:=h4,toks:=s3.toks+([]:List (Str×χ)).length } ->
      JV (FQ X.prog X.w) X.A (.compLoop (.ListComp elt [⟨tg,iter,ifs,0⟩] scope pos) 0 (.ref it) (.ref s2.heap.objs.size) Y.env) (RR (.ref s2.heap.objs.size) s3.heap.objs.size) s5:=by
    rintro s5 rfl;refine qm (fun k s'=>∃ i ys σ' H',Inv Y [] σ' H' s'/\tn i s'.heap/\(∀ b∈fp,H' b=none)/\i<=n/\k=n - i/\Pv i ys σ' H') ?_ n ⟨0,[],_,_,I4,st4,fun b hb=>(f3 b hb).1,Fi _,rfl,p0⟩;rintro k s6 ⟨i,zs,σ6,H6,I6,st6,fr6,hin,rfl,pv6⟩;by_cases hlt:i<n
    · obtain ⟨go,stp⟩:=step i zs σ6 H6 hlt pv6
      have q:=T.item Y yP yw yK yc i [] s6 σ6 H6 (fun _ _=>False) I6 (stat fr6) st6 go;rw [yA] at q;refine thn q fun r s7 ⟨u,hr,h7⟩=>?_;subst hr;refine thn h7 fun _ s8 ⟨x,H8,I8,r8,y8,st8,fr8⟩=>?_;have I8':=I8.pinned (stat fr8) (T.obj _ _ st8);have q:=yg _ s8 σ6 H8 x u _ I8' r8 (stp x H8 y8);rw [yP,yw,yA,yx] at q;refine thn q fun _ s9 ⟨σ9,H9,I9,q9⟩=>?_;have q:=yt _ s9 σ9 H9 _ I9 q9;rw [yP,yw,yA,yx] at q;refine thn q fun b s10 ⟨H10,I10,q10⟩=>?_;have again:∀ {ws:List V} {σ':St} {H':Hp} {s':AU},Inv Y ([]++lG fp s8.heap) σ' H' s'->Pv (i+1) ws σ' H'->∃ m,m<n - i/\∃ i ys σ' H',Inv Y [] σ' H' s'/\tn i s'.heap/\(∀ b∈fp,H' b=none)/\i<=n/\m=n - i/\Pv i ys σ' H':=fun {ws σ' H' s'} J' p'=>by
        refine ⟨n - (i+1),by omega,i+1,ws,σ',H',J'.unpinned,T.keep _ _ _ st8 fun b hb o e=>(J'.pin (b,o) (E3 _ (E3 _ (fL hb e)))).1,fun b hb=>?_,hlt,rfl,p'⟩;obtain ⟨o,e,d⟩:=T.obj _ _ st8 b hb;exact (J'.pin (b,o) (E3 _ (E3 _ (fL hb e)))).2.1
      cases b with
      | false=>exact again I10 q10
      | true =>
        have q10:=(if_pos (α:=Prop) rfl).mp q10;have q:=ye _ s10 σ9 H10 _ I10 q10;rw [yP,yw,yA,yx] at q;refine mz ?_;refine thn q fun xv s11 ⟨y,H11,I11,r11,hl11,hz,p11⟩=>?_;have q:=a8 (X:=Y) _ s11 σ9 H11 (.ref s2.heap.objs.size) [y] _ [xv] (fun _ H'=>Pv (i+1) (zs++[y]) σ9 H') I11 rfl (.cons r11 .nil) ⟨_,_,_,rfl,rfl,hl11,hz,p11⟩;rw [yP,yw,yA,yx] at q;exact thn q fun _ s12 ⟨_,H12,I12,_,p12⟩=>again I12 p12
    · have e:i=n:=by omega
      subst e;obtain ⟨stop,q⟩:=fin zs σ6 H6 pv6;have qd:=T.done Y yP yw yK yc i [] s6 σ6 H6 (fun _ _=>False) I6 (stat fr6) st6 stop;rw [yA] at qd;refine thn qd fun r s7 ⟨hr,I7⟩=>?_;subst hr;exact hRR _ _ _ (done I7 q)
  show JV _ _ (.compStart _ 0 (.ref it) _ (compEnvC scope (cz X.env.cells scope.names []) s3.heap.objs.size X.env)) (RR (.ref s2.heap.objs.size) s3.heap.objs.size) _
  rw [yenv];exact codeAny_compStart_list (loop _ rfl) (T.self X.A 0 _ _ _ st4 (loop _ rfl))
theorem hW.turned {pins:List (Δ×Hu)} {σ:St} {H:Hp} {s:AU} {C:Δ} {h':F6} (f:hW X pins H C) (I:Inv X pins σ H s) (sb:H_ C s.heap h'):Inv X pins σ H { s with heap:=h' } :=
 I.turned (t':=s.toks) (fun b o hb e=>(sb.2 b hb).trans e) f.1 f.2.1 f.2.2.2.1 f.2.2.2.2.1 f.2.2.2.2.2
theorem bP (hc:X.calm=true) (c:dZ X scope N cap) (hi:PI X tg iter wi) (hg:∀ s H fp,PG (X.block scope N s H fp) tg g) (ht:∀ s H fp,PTs (X.block scope N s H fp) ifs tt)
  (he:∀ s H fp,PE (X.block scope N s H fp) elt te) (hs:∀ x,Lx iter X.env x=pure x:=by intro _; rfl):PE X (.ListComp elt [⟨tg,iter,ifs,0⟩] scope pos) (u5 wi g tt te cap):=by
 intro pins s σ H Q I h;rw [eval_ListComp];refine NK rfl hs (ig (c.freeH I.ok)) c.kind c.lc ?_;exact qp (U:=fun a C s'=>∃ m,s'.heap.Ns C m/\∀ h',H_ C s'.heap h'->EP X pins σ Q a { s' with heap:=h' }) hc c hi hg ht he I h
  (fun l C H' s' I' ⟨m,hn⟩ f q=>⟨m,hn,fun h' sb=>⟨.ref l,H',f.turned I' sb,rfl,q⟩⟩) fun a C s' u=>u
theorem oQ {i:Nat} {x:Str} {pos' pos2:Jf} (hN:X.N.Nodup) (hi':X.N[i]?=some x) (hx:Loc X.env.scope x) (hc:X.calm=true) (c:dZ X scope N cap) (hi:PI X tg iter wi) (hg:∀ s H fp,PG (X.block scope N s H fp) tg g) (ht:∀ s H fp,PTs (X.block scope N s H fp) ifs tt)
  (he:∀ s H fp,PE (X.block scope N s H fp) elt te) (hsw:LK (.ListComp elt [⟨tg,iter,ifs,0⟩] scope pos) (some (.Name x pos')) pos2.line X.env=pure true) (hs:∀ x,Lx iter X.env x=pure x:=by intro _; rfl)
  (hf:X.fn x=true\/X.env.scope.names.lookup x=some .local:=by first | exact .inl rfl | exact .inr rfl | assumption):PS X (.Assign [.Name x pos'] (.ListComp elt [⟨tg,iter,ifs,0⟩] scope pos) pos2) (Aa (u5 wi g tt te cap) (cX i)):=by
 intro pins s σ H D I h;rw [exec_Assign_Name_used _ _ _ _ hsw];refine ξ (wpAny_standAt (ξ ?_))
 show FD _ X.A (do let _ <- comprehension (.ListComp elt [⟨tg,iter,ifs,0⟩] scope pos) scope X.env _ (newList []) false (Hs iter X.env) (some (assign (.Name x pos') X.env))) _ _ s
 refine ξ (GW (NK (Q:=fun _ s'=>SP X pins D .next s') rfl hs (ig (c.freeH I.ok)) c.kind c.lc ?_) (fun _ s' hq=>D_ (D_ hq)) fun _ _ e=>e);refine qp (U:=fun a C s'=>FD (FQ X.prog X.w) X.A (assign (.Name x pos') X.env a) (fun _ s''=>∃ m,s''.heap.Ns C m/\∀ h',H_ C s''.heap h'->SP X pins D .next { s'' with heap:=h' }) X.xe s') hc c hi hg ht he I h ?_ fun a C s' u=>u;intro l C H' s' I' hn f q;obtain ⟨m,o,es,ep,ho,hd,r⟩:=hn;have I2:Inv X (pins++[(C,o)]) σ H' s':=I'.pins_of fun p hp=>by
  rcases E_.mp hp with z | z
  ·exact I'.pin p (E3 _ z)
  ·have e:p=(C,o):=by simpa using z
   subst e;exact ⟨ho,f.1,f.2.1,f.2.2.1,fun v z=>by rw [hd] at z; cases z⟩
 refine wpAny_assign_Name (jv I2 hN hi' hx (v:=.ref l) rfl (fun s2 I3=>?_) hf);have pc:=(I3.pin (C,o) (E3 _ (E3 _ θ))).1;exact ⟨m,⟨o,es,ep,pc,hd,r⟩,fun h' sb=>⟨_,H',f.turned I3.unpinned sb,q⟩⟩
end
section
variable {X:Cx}
theorem qg:bS X (.builtin "isinstance") (fun xs H Q=>∃ x n t b,xs=[x,.ty n]/\h9 X.K H x t/\W.kitOne X.K t (.type n)=some b/\Q (.bl b) H):=by
 intro pins s σ H xs us Q I r h;obtain ⟨x,n,t,b,rfl,ty,e,q⟩:=h;obtain ⟨u,v,rfl,ru,rv⟩:=r.two
 cases (show v=GZ n from rv)
 exact vD I ru ty e fun tk=>⟨.bl b,H,I.tok tk,rfl,q⟩
theorem xV {A:Fv} (h:A.handled=none):A.in1.handled=none:=h
theorem xj {its:List χ} {bs:List Bool} (r:Vals (bs.map V.bl) its) {i:Nat} {v:χ} (e:its[i]?=some v):v=.bool (bs.getD i false):=by
 have hl:=r.length;rw [Θ] at hl;have hi:i<its.length:=(C_.mp e).1
 have hb:(bs.map V.bl)[i]?=some (V.bl (bs.getD i false)):=by
  rw [FE,E2,Ω (by omega)];rfl
 obtain ⟨u,hu,ru⟩:=r.get hb;rw [e] at hu
 cases hu;exact ru
theorem v9 (bs:List Bool):(F3 bs.length).all (fun i=>bs.getD i false)=bs.all id:=by
 rw [JC];simp only [Ht,Ip,id];constructor
 ·intro h b hb;obtain ⟨i,hi,rfl⟩:=NF.mp hb;have:=h i hi
  rwa [E2,Ω hi] at this
 ·intro h i hi;rw [E2,Ω hi];exact h _ (II hi)
theorem qf (hc:X.calm=true):bS X (.builtin "all") (fun xs H Q=>∃ (p:Δ) (bs:List Bool),xs=[.ref p]/\SqL X.K H p (bs.map V.bl)/\Q (.bl (bs.all id)) H):=by
 intro pins s σ H xs us Q I r h;obtain ⟨p,bs,rfl,hp,q⟩:=h;obtain ⟨u,rfl,ru⟩:=r.one
 cases (show u=Fj p from ru)
 obtain ⟨its,rv,pl,hz⟩:=I.list hp;have hh:=xV (I.ok.hd hc);have hlt:p<s.heap.objs.size:=let ⟨o,ho,_⟩:=pl.isList; E1 ho;refine call_all_walk (KP pl.isList ?_);refine ⟨s.heap.objs.size,_,_,_,_,_,fun i=>bs.getD i false,rfl,Lz hh s.heap.objs.size p (E6 hlt) its.toArray,⟨⟨_,E5 _ rfl,rfl,rfl⟩,pl.isList.push _⟩,fun i v s' Q' E' hP hQ=>?_,fun h' tk hk=>?_⟩
 ·have:=xj rv (i:=i) (v:=v) (by simpa using hP)
  subst this;exact Gp hQ
 ·have hl:=rv.length;rw [Θ] at hl;refine ⟨.bl (bs.all id),H,I.kept (h':=h') (t':=tk) fun b o e=>hk b o (by simpa using E6 (E1 e)) (ς _ e),?_,q⟩
  show _=_
  rw [E8,<- hl,v9]
theorem nM {its:List χ} {ns:List Int} (r:Vals (ns.map V.int) its) {i:Nat} {v:χ} (e:its[i]?=some v):∃ t,v=.int (ns.getD i 0) t:=by
 have hl:=r.length;rw [Θ] at hl;have hi:i<its.length:=(C_.mp e).1
 have hb:(ns.map V.int)[i]?=some (V.int (ns.getD i 0)):=by
  rw [FE,E2,Ω (by omega)];rfl
 obtain ⟨u,hu,ru⟩:=r.get hb;rw [e] at hu
 cases hu;exact ru
theorem gv (ns:List Int):∀ k,k<=ns.length->preSum (fun i=>ns.getD i 0) k=(ns.take k).sum
 | 0,_=>rfl
 | k+1,h=>by
  have ih:=gv ns k (by omega);rw [HX,List.sum_append,<- ih,Ω (by omega)]
  show preSum _ k+ns.getD k 0=_
  rw [E2,Ω (by omega)];simp
def fm (ns:List Int):Prop:=∀ k,k<=ns.length->InLong ((ns.take k).sum)/\∀ n∈ns,InLong n
theorem nZ (hc:X.calm=true):bS X (.builtin "sum") (fun xs H Q=>∃ (p:Δ) (ns:List Int),xs=[.ref p]/\(SqL X.K H p (ns.map V.int)\/SqT X.K H p (ns.map V.int))/\fm ns/\Q (.int ns.sum) H):=by
  intro pins s σ H xs us Q I r h;obtain ⟨p,ns,rfl,hp,sm,q⟩:=h;obtain ⟨u,rfl,ru⟩:=r.one
  cases (show u=Fj p from ru)
  have hh:=xV (I.ok.hd hc);have fin:∀ {its:List χ} {h':F6} {tk:Nat} {t':Tok},Vals (ns.map V.int) its->(∀ b o,b∉[s.heap.objs.size]->s.heap.get? b=some o->h'.get? b=some o) ->
      EP X pins σ Q (.int (preSum (fun i=>ns.getD i 0) its.length) t') { s with heap:=h',toks:=tk }:=fun {its h' tk t'} rv hk=>by
    have hl:=rv.length;rw [Θ] at hl;refine ⟨.int ns.sum,H,I.kept (h':=h') (t':=tk) fun b o e=>hk b o (by simpa using E6 (E1 e)) e,⟨t',?_⟩,q⟩;rw [<- hl,gv _ _ (BE _),FG (BE _)]
  have fit:∀ {its:List χ},Vals (ns.map V.int) its->∀ j,j<its.length->InLong (ns.getD j 0)/\InLong (preSum (fun i=>ns.getD i 0) (j+1)):=fun {its} rv j hj=>by
    have hl:=rv.length;rw [Θ] at hl;refine ⟨(sm 0 (Fi _)).2 _ ?_,?_⟩
    · rw [E2,Ω (by omega)]
      exact II _
    · rw [gv _ _ (by omega)]
      exact (sm _ (by omega)).1
  rcases hp with hp | hp
  · obtain ⟨its,rv,pl,hz⟩:=I.list hp
    have hlt:p<s.heap.objs.size:=let ⟨o,ho,_⟩:=pl.isList; E1 ho;refine call_sum_walk (KP pl.isList ?_);refine ⟨s.heap.objs.size,_,_,_,_,_,fun i=>ns.getD i 0,rfl,Lz hh s.heap.objs.size p (E6 hlt) its.toArray,⟨⟨_,E5 _ rfl,rfl,rfl⟩,pl.isList.push _⟩,fun b hb=>?_,fun i v hP=>nM rv (by simpa using hP),fun j hj=>fit rv j (by simpa using hj),fun h' tk t' hk=>fin rv fun b o hb e=>hk b o hb (ς _ e)⟩;rw [Gj];rcases BF.mp hb with e | e
    · rw [e]; exact Iv _
    · have:b=p:=by simpa using e
      rw [this]; exact GV hlt
  · obtain ⟨its,rv,pl,hz⟩:=I.tuple hp
    have hlt:p<s.heap.objs.size:=let ⟨o,ho,_⟩:=pl; E1 ho;refine call_sum_walk (J6 pl ?_);refine ⟨s.heap.objs.size,_,_,_,_,_,fun i=>ns.getD i 0,rfl,Walks.tuple hh s.heap.objs.size p (E6 hlt) its.toArray,⟨⟨_,E5 _ rfl,rfl,rfl⟩,pl.push _⟩,fun b hb=>?_,fun i v hP=>nM rv (by simpa using hP),fun j hj=>fit rv j (by simpa using hj),fun h' tk t' hk=>fin rv fun b o hb e=>hk b o hb (ς _ e)⟩;rw [Gj];rcases BF.mp hb with e | e
    · rw [e]; exact Iv _
    · have:b=p:=by simpa using e
      rw [this]; exact GV hlt
end
mutual
def Rep (H:Hp):Gm->V->Prop
 | .none,v=>v=.non
 | .bool b,v=>v=.bl b
 | .int i,v=>v=.int i
 | .str x,v=>v=.str x
 | .list ds,v=>∃ a xs,v=.ref a/\H a=some (.lst xs)/\RepL H ds xs
 | .tuple ds,v=>∃ a xs,v=.ref a/\H a=some (.tup xs)/\RepL H ds xs
 | .dict _,_=>False
def RepL (H:Hp):List Gm->List V->Prop
 | [],xs=>xs=[]
 | d::ds,xs=>∃ x r,xs=x::r/\Rep H d x/\RepL H ds r
end
mutual
theorem Rep.mono {H H':Hp} (s:ah H H'):∀ {d:Gm} {v:V},Rep H d v->Rep H' d v
 | .none,_,h=>by simpa [Rep] using h
 | .bool _,_,h=>by simpa [Rep] using h
 | .int _,_,h=>by simpa [Rep] using h
 | .str _,_,h=>by simpa [Rep] using h
 | .list ds,_,h=>by
  simp only [Rep] at h ⊢;obtain ⟨a,xs,e,h1,h2⟩:=h;exact ⟨a,xs,e,s _ _ h1,RepL.mono s h2⟩
 | .tuple ds,_,h=>by
  simp only [Rep] at h ⊢;obtain ⟨a,xs,e,h1,h2⟩:=h;exact ⟨a,xs,e,s _ _ h1,RepL.mono s h2⟩
 | .dict _,_,h=>by simp only [Rep] at h
theorem RepL.mono {H H':Hp} (s:ah H H'):∀ {ds:List Gm} {xs:List V},RepL H ds xs->RepL H' ds xs
 | [],_,h=>by simpa [RepL] using h
 | d::ds,_,h=>by
  simp only [RepL] at h ⊢;obtain ⟨x,r,e,h1,h2⟩:=h;exact ⟨x,r,e,Rep.mono s h1,RepL.mono s h2⟩
end
section
variable {X:Cx} {pins:List (Δ×Hu)} {σ:St} {H:Hp} {s:AU}
mutual
theorem Rep.reads (I:Inv X pins σ H s):∀ {d:Gm} {v:V} {u:χ},Rep H d v->bj v u->∃ as,Reads s.heap u d as
 | .none,_,_,h,r=>by simp only [Rep] at h; subst h; cases r; exact ⟨_,.none⟩
 | .bool _,_,_,h,r=>by simp only [Rep] at h; subst h; cases r; exact ⟨_,.bool _⟩
 | .int _,_,_,h,r=>by simp only [Rep] at h; subst h; obtain ⟨t,rfl⟩:=r; exact ⟨_,.int _ _⟩
 | .str _,_,_,h,r=>by simp only [Rep] at h; subst h; obtain ⟨t,rfl⟩:=r; exact ⟨_,.str _ _⟩
 | .list ds,_,_,h,r=>by
  simp only [Rep] at h;obtain ⟨a,xs,rfl,h1,h2⟩:=h
  cases (show _=Fj a from r)
  obtain ⟨its,rv,pl,_⟩:=I.list (SqL.of h1);obtain ⟨as,ra⟩:=RepL.reads I h2 rv;obtain ⟨o,n,e,c,_,d⟩:=pl;exact ⟨_,.list e c d (by simpa using ra)⟩
 | .tuple ds,_,_,h,r=>by
  simp only [Rep] at h;obtain ⟨a,xs,rfl,h1,h2⟩:=h
  cases (show _=Fj a from r)
  obtain ⟨its,rv,pl,_⟩:=I.tuple (SqT.of h1);obtain ⟨as,ra⟩:=RepL.reads I h2 rv;obtain ⟨o,e,c,n,d⟩:=pl;exact ⟨_,.tuple e c d (by simpa using ra)⟩
 | .dict _,_,_,h,_=>by simp only [Rep] at h
theorem RepL.reads (I:Inv X pins σ H s):∀ {ds:List Gm} {xs:List V} {us:List χ},RepL H ds xs->Vals xs us->∃ as,ReadsAll s.heap us ds as
 | [],_,_,h,r=>by simp only [RepL] at h; subst h; cases r; exact ⟨_,.nil⟩
 | d::ds,_,_,h,r=>by
  simp only [RepL] at h;obtain ⟨x,t,rfl,h1,h2⟩:=h
  cases r with
  | cons r1 r2 =>
   obtain ⟨as,a1⟩:=Rep.reads I h1 r1;obtain ⟨bs,a2⟩:=RepL.reads I h2 r2;exact ⟨_,.cons a1 a2⟩
end
end
def tj (neg:Bool):R2:=fun x y H Q=>∃ d e,Rep H d x/\Rep H e y/\IM d=true/\IM e=true/\Q (.bl (if neg then !PyData.eqv d e else GH d e)) H
section
variable {X:Cx}
theorem jG (hu:X.A.units+64<Iq):OpR X (Gk .Eq) (tj false):=by
 intro pins s σ H x y v u Q I rx ry h;obtain ⟨d,e,h1,h2,s1,s2,q⟩:=h;obtain ⟨as,r1⟩:=h1.reads I rx;obtain ⟨bs,r2⟩:=h2.reads I ry;exact eq_dataH r1 r2 s1 s2 hu ⟨.bl _,H,I,rfl,q⟩
theorem jH (hu:X.A.units+64<Iq):OpR X (Gk .NotEq) (tj true):=by
 intro pins s σ H x y v u Q I rx ry h;obtain ⟨d,e,h1,h2,s1,s2,q⟩:=h;obtain ⟨as,r1⟩:=h1.reads I rx;obtain ⟨bs,r2⟩:=h2.reads I ry;exact ne_dataH r1 r2 s1 s2 hu ⟨.bl _,H,I,rfl,q⟩
end
noncomputable def tyD:Gm->String
 | .none=>"NoneType"
 | .bool _=>"bool"
 | .int _=>"int"
 | .str _=>"str"
 | .list _=>"list"
 | .tuple _=>"tuple"
 | .dict _=>"dict"
theorem Rep.ty {K:W.Frag} {H:Hp} {d:Gm} {v:V} (h:Rep H d v):h9 K H v (.type (tyD d)):=by
 cases d with
 | none=>simp only [Rep] at h; subst h; exact .non
 | bool b=>simp only [Rep] at h; subst h; exact .bl b
 | int b=>simp only [Rep] at h; subst h; exact .int b
 | str b=>simp only [Rep] at h; subst h; exact .str b
 | list ds=>simp only [Rep] at h; obtain ⟨a,xs,rfl,e,_⟩:=h; exact .lst e
 | tuple ds=>simp only [Rep] at h; obtain ⟨a,xs,rfl,e,_⟩:=h; exact .tup e
 | dict _=>simp only [Rep] at h
noncomputable def isD (T:String):Gm->Bool
 | .none=>T=="NoneType"
 | .bool _=>T=="bool"||T=="int"
 | .int _=>T=="int"
 | .str _=>T=="str"
 | .list _=>T=="list"
 | .tuple _=>T=="tuple"
 | .dict _=>T=="dict"
theorem qy {K:W.Frag} (d:Gm):W.kitOne K (.type (tyD d)) (.type "bool")=some (isD "bool" d):=by cases d<;>kernel_rfl
theorem uB {K:W.Frag} (d:Gm):W.kitOne K (.type (tyD d)) (.type "int")=some (isD "int" d):=by cases d<;>kernel_rfl
theorem uC {K:W.Frag} (d:Gm):W.kitOne K (.type (tyD d)) (.type "str")=some (isD "str" d):=by cases d<;>kernel_rfl
theorem lq {K:W.Frag} (d:Gm):W.kitOne K (.type (tyD d)) (.type "list")=some (isD "list" d):=by cases d<;>kernel_rfl
theorem gS {K:W.Frag} (d:Gm):W.kitOne K (.type (tyD d)) (.type "tuple")=some (isD "tuple" d):=by cases d<;>kernel_rfl
theorem Inv.turnedL {X:Cx} {pins:List (Δ×Hu)} {σ:St} {H:Hp} {s:AU} {h':F6} {t':Nat} {ch:List Δ} {T:Δ} {o:HO} (I:Inv X pins σ H s) (k:∀ b o,b∉ch->s.heap.get? b=some o->h'.get? b=some o)
  (f:∀ b∈ch,hW X pins H b) (there:∀ b∈ch,∃ o,h'.get? b=some o) (hT:s.heap.objs.size<=T) (new:bL X.prog X.w (upd H T o) h' T o):Inv X pins σ (upd H T o) { s with heap:=h',toks:=t' }:=by
 have nit:∀ b u,H b=some u->b∉ch:=fun b u e z=>by rw [(f b z).1] at e; cases e
 have ltT:∀ b ob,s.heap.get? b=some ob->b≠T:=fun b ob e=>E6 (FI (E1 e) hT);have hTn:H T=none:=I.hok.fresh hT;have neT:∀ b u,H b=some u->b≠T:=fun b u e=>bz e hTn;refine I.step (g':=s.gens) (d':=s.drawn) (ch:=ch) (fun b hb=>⟨(f b hb).2.2.2.1,(f b hb).2.1,(f b hb).2.2.2.2.1,(f b hb).2.2.2.2.2⟩) (fun b o _ _ hc e _=>k b o hc e) (fun b o _ _ hc e _=>⟨o.slots,k b o hc e⟩) (fun b o _ e n=>by rw [ar (ltT b o e)]; exact n)
  (fun b o hc e=>⟨o,k b o hc e⟩) (fun b _ e=>by rw [ar (neT b _ e)]; exact e) (fun b _ _ e=>by rw [ar (neT b _ e)]; exact e) (fun b ps e=>⟨#[],by rw [ar (neT b _ e),e]; simp⟩) (fun m hm=>?_) (fun b u e=>?_) I.bare
 ·obtain ⟨ob,es,ep,ho,r⟩:=hm;exact ⟨ob,es,ep,k _ ob (fun z=>(f _ z).2.1 rfl) ho,r⟩
 ·by_cases hb:b=T
  ·subst hb;rw [af] at e
   cases e;exact new
  ·rw [ar hb] at e;refine (I.hok b u e).stay (fun c v hc q=>k c v ?_ q) (fun q e'=>?_) fun a q e'=>?_
   ·rcases hc with z | z
    ·rw [z]; exact nit b u e
    ·exact nit c _ z
   ·rw [ar (neT _ _ e')]; exact e'
   ·rw [ar (neT _ _ e')]; exact e'
noncomputable def Itz (K:W.Frag) (a b:Δ):It :=
  ⟨fun i H=>∃ xs ys x y,SqL K H a xs/\SqL K H b ys/\xs[i]?=some x/\ys[i]?=some y,
   fun i H v H'=>∃ T,v=.ref T/\H T=none/\∀ xs ys,SqL K H a xs->SqL K H b ys->∃ x y,xs[i]?=some x/\ys[i]?=some y/\H'=upd H T (.tup [x,y]),
   fun i H=>∃ xs ys,SqL K H a xs/\SqL K H b ys/\(xs.length<=i\/ys.length<=i)⟩
theorem Ak {P:FP} {w:F0} {K:W.Frag} {elts:List GO} {kt:Nat} {pt:Jf} {a b n:Δ} (ha:a<n) (hb:b<n) :
    p7 P w K (.Tuple elts kt pt) (Itz K a b) [n+4,n+2,n+3,n,n+1] (n+4) (fun i h=>LH h (n+4) (n+2) (n+3) .none/\JX h (n+2) (.ref n) (.ref (n+1))/\(∃ x y,JX h (n+3) x y)/\h.IsListIter n a i/\h.IsListIter (n+1) b i) where
  mem:=by simp
  obj:=fun i h st c hc=>by
    obtain ⟨z1,z2,⟨x,y,z3⟩,⟨o4,e4,c4,d4⟩,⟨o5,e5,c5,d5⟩⟩:=st;simp only [BF,FJ,or_false] at hc;rcases hc with rfl | rfl | rfl | rfl | rfl
    · exact ⟨_,z1,fun v z=>by cases z⟩
    · exact ⟨_,z2,fun v z=>by cases z⟩
    · exact ⟨_,z3,fun v z=>by cases z⟩
    · exact ⟨_,e4,fun v z=>by rw [d4] at z; cases z⟩
    · exact ⟨_,e5,fun v z=>by rw [d5] at z; cases z⟩
  keep:=fun i h h' st k=>by
    obtain ⟨z1,z2,⟨x,y,z3⟩,z4,z5⟩:=st;exact ⟨k _ (by simp) _ z1,k _ (by simp) _ z2,⟨x,y,k _ (by simp) _ z3⟩,z4.at fun o e=>k _ (by simp) o e,z5.at fun o e=>k _ (by simp) o e⟩
  item:=by
    intro X hP hw hK hc i pins s σ H E I hf st hg;subst hP hw hK;obtain ⟨xs,ys,x,y,hqa,hqb,hx,hy⟩:=hg;obtain ⟨its,rv,p,hz⟩:=I.list hqa;obtain ⟨jts,rw',p',hz'⟩:=I.list hqb;obtain ⟨u,hu,ru⟩:=rv.get hx;obtain ⟨u',hu',ru'⟩:=rw'.get hy;obtain ⟨z1,z2,⟨x0,y0,z3⟩,z4,z5⟩:=st;have D:Ly (n+4) (n+2) (n+3) n (n+1) a b:=Ia ha hb;have ltz:n+4<s.heap.objs.size:=E1 z1;refine wpAny_pyNext_zip_item D z1 z2 z3 z4 z5 p.isList p'.isList (x:=u) (y:=u') (by simpa using hu) (by simpa using hu') fun h' a1 a2 a3 a4 a5 a6 hk=>?_;refine ⟨_,rfl,ND (s:={ s with heap:=h' }) a1 fun h2 b1 hs=>?_⟩;have neT:∀ {c:Δ},c<=n+4->c≠s.heap.objs.size:=fun h=>E6 (Fz h ltz);have kk:∀ c o,c∉[n+4,n+3,n,n+1]->s.heap.get? c=some o->h2.get? c=some o:=fun c o hc e=>by
      simp only [BF,FJ,or_false,not_or] at hc;exact (hs.2 c hc.1).trans (hk c o hc.1 hc.2.1 hc.2.2.1 hc.2.2.2 e)
    have q2:h2.get? (n+2)=_:=kk _ _ (by simp only [BF,FJ,or_false,not_or]; exact ⟨D.TIz,D.TITO,D.TIi1,D.TIi2⟩) z2;have q3:h2.get? (n+3)=_:=(hs.2 _ D.TOz).trans a2;obtain ⟨o4,e4,c4⟩:=a3;obtain ⟨o5,e5,c5⟩:=a4;have q4:h2.get? n=_:=(hs.2 _ D.i1z).trans e4;have q5:h2.get? (n+1)=_:=(hs.2 _ D.i2z).trans e5;have qT:h2.get? s.heap.objs.size=_:=(hs.2 _ (Gd (neT (BE _)))).trans a5;have sub:∀ c∈[n+4,n+3,n,n+1],c∈[n+4,n+2,n+3,n,n+1]:=fun c hc=>by
      simp only [BF,FJ,or_false] at hc ⊢;rcases hc with e | e | e | e
      · exact .inl e
      · exact .inr (.inr (.inl e))
      · exact .inr (.inr (.inr (.inl e)))
      · exact .inr (.inr (.inr (.inr e)))
    have I1:Inv X pins σ (upd H s.heap.objs.size (.tup [x,y])) { s with heap:=h2,toks:=s.toks }:=I.turnedL (ch:=[n+4,n+3,n,n+1]) kk (fun c hc=>hf c (sub c hc)) (fun c hc=>by
        simp only [BF,FJ,or_false] at hc;rcases hc with rfl | rfl | rfl | rfl
        · exact ⟨_,b1⟩
        · exact ⟨_,q3⟩
        · exact ⟨_,q4⟩
        · exact ⟨_,q5⟩) (BE _) ⟨by show 2<=E4; decide,[u,u'],.cons ru (.cons ru' .nil),_,qT,rfl,_,rfl⟩
    refine ⟨.ref s.heap.objs.size,_,I1,rfl,⟨_,rfl,I.hok.fresh (BE _),fun vs ws hv hw=>?_⟩,⟨b1,q2,⟨_,_,q3⟩,⟨_,q4,c4⟩,⟨_,q5,c5⟩⟩,fun c hc=>?_⟩
    · rw [I.list_inj hv hqa,I.list_inj hw hqb]
      exact ⟨x,y,hx,hy,rfl⟩
    · have hle:c<=n+4:=by
        simp only [BF,FJ,or_false] at hc;rcases hc with rfl | rfl | rfl | rfl | rfl
        · exact BE _
        · exact F7 (n+2) 2
        · exact F7 (n+3) 1
        · exact F7 _ 4
        · exact F7 (n+1) 3
      rw [ar (neT hle)];exact (hf c hc).1
  done:=by
    intro X hP hw hK hc i pins s σ H E I hf st hg;subst hP hw hK;obtain ⟨xs,ys,hqa,hqb,hl⟩:=hg;obtain ⟨its,rv,p,hz⟩:=I.list hqa;obtain ⟨jts,rw',p',hz'⟩:=I.list hqb;obtain ⟨z1,z2,⟨x0,y0,z3⟩,z4,z5⟩:=st;have D:Ly (n+4) (n+2) (n+3) n (n+1) a b:=Ia ha hb;have l1:=rv.length;have l2:=rw'.length;refine wpAny_pyNext_zip_end (I.ok.hd hc) D z1 z2 z3 z4 z5 p.isList p'.isList ?_ fun h' hk=>⟨rfl,?_⟩
    · rcases hl with h | h
      · exact .inl (by simp; omega)
      · exact .inr (by simp; omega)
    · have fp:∀ c∈[n+4,n+3,n,n+1],hW X pins H c:=fun c hc=>hf c (by
        simp only [BF,FJ,or_false] at hc ⊢;rcases hc with e | e | e | e
        · exact .inl e
        · exact .inr (.inr (.inl e))
        · exact .inr (.inr (.inr (.inl e)))
        · exact .inr (.inr (.inr (.inr e))))
      have kk:∀ c o,c∉[n+4,n+3,n,n+1]->s.heap.get? c=some o->h'.get? c=some o:=fun c o hc e=>by
        simp only [BF,FJ,or_false,not_or] at hc;exact hk c o hc.1 hc.2.1 hc.2.2.1 hc.2.2.2 e
      have nit:∀ c u,H c=some u->c∉[n+4,n+3,n,n+1]:=fun c u e z=>by rw [(fp c z).1] at e; cases e
      refine I.step (g':=s.gens) (d':=s.drawn) (t':=s.toks) (ch:=[n+4,n+3,n,n+1]) (fun c hc=>⟨(fp c hc).2.2.2.1,(fp c hc).2.1,(fp c hc).2.2.2.2.1,(fp c hc).2.2.2.2.2⟩) (fun c o _ _ hc e _=>kk c o hc e) (fun c o _ _ hc e _=>⟨o.slots,kk c o hc e⟩) (fun _ _ _ _ n=>n)
        (fun c o hc e=>⟨o,kk c o hc e⟩) (fun _ _ e=>e) (fun _ _ _ e=>e) (fun _ ps e=>⟨#[],by rw [e]; simp⟩) (fun m hm=>?_) (fun c u e=>?_) I.bare
      · obtain ⟨ob,es,ep,ho,r⟩:=hm
        exact ⟨ob,es,ep,kk _ ob (fun z=>(fp _ z).2.1 rfl) ho,r⟩
      · refine (I.hok c u e).stay (fun d v hd q=>kk d v ?_ q) (fun _ e'=>e') fun _ _ e'=>e'
        rcases hd with z | z
        · rw [z]; exact nit c u e
        · exact nit d _ z
  self:=fun _ _ _ _ _ st h=>Kq st.1 h
section
variable {σ:St} {H:Hp} {Q:VK} {D:dh} {QB:Bool->Hp->Prop} {QA:List V->Hp->Prop}
theorem Bn (h:D.nx σ H):Ce D σ H:=h
theorem Dd {te:TE} {g:TG} (h:te σ H fun x H1=>g x σ H1 D.nx):Aa te g D σ H:=h
theorem b0 {i:Nat} {v:V} {Q:St->Hp->Prop} (h:Q (σ.set i (some v)) H):cX i v σ H Q:=h
theorem Du {te:TE} (h:te σ H D.rt):Er te D σ H:=h
theorem Be {te:TE} (h:te σ H fun _ H1=>D.nx σ H1):Ca te D σ H:=h
theorem Dp {c:TT} {t u:TS} (h:c σ H fun b H1=>if b=true then t D σ H1 else u D σ H1):En c t u D σ H:=h
theorem Ef {t:TE} (h:t σ H fun x H1=>∃ c,x=.bl c/\QB c H1):tB t σ H QB:=h
theorem zA {t:TE} (h:t σ H fun x H1=>∃ c,x=.bl c/\QB c H1):u9 t σ H QB:=h
theorem Bf {b:Bool} {P:Bool->Prop} (h:P b):∃ c,V.bl b=V.bl c/\P c:=⟨b,rfl,h⟩
theorem zh {a:Δ} {P:Δ->Prop} (h:P a):∃ c,V.ref a=V.ref c/\P c:=⟨a,rfl,h⟩
theorem zg {i:Int} {P:Int->Prop} (h:P i):∃ c,V.int i=V.int c/\P c:=⟨i,rfl,h⟩
theorem Dw {i:Nat} {v:V} (e:σ[i]?=some (some v)) (h:Q v H):DE i σ H Q:=⟨v,e,h⟩
theorem EU {v:V} (h:Q v H):tC v σ H Q:=h
theorem Ec {r:R2} {ta tb:TE} (h:ta σ H fun x H1=>tb σ H1 fun y H2=>r x y H2 Q):tOp r ta tb σ H Q:=h
theorem Eg {r:V->Hp->VK->Prop} {ta:TE} (h:ta σ H fun x H1=>r x H1 Q):tUn r ta σ H Q:=h
theorem A9 {ta tb:TE} (h:ta σ H fun x H1=>∃ c,x=.bl c/\if c=true then tb σ H1 Q else Q (.bl false) H1):B8 ta tb σ H Q:=h
theorem Bo {ta:TE} (h:ta σ H fun x H1=>∃ c,x=.bl c/\Q (.bl (!c)) H1):Cf ta σ H Q:=h
theorem Dc {t u:TT} (h:t σ H fun c H1=>if c=true then u σ H1 QB else QB false H1):Ej t u σ H QB:=h
theorem Ed {t u:TT} (h:t σ H fun c H1=>if c=true then QB true H1 else u σ H1 QB):tOr t u σ H QB:=h
theorem Dt {t:TT} (h:t σ H fun c H1=>QB (!c) H1):Ep t σ H QB:=h
theorem Eb {t:TT} {ta tb:TE} (h:t σ H fun c H1=>if c=true then ta σ H1 Q else tb σ H1 Q):tIf t ta tb σ H Q:=h
theorem dR (h:QB true H):iu σ H QB:=h
theorem D9 {g:Int->Int->V} {i j:Int} (h:Q (g i j) H):rI0 g (.int i) (.int j) H Q:=⟨i,j,rfl,rfl,h⟩
theorem bR {C:Int->Int->Prop} {g:Int->Int->V} {i j:Int} (c:C i j) (h:Q (g i j) H):rI C g (.int i) (.int j) H Q:=⟨i,j,rfl,rfl,c,h⟩
theorem ES {g:Int->V} {i:Int} (h:Q (g i) H):rU g (.int i) H Q:=⟨i,rfl,h⟩
theorem Dj {i j:Int} (h:Q (.bl (decide (i=j))) H):rEq (.int i) (.int j) H Q:=⟨rfl,by
 rw [kC,Int.instDecidableEq.eq_def]<;>first | exact h | (simpa [kC] using h)⟩
theorem Dr {i j:Int} (h:Q (.bl (!decide (i=j))) H):rNe (.int i) (.int j) H Q:=⟨rfl,by
 have e:decide (V.int i=V.int j)=decide (i=j):=by by_cases z:i=j<;>simp [z]
 rw [e]; exact h⟩
theorem Dl {i j:Str} (h:Q (.bl (decide (i=j))) H):rEq (.str i) (.str j) H Q:=⟨rfl,by
 have e:decide (V.str i=V.str j)=decide (i=j):=by by_cases z:i=j<;>simp [z]
 rw [e]; exact h⟩
theorem Di {i j:Bool} (h:Q (.bl (decide (i=j))) H):rEq (.bl i) (.bl j) H Q:=⟨rfl,by
 have e:decide (V.bl i=V.bl j)=decide (i=j):=by by_cases z:i=j<;>simp [z]
 rw [e]; exact h⟩
theorem Dq {i j:Bool} (h:Q (.bl (!decide (i=j))) H):rNe (.bl i) (.bl j) H Q:=⟨rfl,by
 have e:decide (V.bl i=V.bl j)=decide (i=j):=by by_cases z:i=j<;>simp [z]
 rw [e]; exact h⟩
theorem aG {K:W.Frag} {p:Δ} {xs:List V} {i:Int} {v:V} (h:SqL K H p xs) (e:atI xs i=some v) (q:Q v H):A4 K (.ref p) (.int i) H Q:=⟨p,xs,i,v,rfl,rfl,h,e,q⟩
theorem bu {K:W.Frag} {p:Δ} {xs:List V} {i:Int} {v:V} (h:SqT K H p xs) (e:atI xs i=some v) (q:Q v H):A5 K (.ref p) (.int i) H Q:=⟨p,xs,i,v,rfl,rfl,h,e,q⟩
theorem Bh {K:W.Frag} {p:Δ} {xs:List V} {i:Int} {v:V} (h:SqL K H p xs) (e:atI xs i=some v) (q:Q v H):rIx K (.ref p) (.int i) H Q:=.inl (aG h e q)
theorem Bi {K:W.Frag} {p:Δ} {xs:List V} {i:Int} {v:V} (h:SqT K H p xs) (e:atI xs i=some v) (q:Q v H):rIx K (.ref p) (.int i) H Q:=.inr (.inl (bu h e q))
theorem ze {r r':R2} {ta tb tc:TE} (h:ta σ H fun x H1=>tb σ H1 fun y H2=>r x y H2 fun z H3=>∃ k,z=.bl k/\if k=true then tc σ H3 fun y' H4=>r' y y' H4 Q else Q (.bl false) H3):tW r r' ta tb tc σ H Q:=h
theorem Ba {sp:Sp} {dvs:List V} {E:XK} {t:TA} (h:t σ H fun vs H1=>sp (vs++dvs) H1 Q E):Ab sp dvs E t σ H Q:=h
theorem Ds (h:QA [] H):DC σ H QA:=h
theorem Bc {ta:TE} {tr:TA} (h:ta σ H fun x H1=>tr σ H1 fun xs H2=>QA (x::xs) H2):B9 ta tr σ H QA:=h
theorem D8 {r:List V->Hp->VK->Prop} {t:TA} (h:t σ H fun vs H1=>r vs H1 Q):tCB r t σ H Q:=h
end
theorem CM {K:W.Frag}:W.kitOne K (.type "int") (.type "int")=some true:=by kernel_rfl
theorem CL {K:W.Frag}:W.kitOne K (.type "int") (.type "bool")=some false:=by kernel_rfl
section
variable {X:Cx} {K:W.Frag} {H:Hp} {Q:VK} {σ:St}
def C6 (K:W.Frag):List V->Hp->VK->Prop:=fun xs H Q=>∃ x n t b,xs=[x,.ty n]/\h9 K H x t/\W.kitOne K t (.type n)=some b/\Q (.bl b) H
theorem vj:bS X (.builtin "isinstance") (C6 X.K):=qg
theorem cW {x:V} {n:String} {t:χ} {b:Bool} (ty:h9 K H x t) (e:W.kitOne K t (.type n)=some b) (h:Q (.bl b) H):C6 K [x,.ty n] H Q:=⟨x,n,t,b,rfl,ty,e,h⟩
def A6 (K:W.Frag):List V->Hp->VK->Prop:=fun xs H Q=>∃ p ys,xs=[.ref p]/\(SqL K H p ys\/SqT K H p ys)/\Q (.int ys.length) H
theorem Cv:bS X (.builtin "len") (A6 X.K):=nU
theorem aV {p:Δ} {ys:List V} (h:H p=some (.lst ys)) (q:Q (.int ys.length) H):A6 K [.ref p] H Q:=⟨p,ys,rfl,.inl (SqL.of h),q⟩
theorem kJ {p:Δ} {ys:List V} (h:H p=some (.tup ys)) (q:Q (.int ys.length) H):A6 K [.ref p] H Q:=⟨p,ys,rfl,.inr (SqT.of h),q⟩
def C5 (K:W.Frag):List V->Hp->VK->Prop:=fun xs H Q=>∃ (p:Δ) (bs:List Bool),xs=[.ref p]/\SqL K H p (bs.map V.bl)/\Q (.bl (bs.all id)) H
theorem Cu (hc:X.calm=true):bS X (.builtin "all") (C5 X.K):=qf hc
theorem lK {p:Δ} {bs:List Bool} (h:H p=some (.lst (bs.map V.bl))) (q:Q (.bl (bs.all id)) H):C5 K [.ref p] H Q:=⟨p,bs,rfl,SqL.of h,q⟩
def A8 (K:W.Frag):List V->Hp->VK->Prop:=fun xs H Q=>∃ (p:Δ) (ns:List Int),xs=[.ref p]/\(SqL K H p (ns.map V.int)\/SqT K H p (ns.map V.int))/\fm ns/\Q (.int ns.sum) H
theorem Cw (hc:X.calm=true):bS X (.builtin "sum") (A8 X.K):=nZ hc
theorem uW {p:Δ} {ns:List Int} (h:H p=some (.tup (ns.map V.int))) (s:fm ns) (q:Q (.int ns.sum) H):A8 K [.ref p] H Q:=⟨p,ns,rfl,.inr (SqT.of h),s,q⟩
theorem uV {p:Δ} {ns:List Int} (h:H p=some (.lst (ns.map V.int))) (s:fm ns) (q:Q (.int ns.sum) H):A8 K [.ref p] H Q:=⟨p,ns,rfl,.inl (SqL.of h),s,q⟩
def D1:List V->Hp->VK->Prop:=fun xs H Q=>∃ i,xs=[.int i]/\Q (.int (if i<0 then -i else i)) H
theorem Ct:bS X (.builtin "abs") D1:=xD
theorem C9 {i:Int} (q:Q (.int (if i<0 then -i else i)) H):D1 [.int i] H Q:=⟨i,rfl,q⟩
def uR (K:W.Frag):List V->Hp->VK->Prop:=fun xs H Q=>∃ p ys,xs=[.ref p]/\(SqL K H p ys\/SqT K H p ys)/\∀ l,H l=none->Q (.ref l) (upd H l (.lst ys))
theorem Av:bS X (.type "list") (uR X.K):=nW
theorem rh {p:Δ} {ys:List V} (h:H p=some (.lst ys)) (q:∀ l,H l=none->Q (.ref l) (upd H l (.lst ys))):uR K [.ref p] H Q:=⟨p,ys,rfl,.inl (SqL.of h),q⟩
theorem ri {p:Δ} {ys:List V} (h:H p=some (.tup ys)) (q:∀ l,H l=none->Q (.ref l) (upd H l (.lst ys))):uR K [.ref p] H Q:=⟨p,ys,rfl,.inr (SqT.of h),q⟩
def tw (K:W.Frag):List V->Hp->VK->Prop:=fun xs H Q=>∃ p ys,xs=[.ref p]/\((SqL K H p ys/\∀ l,H l=none->Q (.ref l) (upd H l (.tup ys)))\/(SqT K H p ys/\Q (.ref p) H))
theorem xC:bS X (.type "tuple") (tw X.K):=mw
theorem nF {p:Δ} {ys:List V} (h:H p=some (.lst ys)) (q:∀ l,H l=none->Q (.ref l) (upd H l (.tup ys))):tw K [.ref p] H Q:=⟨p,ys,rfl,.inl ⟨SqL.of h,q⟩⟩
def D3 (K:W.Frag) (f:Str):V->Hp->VK->Prop:=fun x H1 Q=>∃ a C dx fs v,x=.ref a/\H1 a=some (.ins C dx fs)/\Cls K C/\cU K C f/\fs.lookup f=some v/\Q v H1
theorem Dm {ta:TE} {f:Str} (h:ta σ H fun x H1=>D3 K f x H1 Q):DB K ta f σ H Q:=h
theorem dC {f:Str} {a C dx:Δ} {fs:List (Str×V)} {v:V} (h:H a=some (.ins C dx fs)) (c:Cls K C) (n:cU K C f) (l:fs.lookup f=some v) (q:Q v H):D3 K f (.ref a) H Q:=⟨a,C,dx,fs,v,rfl,h,c,n,l,q⟩
def B2 (C:Δ) (m:Str):V->Hp->Prop->Prop:=fun x H1 q=>∃ a dx fs,x=.ref a/\H1 a=some (.ins C dx fs)/\fs.lookup m=none/\q
theorem Bm {C:Δ} {m:Str} {sp:Sp} {dvs:List V} {E:XK} {ta:TE} {t:TA} (h:ta σ H fun x H1=>B2 C m x H1 (t σ H1 fun vs H2=>sp (x::(vs++dvs)) H2 Q E)):Ag C m sp dvs E ta t σ H Q:=h
theorem au {C a dx:Δ} {m:Str} {fs:List (Str×V)} {q:Prop} (h:H a=some (.ins C dx fs)) (l:fs.lookup m=none) (hq:q):B2 C m (.ref a) H q:=⟨a,dx,fs,rfl,h,l,hq⟩
theorem Bl {C:Δ} {sp:Sp} {dvs:List V} {E:XK} {t:TA} (h:t σ H fun vs H1=>∀ x dx,H1 x=none->H1 dx=none->dx≠x ->
 sp (.ref x::(vs++dvs)) (upd (upd H1 dx (.own x)) x (.ins C dx [])) (fun v H2=>v=.non/\Q (.ref x) H2) E):Cd C sp dvs E t σ H Q:=h
def rBM (K:W.Frag) (T:String):V->Hp->Prop->Prop:=fun x H1 q=>tyV K T x H1/\q
theorem Ea {T:String} {r:V->List V->Hp->VK->Prop} {to:TE} {t:TA} (h:to σ H fun x H1=>rBM K T x H1 (t σ H1 fun xs H2=>r x xs H2 Q)):tBM K T r to t σ H Q:=h
theorem De {T:String} {r:V->List V->Hp->VK->Prop} {to:TE} (h:to σ H fun x H1=>rBM K T x H1 (r x [] H1 Q)):Ek K T r to σ H Q:=h
theorem bN {l:Δ} {xs:List V} {q:Prop} (h:H l=some (.lst xs)) (hq:q):rBM K "list" (.ref l) H q:=⟨.inl ⟨rfl,_,SqL.of h⟩,hq⟩
theorem a9 {l:Δ} {xs:List V} {y:V} (h:H l=some (.lst xs)) (z:xs.length<E4) (q:Q .non (upd H l (.lst (xs++[y])))):uP (.ref l) [y] H Q:=⟨l,xs,y,rfl,rfl,h,z,q⟩
theorem qZ {l:Δ} {xs:List V} (h:H l=some (.lst xs)) (q:Q .non (upd H l (.lst []))):y7 (.ref l) [] H Q:=⟨l,xs,rfl,rfl,h,q⟩
theorem Ee {r:V->Option Int->Option Int->Hp->VK->Prop} {te:TE} {tl th:TO} (h:te σ H fun x H1=>tl σ H1 fun l H2=>th σ H2 fun u H3=>r x l u H3 Q):tSl r te tl th σ H Q:=h
theorem we {Q:Option Int->Hp->Prop} (h:Q none H):u7 σ H Q:=h
theorem Bp {t:TE} {Q:Option Int->Hp->Prop} (h:t σ H fun x H1=>∃ i,x=.int i/\Q (some i) H1):Cg t σ H Q:=h
theorem fc {a:Δ} {xs:List V} {lo hi:Option Int} (h:H a=some (.lst xs)) (q:∀ p,H p=none->Q (.ref p) (upd H p (.lst (di xs lo hi)))):A7 K (.ref a) lo hi H Q:=⟨a,xs,rfl,SqL.of h,q⟩
def xq (J:It) (g:TG) (tb:TS) (D:dh) (σ:St) (H1:Hp):Prop:=∃ W:Nat->Nat->St->Hp->Prop,(∃ m,W 0 m σ H1)/\∀ i m σ H,W i m σ H ->
 (J.stop i H/\D.nx σ H)\/(J.go i H/\∃ N:St->Hp->Prop,(∀ σ' H',N σ' H'->∃ m',m'<m/\W (i+1) m' σ' H')/\∀ x H',J.yld i H x H'->g x σ H' fun σ2 H2=>tb { D with nx:=N,ct:=N,bk:=D.nx } σ2 H2)
theorem Dn {wi:TI} {g:TG} {tb:TS} {D:dh} (h:wi σ H fun J H1=>xq J g tb D σ H1):Em wi g tb D σ H:=h
theorem fu {a:Δ} {xs:List V} {g:TG} {tb:TS} {D:dh} (Pv:Nat->St->Hp->Prop) (h0:Pv 0 σ H) (hl:∀ i σ H,i<=xs.length->Pv i σ H->SqL K H a xs)
  (hs:∀ i x σ H,xs[i]?=some x->Pv i σ H->g x σ H fun σ2 H2=>tb { D with nx:=Pv (i+1),ct:=Pv (i+1),bk:=D.nx } σ2 H2) (hd:∀ σ H,Pv xs.length σ H->D.nx σ H):xq (Itl K a) g tb D σ H:=xS Pv h0 hl hs hd
theorem qv {a:Δ} {xs:List V} {g:TG} {tb:TS} {D:dh} (Pv:Nat->St->Hp->Prop) (h0:Pv 0 σ H) (hl:∀ i σ H,i<=xs.length->Pv i σ H->SqT K H a xs)
  (hs:∀ i x σ H,xs[i]?=some x->Pv i σ H->g x σ H fun σ2 H2=>tb { D with nx:=Pv (i+1),ct:=Pv (i+1),bk:=D.nx } σ2 H2) (hd:∀ σ H,Pv xs.length σ H->D.nx σ H):xq (Itt K a) g tb D σ H:=AA Pv h0 hl hs hd
theorem dv {lo:Int} {n:Nat} {g:TG} {tb:TS} {D:dh} (Pv:Nat->St->Hp->Prop) (h0:Pv 0 σ H)
  (hs:∀ i σ H,i<n->Pv i σ H->g (.int (lo+i)) σ H fun σ2 H2=>tb { D with nx:=Pv (i+1),ct:=Pv (i+1),bk:=D.nx } σ2 H2) (hd:∀ σ H,Pv n σ H->D.nx σ H):xq (Itr lo n) g tb D σ H:=vx Pv h0 hs hd
theorem Br {ta:TA} {R:It->Hp->Prop} (h:ta σ H fun vs H1=>∃ j:Int,vs=[.int j]/\-(2 ^ 62)<=j/\j<2 ^ 62/\R (Itr 0 j.toNat) H1):BY ta σ H R:=h
theorem zk {tl:TE} {R:It->Hp->Prop} (h:tl σ H fun x H1=>∃ a,x=.ref a/\(∃ xs,SqL K H1 a xs)/\R (Itl K a) H1):BX K tl σ H R:=h
theorem Bg {tl:TE} {R:It->Hp->Prop} (h:tl σ H fun x H1=>∃ a,x=.ref a/\(∃ xs,SqT K H1 a xs)/\R (Itt K a) H1):DT K tl σ H R:=h
end
theorem aT {zs:List Int} {i:Int} (h0:0<=i) (h1:i<zs.length):atI (zs.map V.int) i=some (.int (zs.getD i.toNat 0)):=by
 obtain ⟨k,rfl⟩:∃ k:Nat,i=(k:Int):=⟨i.toNat,by omega⟩
 refine cg ?_;have hk:k<zs.length:=by omega
 simp [hk]
theorem ah.new {H:Hp} {p:Δ} {o:HO} (h:H p=none):ah H (upd H p o):=fun b u e=>by rw [ar (bz e h)]; exact e
theorem ah.later {H0 H:Hp} {p:Δ} {o:HO} (s:ah H0 H) (h:H0 p=none):ah H0 (upd H p o):=fun b u e=>by rw [ar (bz e h)]; exact s b u e
theorem DV {b:Bool} {A B:Prop} (h:if b=true then A else B):if (true&&b)=true then A else B:=by rw [Bool.true_and]; exact h
theorem DU {b:Bool} {A B:Prop} (h:if b=true then B else A):if (!b)=true then A else B:=by cases b<;>exact h
section
variable {prog:FP} {w:F0} {A:Fv} {E:χ->AU->Prop} {s:AU}
theorem ic {t sl:Δ} {items:Array χ} {vl vu:χ} {lo hi:Option Int} {Q:χ->AU->Prop} (ht:IsTup s.heap t items) (hs:s.heap.IsSliceOf sl vl vu .none) (pl:LI vl lo) (pu:LI vu hi)
  (hw:HT.sIx items.size 0 lo=0/\HT.sIx items.size items.size hi=items.size) (h:Q (.ref t) s):FD (FQ prog w) A (Lw (.ref t) (.ref sl)) Q E s:=by
 obtain ⟨os,hos,hcs,hds⟩:=id hs;have hTs:s.TypeIs (.ref sl) "slice":=⟨os,hos,hcs⟩
 unfold Lw
 try with_reducible refine HW ?_
 first | refine ξ (D_ ?_) | skip
 refine ξ (wpAny_sequenceKey ht.typeIs (by decide) ?_);refine ξ (Hl (name:=IA "__getitem__") ht.typeIs Gb
  (HJ Gb ht.typeIs entry_tuple_getitem ?_ (args_tuple_getitem _ _)))
 show FD _ _ (K4 (.ref t) >>= _) _ _ s
 refine ξ (tupleItemsOf_ ht ?_);refine ξ (Ls hTs ?_);rw [if_pos (by decide)];refine ξ (HT.fB hs pl pu ?_)
 have hyes:(((HT.sIx items.size 0 lo:Nat):Int)==0&&(1:Int)==1&&(HT.sIx items.size items.size hi - HT.sIx items.size 0 lo)==items.size)=true:=by
  rw [hw.1,hw.2]; simp
 show FD _ _ (if (((HT.sIx items.size 0 lo:Nat):Int)==0&&(1:Int)==1&&(HT.sIx items.size items.size hi - HT.sIx items.size 0 lo)==items.size)=true then _ else _) _ _ s
 rw [if_pos hyes];unfold Builtin.Tuple.tupleIsExact;refine ξ (ξ (Ls ht.typeIs (D_ ?_)));rw [if_pos (by decide)]
 first
  | exact ξ (G4 (D_ ⟨_, rfl, D_ h⟩))
  | exact ξ (G4 (ξ (D_ (D_ ⟨_, rfl, D_ h⟩))))
  | exact ξ (ξ (G4 (D_ ⟨_, rfl, D_ h⟩)))
end
def za (K:W.Frag):V->Option Int->Option Int->Hp->VK->Prop:=fun x lo hi H Q=>∃ a xs,x=.ref a/\H a=some (.tup xs)/\∀ H1 p,ah H H1->H1 p=some (.tup (di xs lo hi))->Q (.ref p) H1
theorem BD {X:Cx}:SlR X (za X.K):=by
 intro pins s σ H x v vl vu lo hi sl Q I rx hs pl pu h;obtain ⟨a,xs,rfl,hx,q⟩:=h;by_cases hw:HT.sIx xs.length 0 lo=0/\HT.sIx xs.length xs.length hi=xs.length
 ·cases rx;obtain ⟨its,r,ht,hz⟩:=I.tuple (SqT.of hx);have hlen:its.toArray.size=xs.length:=by rw [E8]; exact r.length.symm
  refine ⟨"tuple",_,Gb.lookup,ht.typeIs,ic ht hs pl pu (by rw [hlen]; exact hw) ⟨.ref a,H,I,rfl,q H a (ah.refl _) ?_⟩⟩;rw [hx];unfold di;rw [hw.1,hw.2,IJ,M7,FG (BE _)]
 ·exact Dz pins s σ H _ v vl vu lo hi sl Q I rx hs pl pu ⟨a,xs,rfl,SqT.of hx,hw,fun p hp=>q _ p (ah.new hp) af⟩
theorem zx {K:W.Frag} {H:Hp} {Q:VK} {a:Δ} {xs:List V} {lo hi:Option Int} (h:H a=some (.tup xs)) (q:∀ H1 p,ah H H1->H1 p=some (.tup (di xs lo hi))->Q (.ref p) H1):za K (.ref a) lo hi H Q:=⟨a,xs,rfl,h,q⟩
def f6 (J:It) (g:TG) (tt:TT) (te:TE) (cap:List (Option Nat)) (l:Δ) (σ:St) (H1:Hp) (Q:VK):Prop :=
 ∃ (n:Nat) (Pv:Nat->List V->St->Hp->Prop),Pv 0 [] (dr cap σ) (upd H1 l (.lst [])) /\
  (∀ i ys σ' H',i<n->Pv i ys σ' H'->J.go i H'/\∀ x H2,J.yld i H' x H2->g x σ' H2 fun σ3 H3=>tt σ3 H3 fun b H4 =>
   if b=true then te σ3 H4 fun y H5=>H5 l=some (.lst ys)/\ys.length<E4/\Pv (i+1) (ys++[y]) σ3 (upd H5 l (.lst (ys++[y]))) else Pv (i+1) ys σ3 H4) /\
  ∀ ys σ' H',Pv n ys σ' H'->J.stop n H'/\Q (.ref l) H'
section
variable {K:W.Frag} {σ:St} {H:Hp} {Q:VK} {te:TE} {cap:List (Option Nat)} {l:Δ}
theorem Bb {wi:TI} {g:TG} {tt:TT} (h:wi σ H fun J H1=>∀ l,H1 l=none->f6 J g tt te cap l σ H1 Q):u5 wi g tt te cap σ H Q:=h
theorem mS {α β:Type} (F:α->β) (xs:List α) (i:Nat) {x:α} (h:xs[i]?=some x):(xs.take (i+1)).map F=(xs.take i).map F++[F x]:=by
 rw [HX,h,GL];rfl
theorem iA {a:Δ} {xs:List V} (F:V->V) (hs:SqL K H a xs) (hz:xs.length<=1000) (hl:H l=none)
  (step:∀ x o H' (Q':VK),x∈xs->ah H H'->(∀ H5,ah H' H5->Q' (F x) H5)->te (((dr (none::cap) σ).set 0 o).set 0 (some x)) H' Q')
  (fin:∀ H',ah H H'->H' l=some (.lst (xs.map F))->Q (.ref l) H'):f6 (Itl K a) (cX 0) iu te (none::cap) l σ H Q:=by
 refine ⟨xs.length,fun i ys σ' H'=>ys=(xs.take i).map F/\(∃ o,σ'=(dr (none::cap) σ).set 0 o)/\ah H H'/\H' l=some (.lst ys),⟨rfl,⟨none,rfl⟩,ah.new hl,af⟩,?_,?_⟩
 ·rintro i ys σ' H' hi ⟨rfl,⟨o,rfl⟩,s,e⟩;refine ⟨⟨xs,xs[i],s.seq hs,by simp [hi]⟩,fun x H2 y=>?_⟩;obtain ⟨e2,y⟩:=y;subst e2;have hx:=y xs (s.seq hs);refine b0 (dR (mz ?_));refine step x o H2 _ (FN hx) s fun H5 s5=>⟨s5 _ _ e,?_,?_⟩
  ·rw [Θ,Fl];exact cJ (by omega)
  ·exact ⟨(mS F xs i hx).symm,⟨_,IS ..⟩,(s.trans s5).later hl,af⟩
 ·rintro ys σ' H' ⟨rfl,_,s,e⟩;rw [FG (BE _)] at e;exact ⟨⟨xs,s.seq hs,BE _⟩,fin H' s e⟩
theorem eR {n:Nat} (F:Nat->V) (hz:n<=1000) (hl:H l=none)
  (step:∀ i o H' (Q':VK),i<n->ah H H'->(∀ H5,ah H' H5->Q' (F i) H5)->te (((dr (none::cap) σ).set 0 o).set 0 (some (.int ((0:Int)+(i:Nat))))) H' Q')
  (fin:∀ H',ah H H'->H' l=some (.lst ((F3 n).map F))->Q (.ref l) H'):f6 (Itr 0 n) (cX 0) iu te (none::cap) l σ H Q:=by
 refine ⟨n,fun i ys σ' H'=>ys=(F3 i).map F/\(∃ o,σ'=(dr (none::cap) σ).set 0 o)/\ah H H'/\H' l=some (.lst ys),⟨rfl,⟨none,rfl⟩,ah.new hl,af⟩,?_,?_⟩
 ·rintro i ys σ' H' hi ⟨rfl,⟨o,rfl⟩,s,e⟩;refine ⟨hi,fun x H2 y=>?_⟩;obtain ⟨e2,rfl⟩:=y;subst e2;refine b0 (dR (mz ?_));refine step i o H2 _ hi s fun H5 s5=>⟨s5 _ _ e,?_,?_⟩
  ·rw [Θ,Gg];exact cJ (by omega)
  ·refine ⟨?_,⟨_,IS ..⟩,(s.trans s5).later hl,af⟩;rw [Kl,GL];rfl
 ·rintro ys σ' H' ⟨rfl,_,s,e⟩;exact ⟨BE _,fin H' s e⟩
def B5 (K:W.Frag) (f:Str) (y x:V) (H2:Hp) (k:Hp->Prop):Prop:=∃ a C dx fs,x=.ref a/\H2 a=some (.ins C dx fs)/\Cls K C/\cU K C f/\fs.length<1000/\k (upd H2 a (.ins C dx (eg f y fs)))
theorem Bt {D:dh} {ta tv:TE} {f:Str} (h:tv σ H fun y H1=>ta σ H1 fun x H2=>B5 K f y x H2 fun H3=>D.nx σ H3):Eh K ta tv f D σ H:=h
theorem gz {f:Str} {y:V} {k:Hp->Prop} {a C dx:Δ} {fs:List (Str×V)} (h:H a=some (.ins C dx fs)) (c:Cls K C) (n:cU K C f) (z:fs.length<1000) (q:k (upd H a (.ins C dx (eg f y fs)))):B5 K f y (.ref a) H k:=⟨a,C,dx,fs,rfl,h,c,n,z,q⟩
def Cp (c:TT) (tb:TS) (D:dh) (σ:St) (H:Hp):Prop:=∃ W:Nat->St->Hp->Prop,(∃ m,W m σ H)/\∀ m σ H,W m σ H ->
 c σ H fun b H1=>if b=true then ∃ N:St->Hp->Prop,(∀ σ' H',N σ' H'->∃ m',m'<m/\W m' σ' H')/\tb { D with nx:=N,ct:=N,bk:=D.nx } σ H1 else D.nx σ H1
theorem zB {D:dh} {c:TT} {tb:TS} (h:Cp c tb D σ H):Aj c tb D σ H:=h
theorem fT {n:Nat} {tt:TGs} {a:Δ} {xs:List V} {QS:St->Hp->Prop} (h:H a=some (.tup xs)) (hl:xs.length=n) (q:tt xs σ H QS):sq K n tt (.ref a) σ H QS:=⟨a,xs,rfl,SqT.of h,hl,q⟩
theorem dg {tg:TG} {u:TGs} {v:V} {r:List V} {QS:St->Hp->Prop} (h:tg v σ H fun σ' H'=>u r σ' H' QS):ij tg u (v::r) σ H QS:=⟨v,r,rfl,h⟩
theorem jl {QS:St->Hp->Prop} (h:QS σ H):vy [] σ H QS:=⟨rfl,h⟩
end
section
variable {X:Cx} (K:W.Frag) (h:X.K=K)
include h
theorem aq:IxR X (A4 K):=h ▸ uz
theorem aY:IxR X (A5 K):=h ▸ x6
theorem oB:IxR X (rIx K):=h ▸ CF
theorem bo:bS X (.builtin "isinstance") (C6 K):=h ▸ vj
theorem aU:bS X (.builtin "len") (A6 K):=h ▸ Cv
theorem kA (hc:X.calm=true):bS X (.builtin "all") (C5 K):=h ▸ Cu hc
theorem kB (hc:X.calm=true):bS X (.builtin "sum") (A8 K):=h ▸ Cw hc
theorem iW:bS X (.type "list") (uR K):=h ▸ Av
theorem ng:bS X (.type "tuple") (tw K):=h ▸ xC
theorem cC:SlR X (A7 K):=h ▸ BC
theorem uZ:SlR X (za K):=h ▸ BD
theorem dB {e:GO} {ta:TE} {f:Str} {pos:Jf} (he:PE X e ta) (hb:Kd e f X.env (Hs e X.env)=Hs e X.env):PE X (.Attribute e f pos) (DB K ta f):=h ▸ CY he hb
end
theorem fo {zs:List Int} {k:Nat}:di (zs.map V.int) (some (k:Int)) none=(zs.drop k).map V.int:=by
 unfold di;rw [HT.gB,HT.gU,Θ];rcases LU k zs.length with h | h
 ·rw [G2 h,<- MW,FG (by rw [Θ,Fw]; omega)]
 ·rw [KO h,Mt h,Kf,IG]; rfl
theorem getD_mem {α:Type} {zs:List α} {k:Nat} {d:α} (h:k<zs.length):zs.getD k d∈zs:=by
 rw [E2,Ω h];exact II h
theorem fP {X:Cx} (K:W.Frag) (hK:X.K=K) {es:List GO} {k:Nat} {t:TGs} {n:Nat} {pos:Jf} (hc:X.calm=true) (h:PGs X es t)
  (hn:(Jj es X.env).length=n:=by rfl) (hst:(Jj es X.env).findIdx? (·.1)=none:=by rfl):PG X (.Tuple es k pos) (sq K n t):=hK ▸ C1 hc h hn hst
theorem nG {H:Hp}:∀ (ns:List Int),RepL H (ns.map JO) (ns.map V.int)
 | []=>by simp only [Ir,RepL]
 | n::r=>by
  simp only [Fg,RepL,Rep];exact ⟨_,_,rfl,rfl,nG r⟩
theorem jn {H:Hp} {a:Δ} {ns:List Int} (h:H a=some (.lst (ns.map V.int))):Rep H (.list (ns.map JO)) (.ref a):=by
 simp only [Rep];exact ⟨a,_,rfl,h,nG ns⟩
theorem kX:∀ ns ms:List Int,Gw (ns.map JO) (ms.map JO)=decide (ns=ms)
 | [],[]=>by simp [Gw]
 | [],_::_=>by simp [Gw]
 | _::_,[]=>by simp [Gw]
 | a::r,b::u=>by
  simp only [Fg,Gw,GH,kX r u];by_cases h:a=b<;>by_cases h':r=u<;>simp [h,h']
theorem nE {H:Hp} {Q:VK} {a b:Δ} {ns ms:List Int} (ha:H a=some (.lst (ns.map V.int))) (hb:H b=some (.lst (ms.map V.int))) (q:Q (.bl (decide (ns=ms))) H):tj false (.ref a) (.ref b) H Q :=
 ⟨_,_,jn ha,jn hb,W.ke_shaped_ints _,W.ke_shaped_ints _,by
  have e:GH (.list (ns.map JO)) (.list (ms.map JO))=decide (ns=ms):=by simp only [GH]; exact kX ns ms
  rw [e]; exact q⟩
theorem wc {H:Hp} {Q:VK} {a b:Δ} {ns ms:List Int} (ha:H a=some (.lst (ns.map V.int))) (hb:H b=some (.lst (ms.map V.int))) (q:Q (.bl (!decide (ns=ms))) H):tj true (.ref a) (.ref b) H Q :=
 ⟨_,_,jn ha,jn hb,W.ke_shaped_ints _,W.ke_shaped_ints _,by
  have e:GH (.list (ns.map JO)) (.list (ms.map JO))=decide (ns=ms):=by simp only [GH]; exact kX ns ms
  rw [e]; exact q⟩
theorem gA {H:Hp}:∀ {ds:List Gm} {xs:List V},RepL H ds xs->ds.length=xs.length/\∀ (i:Nat) x,xs[i]?=some x->∃ d,ds[i]?=some d/\Rep H d x
 | [],xs,h=>by simp only [RepL] at h; subst h; exact ⟨rfl,fun i x e=>by simp at e⟩
 | d::ds,xs,h=>by
  simp only [RepL] at h;obtain ⟨x,r,rfl,h1,h2⟩:=h;obtain ⟨l,g⟩:=gA h2;refine ⟨by simp [l],fun i y e=>?_⟩
  cases i with
  | zero => simp at e; subst e; exact ⟨d, rfl, h1⟩
  | succ i => exact g i y (by simpa using e)
end L2
set_option maxHeartbeats 4000000
namespace L2
open PySem
inductive DS {α:Type}:LD α->Prop
 | pure (a:α):DS (.pure a)
 | raise (e:χ):DS (.raise e)
 | unsup (w:String):DS (.unsupported w)
 | fin (e:Ending):DS (.finish e)
 | rule {t:String} {k:Unit->LD α}:DS (k ())->DS (.rule t k)
 | here {p:Jf} {k:Unit->LD α}:DS (k ())->DS (.at p k)
 | load {a:Δ} {p:Option χ} {k:Hu->LD α}:(∀ o,DS (k o))->DS (.load a p k)
 | upd {a:Δ} {p:Option χ} {f:Hu->Hu} {k:Unit->LD α}:(∀ o,(f o).dict=o.dict/\(f o).isFreed=o.isFreed)->DS (k ())->DS (.update a p f k)
 | alloc {o:Hu} {k:Δ->LD α}:(∀ n,DS (k n))->DS (.alloc o k)
 | point {l:List χ} {k:Unit->LD α}:DS (k ())->DS (.point l k)
 | fresh {k:Tok->LD α}:(∀ n,DS (k n))->DS (.fresh k)
 | ask {k:Setting->LD α}:(∀ n,DS (k n))->DS (.ask k)
 | stack {k:List (Code×Jf)->LD α}:(∀ n,DS (k n))->DS (.stack k)
theorem DS.andThen {α β:Type} {m:LD α} {f:α->LD β} (h:DS m) (g:∀ a,DS (f a)):DS (m >>= f):=by
 show DS (IZ m f)
 induction h with
 | pure a=>rw [IZ]; exact g a
 | raise e=>rw [IZ]; exact .raise e
 | unsup w=>rw [IZ]; exact .unsup w
 | fin e=>rw [IZ]; exact .fin e
 | rule _ ih=>rw [IZ]; exact .rule ih
 | here _ ih=>rw [IZ]; exact .here ih
 | load _ ih=>rw [IZ]; exact .load ih
 | upd z _ ih=>rw [IZ]; exact .upd z ih
 | alloc _ ih=>rw [IZ]; exact .alloc ih
 | point _ ih=>rw [IZ]; exact .point ih
 | fresh _ ih=>rw [IZ]; exact .fresh ih
 | ask _ ih=>rw [IZ]; exact .ask ih
 | stack _ ih=>rw [IZ]; exact .stack ih
def nO (e:Δ) (dx:Option Δ) (h:F6):Prop:=∃ o,h.get? e=some o/\o.dict=dx
theorem nO.upd {e a:Δ} {dx:Option Δ} {h:F6} {f:Hu->Hu} (x:nO e dx h) (z:∀ o,(f o).dict=o.dict/\(f o).isFreed=o.isFreed):nO e dx (h.update a f):=by
 obtain ⟨o,h1,h2⟩:=x;by_cases q:a=e
 ·subst q;have fr:o.isFreed=false:=(Heap.get?_some_iff.mp h1).2;exact ⟨_,Ie f h1 (by rw [(z o).2]; exact fr),by rw [(z o).1]; exact h2⟩
 ·exact ⟨o,by rw [Fy h f q]; exact h1,h2⟩
theorem DS.run {α:Type} {M:Jo} {Γ:Ctx} {m:LD α} {Q:α->Jf->AU->Prop} {E:χ->Jf->AU->Prop} {p:Jf} {s:AU} {e:Δ} {dx:Option Δ} (h:DS m) (w:JW M Γ m Q E p s) (x:nO e dx s.heap) :
  JW M Γ m (fun a p s'=>Q a p s'/\nO e dx s'.heap) (fun v p s'=>E v p s'/\nO e dx s'.heap) p s:=by
 induction h generalizing p s with
 | pure a=>rw [JW] at w ⊢; exact ⟨w,x⟩
 | raise v=>rw [JW] at w ⊢; exact ⟨w,x⟩
 | unsup q=>rw [JW] at w; exact w.elim
 | fin q=>rw [JW] at w; exact w.elim
 | rule _ ih=>rw [JW] at w ⊢; exact ih w x
 | here _ ih=>rw [JW] at w ⊢; exact ih w x
 | load _ ih=>rw [JW] at w ⊢; obtain ⟨o,h1,h2⟩:=w; exact ⟨o,h1,ih o h2 x⟩
 | upd z _ ih=>rw [JW] at w ⊢; exact ⟨w.1,ih w.2 (x.upd z)⟩
 | alloc _ ih=>rw [JW] at w ⊢; exact ih _ w (let ⟨o,h1,h2⟩:=x; ⟨o,ς _ h1,h2⟩)
 | point _ ih=>rw [JW] at w ⊢; exact ih w x
 | fresh _ ih=>rw [JW] at w ⊢; exact ih _ w x
 | ask _ ih=>rw [JW] at w ⊢; exact ih _ w x
 | stack _ ih=>rw [JW] at w ⊢; exact ih _ w x
theorem DS.any {α:Type} {M:Jo} {A:Fv} {m:LD α} {Q:α->AU->Prop} {E:χ->AU->Prop} {s:AU} {e:Δ} {dx:Option Δ} (h:DS m) (w:FD M A m Q E s) (x:nO e dx s.heap) :
  FD M A m (fun a s'=>Q a s'/\nO e dx s'.heap) E s:=fun Γ p hΓ =>
 Sem.wp_mono M Γ m (fun _ _ _ z=>z) (fun _ _ _ z=>z.1) p s (h.run (w Γ p hΓ) x)
theorem gj {α:Type} {c:Prop} [Decidable c] {a b:LD α} (h1:DS a) (h2:DS b):DS (if c then a else b):=by split<;>assumption
theorem iY (v:χ) (i:Nat):DS (MT v i):=by
 unfold MT fieldsOf;refine DS.andThen ?_ fun vs=>?_
 ·cases v with
  | ref a =>
   refine DS.andThen (.load fun o=>.pure o) fun o=>?_
   cases o.data<;>first | exact .pure _ | exact .unsup _
  | _ => exact .unsup _
 ·cases vs[i]?<;>first | exact .pure _ | exact .unsup _
theorem oq (f:Array χ->Array χ) (o:Hu):(Obj.mapFields f o).dict=o.dict/\(Obj.mapFields f o).isFreed=o.isFreed:=by
 obtain ⟨c,d,dt,sl⟩:=o
 cases dt<;>exact ⟨rfl,rfl⟩
theorem gm (v:χ) (i:Nat) (x:χ):DS (setField v i x):=by
 unfold setField
 cases v with
 | ref a =>
  unfold updateField;refine DS.andThen (.load fun o=>.pure o) fun o=>?_
  cases o.data with
  | fields vs => exact gj (.upd (oq _) (.pure ())) (.unsup _)
  | _ => exact .unsup _
 | _=>exact .unsup _
theorem fF (e:χ) (f:Option Δ):DS (setFlight e f):=by
 unfold setFlight;exact DS.andThen (iY _ _) fun tb=>gj (gm _ _ _) (.pure _)
theorem Ay (env:Lo) (b:Bool) (l:List Lo):DS (keptBack env b l):=by
 cases l with
 | nil =>
  unfold keptBack underTheClaimsCaller;refine gj (.pure _) (DS.andThen (DS.andThen (.stack fun n=>.pure n) fun _=>.pure _) fun q=>.pure _)
 | cons c r=>unfold keptBack; exact .pure _
theorem vq (env:Lo) (l:List Lo):DS (behindIsImport env l):=by
 unfold behindIsImport;exact gj (.pure _) (gj (.pure _) (DS.andThen (iY _ _) fun _=>.pure _))
theorem qt:∀ l:List Lo,DS (readyFrames l)
 | []=>by unfold readyFrames; exact .pure _
 | env::r=>by
  unfold readyFrames
  cases env.frame with
  | none => exact .unsup _
  | some f =>
   refine DS.andThen (.load fun o=>.pure o) fun o=>gj (.pure _) ?_;refine DS.andThen (vq _ _) fun b=>DS.andThen (Ay _ _ _) fun v=>DS.andThen (.upd (fun o=>⟨rfl,by obtain ⟨c,d,dt,sl⟩:=o; cases dt<;>rfl⟩) (.pure ())) fun _=>qt r
theorem so (env:Lo):DS (frameOf env):=by
 unfold frameOf frameEnvs;refine DS.andThen (DS.andThen (.stack fun n=>.pure n) fun _=>.pure _) fun l=>DS.andThen ?_ fun o=>?_
 ·generalize l.dropWhile _=l'
  cases l' with
  | nil => unfold frameObject; exact .pure _
  | cons c r => unfold frameObject; exact DS.andThen (qt _) fun _ => .pure _
 ·cases o with
  | none => exact .unsup _
  | some f => exact .pure _
theorem xN (f:Δ) (b:Bool):DS (entryPlaceOf f b):=by
 unfold entryPlaceOf;refine DS.andThen (.stack fun n=>.pure n) fun l=>?_
 cases l.find? _ with
 | none=>exact .pure _
 | some q=>exact .pure _
theorem qr (a b c d e:χ) (l:List χ):DS (KU a b c d e l):=by
 unfold KU newFields newObj newObjAsIs;generalize ([a,b,c,d,e]++if l.isEmpty then JG 6 Im else l)=vs;dsimp only
 split
 ·exact DS.andThen (.unsup _) fun _=>DS.andThen (.alloc fun n=>.pure n) fun _=>.pure _
 ·exact DS.andThen (.alloc fun n=>.pure n) fun _=>.pure _
theorem iZ (e:χ) (env:Lo):DS (noteFrame e env):=by
  unfold noteFrame
  cases env.frame with
  | none => exact .unsup _
  | some f =>
    refine DS.andThen (iY _ _) fun hd=>?_;have tail:DS (do
        let a <- frameOf env
        let pl <- entryPlaceOf f (hd != .none)
        let b <- KU hd a .none (rawInt f) .none pl
        setField e 1 b):=DS.andThen (so _) fun _=>DS.andThen (xN _ _) fun _=>DS.andThen (qr _ _ _ _ _ _) fun _=>gm _ _ _
    refine gj ?_ tail;refine DS.andThen (iY _ _) fun x=>gj (.pure _) (DS.andThen (gm _ _ _) fun _=>tail)
theorem kW (env:Lo) (e:χ):DS (leaving env e):=by
 unfold leaving;exact DS.andThen (iZ _ _) fun _=>fF _ _
end L2
namespace L2
open PySem PySem.Spec PyProof.Rows
structure Exc (g h:F6) (H:Hp) (e C:Δ) (xo:Option Δ):Prop where
 tr:h.Traced g e (.ref C)
 ne:g.get? e=none
 he:H e=none
 hT:∀ oe vs T,h.get? e=some oe->oe.data=.fields vs->vs[1]?=some (.ref T)->H T=none
 dc:∀ dx,xo=some dx->nO e (some dx) h
noncomputable def CX1 (P:FP) (w:F0):CXT:=fun outer H s E x s'=>∃ (e C:Δ) (xo:Option Δ) (H':Hp),x=.ref e/\s'.os=s.os/\J2 s'.gens/\Un (frs outer) [] H H' s.heap s'.heap/\HOk P w H' s'.heap/\Exc s.heap s'.heap H' e C xo/\E (.ref C) xo H'
section
variable {X:Cx} {pins:List (Δ×Hu)} {σ:St} {H:Hp} {s:AU}
theorem Inv.left {h':F6} {es:List Δ} (I:Inv X pins σ H s) (hs:X.stack=X.env::X.outer) (he:∀ b∈es,H b=none/\X.s₀.heap.get? b=none)
  (keep:∀ b o,s.heap.get? b=some o->b∉frs X.stack->b∉es->h'.get? b=some o) (slot:∀ b o,s.heap.get? b=some o->b∈frs X.stack->∃ sl,h'.get? b=some { o with slots:=sl }):Un X.fs X.ex X.H₀ H X.s₀.heap h'/\HOk X.prog X.w H h':=by
 have sub:∀ b∈X.fs,b∈frs X.stack:=fun b hb=>by
  rw [hs]; unfold frs; rw [ID]
  cases X.env.frame with
  | none => exact hb
  | some f => exact Ξ _ hb
 have nfr:∀ b u,H b=some u->b∉frs X.stack:=fun b u e z=>by rw [I.stkFree b z] at e; cases e
 have nes:∀ b u,H b=some u->b∉es:=fun b u e z=>by rw [(he b z).1] at e; cases e
 have neL:∀ b o,X.s₀.heap.get? b=some o->b∉X.fs->b∉frs X.stack:=fun b o e hb z=>by
  rcases BF.mp (I.stkSub b z) with q | q
  ·exact absurd (FI (E1 e) (q ▸ I.ok.above)) (G_ _)
  ·exact hb q
 have ne0:∀ b o,X.s₀.heap.get? b=some o->b∉es:=fun b o e z=>by rw [(he b z).2] at e; cases e
 refine ⟨⟨fun b o e n hb hx=>keep b o (I.base.keep b o e n hb hx) (neL b o e hb) (ne0 b o e),fun b o e n hb hx=>?_,I.base.free,fun b o e hx=>?_,I.base.tups,I.base.frzs,I.base.tbls⟩,fun b u e=>?_⟩
 ·obtain ⟨sl,e1⟩:=I.base.slot b o e n hb hx;obtain ⟨sl',e2⟩:=slot b _ e1 (sub b hb);exact ⟨sl',e2⟩
 ·obtain ⟨o',e1⟩:=I.base.there b o e hx;by_cases hf:b∈frs X.stack
  ·obtain ⟨sl,e2⟩:=slot b o' e1 hf;exact ⟨_,e2⟩
  ·exact ⟨o',keep b o' e1 hf (ne0 b o e)⟩
 ·refine (I.hok b u e).stay (fun c v hc q=>?_) (fun _ q=>q) fun _ _ q=>q;rcases hc with z | z
  ·rw [z] at q ⊢; exact keep b v q (nfr b u e) (nes b u e)
  ·exact keep c v q (nfr c _ z) (nes c _ z)
end
theorem bL.get {P:FP} {w:F0} {H:Hp} {h:F6} {a:Δ} {o:HO} (x:bL P w H h a o):∃ ob,h.get? a=some ob:=by
 cases o with
 | lst xs=>obtain ⟨_,_,_,_,e⟩:=x; exact ⟨_,e⟩
 | tup xs=>obtain ⟨_,_,_,p⟩:=x; obtain ⟨o,e,_⟩:=p; exact ⟨_,e⟩
 | dK kvs=>obtain ⟨_,_,_,_,o,_,_,e,_⟩:=x; exact ⟨_,e⟩
 | dT kvs=>obtain ⟨_,_,_,_,o,_,_,e,_⟩:=x; exact ⟨_,e⟩
 | set S n=>obtain ⟨o,_,_,_,e,_⟩:=x; exact ⟨_,e⟩
 | ins C dx fs=>obtain ⟨_,_,_,e,_⟩:=x; exact ⟨_,e⟩
 | own y=>obtain ⟨_,e⟩:=x; exact ⟨_,e⟩
 | xd fs=>obtain ⟨_,⟨_,_,_,e,_⟩,_⟩:=x; exact ⟨_,e⟩
 | rng lo hi=>obtain ⟨_,_,_,e⟩:=x; exact ⟨_,e⟩
 | frz ob u=>obtain ⟨e,_⟩:=x; exact ⟨_,e⟩
 | tbl ps=>exact ⟨_,(show h.get? a=some _ from x)⟩
 | met f y=>exact ⟨_,(show h.get? a=some _ from x)⟩
 | ext φ=>obtain ⟨_,⟨_,e⟩,_⟩:=x; exact ⟨_,e⟩
theorem HOk.none_of {P:FP} {w:F0} {H:Hp} {h:F6} {a:Δ} (k:HOk P w H h) (e:h.get? a=none):H a=none:=by
 cases q:H a with
 | none=>rfl
 | some o=>obtain ⟨_,z⟩:=(k a o q).get; rw [e] at z; cases z
section
variable {P:FP} {w:F0} {K:W.Frag} {mg:Str->Option χ} {base:F6} {N:List Str} {qual:Str} {scope:KS} {f:Δ} {cd:χ} {A:Fv} {outer:List Lo} {s₀:AU} {H₀:Hp} {E:XK} {pins:List (Δ×Hu)} {σ:St} {H:Hp} {s:AU}
theorem mi {l:List Lo} {as:List Δ} (h:∀ b∈frs l,b∈as):∀ env∈l,∀ a,env.frame=some a->a∈as:=fun env he a ha=>h a (K8.mpr ⟨env,he,ha⟩)
theorem BP {e C:Δ} {xo:Option Δ} {oe:Hu} {vs:Array χ} (I1:Inv (fq (CX1 P w) P w K mg base N qual scope f cd A outer s₀ H₀ E) pins σ H s) (he:s.heap.get? e=some oe) (hcl:oe.cls=.ref C) (hda:oe.data=.fields vs) (h1:vs[1]?=some .none)
  (hs0:s₀.heap.get? e=none) (hHe:H e=none) (dc:∀ dx,xo=some dx->oe.dict=some dx) (q:E (.ref C) xo H):(fq (CX1 P w) P w K mg base N qual scope f cd A outer s₀ H₀ E).xe (.ref e) s:=by
 have ff:=I1.stack;have hl:=W.funFrames_hide (as:=e::frs (fq (CX1 P w) P w K mg base N qual scope f cd A outer s₀ H₀ E).stack) ff (mi fun b hb=>Ξ _ hb);have fin:=wpAny_leaving_first (M:=FQ P w) (E:=fun v s'=>CX1 P w outer H₀ s₀ E v s') (base:=W.hideAll s.heap (e::frs (fq (CX1 P w) P w K mg base N qual scope f cd A outer s₀ H₀ E).stack)) (L:=s₀.heap.objs.size) (e:=e) (s:=s) (Q:=fun _ s'=>∃ h2,s'={ s with heap:=h2 }/\Heap.Left (W.hideAll s.heap (e::frs (fq (CX1 P w) P w K mg base N qual scope f cd A outer s₀ H₀ E).stack)) (Kc qual scope s₀.heap.objs.size f cd::outer) e oe.cls s.heap h2) I1.ok.frames hl rfl he (fun b o z=>W.of_hideAll _ z) (W.hideAll_none _ θ) hda h1 fun h2 lf=>⟨h2,rfl,lf⟩
 refine GW (DS.any (kW _ _) fin ⟨oe,he,rfl⟩) (fun _ s' ⟨⟨h2,e2,lf⟩,hd2⟩=>?_) fun _ _ z=>z;subst e2;obtain ⟨st,ff2,tr,up⟩:=lf;have lf:=I1.left (h':=h2) (es:=[e]) rfl (fun b hb=>by rw [A_.mp hb]; exact ⟨hHe,hs0⟩) (fun b o z nf ne=>st b o (W.hideAll_get _ z (by intro m; rcases BF.mp m with r | r; exact ne (by simp [r]); exact nf r)))
  (fun b o z hb=>by
   obtain ⟨_,o',z',hd⟩:=ff.mem hb;rw [z] at z'; cases z';exact up b o z hd)
 obtain ⟨oe',ws,T,oT,ts,g1,g2,g3,g4,g5,g6,g7,g8,g9⟩:=tr;have nT:T∉frs (fq (CX1 P w) P w K mg base N qual scope f cd A outer s₀ H₀ E).stack:=fun z=>by
  obtain ⟨_,o,zo,hd⟩:=ff2.mem z;rw [g7] at zo; cases zo;exact hd ts g8
 have key:∀ o,s.heap.get? T=some o->False:=fun o z=>by
  rw [W.hideAll_get _ z (by intro m; rcases BF.mp m with r | r; exact g6 r; exact nT r)] at g5
  cases g5
 have hT0:s₀.heap.get? T=none:=by
  cases z:s₀.heap.get? T with
  | none => rfl
  | some o => obtain ⟨o', z'⟩ := I1.base.there T o z (by intro q; cases q); exact (key o' z').elim
 have hHT:H T=none:=by
  cases z:H T with
  | none => rfl
  | some o => obtain ⟨o', z'⟩ := (I1.hok T o z).get; exact (key o' z').elim
 refine ⟨e,C,xo,H,rfl,I1.os,I1.bare,lf.1,lf.2,⟨⟨oe',ws,T,oT,ts,g1,g2.trans hcl,g3,g4,hT0,g6,g7,g8,g9⟩,hs0,hHe,fun oe2 vs' T' z1 z2 z3=>?_,fun dx z=>by rw [dc dx z] at hd2; exact hd2⟩,q⟩;rw [g1] at z1; cases z1;rw [g3] at z2; cases z2;rw [g4] at z3; cases z3;exact hHT
theorem gP {h':F6} {t':Nat} {e C:Δ} {vs:List χ} (I:Inv (fq (CX1 P w) P w K mg base N qual scope f cd A outer s₀ H₀ E) pins σ H s) (hx:MF s.heap h' e (.ref C) vs) (q:E (.ref C) none H) :
  (fq (CX1 P w) P w K mg base N qual scope f cd A outer s₀ H₀ E).xe (.ref e) { s with heap:=h',toks:=t' }:=by
 have I1:=I.kept (t':=t') hx.keeps;obtain ⟨t,he,ht,_⟩:=hx.there
 have hs0:s₀.heap.get? e=none:=by
  cases z:s₀.heap.get? e with
  | none => rfl
  | some o => obtain ⟨o', z'⟩ := I.base.there e o z (by intro q; cases q); rw [hx.new] at z'; cases z'
 exact BP I1 he rfl rfl rfl hs0 (I.hok.none_of hx.new) (fun _ z=>by cases z) q
theorem ck:fD (CX1 P w) (fq (CX1 P w) P w K mg base N qual scope f cd A outer s₀ H₀ E) E:=by
  intro pins σ H s x s' I h;obtain ⟨e,C,xo,H',rfl,os,bare,un,hok,ex,q⟩:=h;have J:=I.call' (s':=s') (ch:=[]) os un hok bare (fun b hb=>by cases hb);obtain ⟨⟨oe,ws,T,oT,ts,g1,g2,g3,g4,g5,g6,g7,g8,g9⟩,ne,hHe,hHT,dc⟩:=ex;have hHT:=hHT oe ws T g1 g3 g4;have s0:∀ {b:Δ},s.heap.get? b=none->s₀.heap.get? b=none:=fun {b} hb=>by
    cases z:s₀.heap.get? b with
    | none=>rfl
    | some o=>obtain ⟨o',z'⟩:=I.base.there b o z (by intro q; cases q); rw [hb] at z'; cases z'
  have ff:=J.stack;have hl:=W.funFrames_hide (as:=e::T::frs (fq (CX1 P w) P w K mg base N qual scope f cd A outer s₀ H₀ E).stack) ff (mi fun b hb=>Ξ _ (Ξ _ hb));have fin:=wpAny_leaving_next (M:=FQ P w) (E:=fun v s'=>CX1 P w outer H₀ s₀ E v s') (base:=W.hideAll s'.heap (e::T::frs (fq (CX1 P w) P w K mg base N qual scope f cd A outer s₀ H₀ E).stack)) (L:=s₀.heap.objs.size) (e:=e) (s:=s') (Q:=fun _ s2=>∃ h2,s2={ s' with heap:=h2 }/\Heap.Left (W.hideAll s'.heap (e::T::frs (fq (CX1 P w) P w K mg base N qual scope f cd A outer s₀ H₀ E).stack)) (Kc qual scope s₀.heap.objs.size f cd::outer) e (.ref C) s'.heap h2) J.ok.frames hl rfl
    ⟨oe,ws,T,oT,ts,g1,g2,g3,g4,W.hideAll_none _ (Ξ _ θ),g6,g7,g8,g9⟩ (fun b o z=>W.of_hideAll _ z) (W.hideAll_none _ θ) fun h2 lf=>⟨h2,rfl,lf⟩
  refine GW (DS.any (kW _ _) fin ⟨oe,g1,rfl⟩) (fun _ s2 ⟨⟨h2,e2,lf⟩,hd2⟩=>?_) fun _ _ z=>z;subst e2;obtain ⟨st,ff2,tr,up⟩:=lf;have lf:=J.left (h':=h2) (es:=[e,T]) rfl (fun b hb=>by
      simp only [BF,FJ,or_false] at hb;rcases hb with rfl | rfl
      · exact ⟨hHe,s0 ne⟩
      · exact ⟨hHT,s0 g5⟩) (fun b o z nf ne=>st b o (W.hideAll_get _ z (by
        intro m;rcases BF.mp m with r | m
        · exact ne (by simp [r])
        · rcases BF.mp m with r | r
          · exact ne (by simp [r])
          · exact nf r)))
      (fun b o z hb=>by
        obtain ⟨_,o',z',hd⟩:=ff.mem hb;rw [z] at z'; cases z';exact up b o z hd)
  obtain ⟨oe2,ws2,T2,oT2,ts2,k1,k2,k3,k4,k5,k6,k7,k8,k9⟩:=tr;have nT:T2∉frs (fq (CX1 P w) P w K mg base N qual scope f cd A outer s₀ H₀ E).stack:=fun z=>by
    obtain ⟨_,o,zo,hd⟩:=ff2.mem z;rw [k7] at zo; cases zo;exact hd ts2 k8
  have hT0:s₀.heap.get? T2=none/\H' T2=none:=by
    by_cases r:T2=T
    · subst r; exact ⟨s0 g5,hHT⟩
    · have key:∀ o,s'.heap.get? T2=some o->False:=fun o z=>by
        rw [W.hideAll_get _ z (by
          intro m;rcases BF.mp m with q | m
          · exact k6 q
          · rcases BF.mp m with q | q
            · exact r q
            · exact nT q)] at k5
        cases k5
      constructor
      · cases z:s₀.heap.get? T2 with
        | none=>rfl
        | some o=>obtain ⟨o',z'⟩:=J.base.there T2 o z (by intro q; cases q); exact (key o' z').elim
      · cases z:H' T2 with
        | none=>rfl
        | some o=>obtain ⟨o',z'⟩:=(J.hok T2 o z).get; exact (key o' z').elim
  refine ⟨e,C,xo,H',rfl,J.os,J.bare,lf.1,lf.2,⟨⟨oe2,ws2,T2,oT2,ts2,k1,k2,k3,k4,hT0.1,k6,k7,k8,k9⟩,s0 ne,hHe,fun oe' vs' T' z1 z2 z3=>?_,fun dx z=>by
      obtain ⟨o,y1,y2⟩:=dc dx z;rw [g1] at y1; cases y1;rw [y2] at hd2; exact hd2⟩,q⟩
  rw [k1] at z1; cases z1;rw [k3] at z2; cases z2;rw [k4] at z3; cases z3;exact hT0.2
end
def tX (C:Δ) (E:XK) (t:TA):TS:=fun _ σ H=>t σ H fun vs H1=>vs.length<=E4/\E (.ref C) none H1
theorem yV {X:Cx} {E:XK} {x:Str} {C:Δ} {B newId initId:String} {bm:List χ} {np cpos pos:Jf} {e:GO} {es:List GO} {t:TA} (O:OwnCls x C bm newId X.mg X.base) (FB:ExcBaseFacts B newId initId bm) (hc:X.calm=true) (hg:Gl X x)
  (hx:∀ (pins:List (Δ×Hu)) (σ:St) (H:Hp) (s:AU) (h':F6) (t':Nat) (e:Δ) (vs:List χ),Inv X pins σ H s->MF s.heap h' e (.ref C) vs->E (.ref C) none H->X.xe (.ref e) { s with heap:=h',toks:=t' })
  (ha:PA X (e::es) t) (hd:(x==("__debug__":Str))=false:=by decide) (he:Fq (e::es) X.env=(false,Hs e X.env)::Fq es X.env:=by rfl) (hpl:(Ih cpos (Fq es X.env)).any (·.1)=false:=by rfl) :
  PS X (.Raise (some (.Call (.Name x np) (e::es) [] cpos)) none pos) (tX C E t):=by
 intro pins s σ H D I h;obtain ⟨tl,N,nm,q,bs,hdct,sn,sub,ab,col,dd,k0,k1,k2,k3,k5,mN,hC,hN,hni,T⟩:=O.obj;refine wpAny_Raise_call_subT (C:=C) (nm:=nm) (q:=q) (N:=N) (bs:=bs) (bm:=tl) (hdct:=hdct) (sn:=sn) (sub:=sub) (ab:=ab) (col:=col) (dd:=dd) (k0:=k0) (k1:=k1) (k2:=k2) (k3:=k3) (k5:=k5)
  FB (mN:=mN) (T.hasType FB.hasBase) (I.ok.hd hc) (by rw [he]; show (false||(Ih cpos (Fq es X.env)).any (·.1))=false; rw [hpl]; rfl) hni (fK I hg O.bound ⟨rfl,?_⟩ hd)
 have h1:=ha cpos pins s σ H _ I h;rw [he] at h1 ⊢;refine M_ (GW h1 (fun us s2 ⟨vs,H2,I2,r2,hl,hE⟩=>⟨rfl,by show us.length<=E4; rw [<- r2.length]; exact hl,I2.bk _ _ hC,hN.keeps I2.bk,T.keeps I2.bk,fun h' a mk=>?_⟩) fun _ _ y=>y);exact hx pins σ H2 s2 h' s2.toks a us I2 mk hE
section
variable {P:FP} {w:F0} {K:W.Frag} {mg:Str->Option χ} {base:F6}
theorem Fun.ok1 {x qual:Str} {st:Jz} {f:Δ} {fd:GX} {N ps:List Str} {k:Nat} {sp:Sp} (F:Fun K x qual st f fd) (S:ay N ps (ak st)) (len:∀ vs H Q E,sp vs H Q E->vs.length=ps.length)
  (hbody:∀ (cdv:χ) (A:Fv) (outer:List Lo) (s:AU) (H:Hp) (vs:List V) (Q:VK) (E:XK),b6 k (A.deeper (Kc qual (ak st) s.heap.objs.size f cdv))->sp vs H Q E ->
   ∃ t,PSs (fq (CX1 P w) P w K mg base N qual (ak st) f cdv A outer s H E) (cS st) t/\t { nx:=fun _ H'=>Q .non H',rt:=Q } (start N vs) H):aN P w K mg base (CX1 P w) (k+1) f fd ps sp:=by
 obtain ⟨oc,od,kV,doc,pm,an,cdv,ct,osl,rfl,lk,hcd⟩:=F.ex;exact BV lk hcd S len fun A outer s H vs Q E hr hsp=>hbody cdv A outer s H vs Q E hr hsp
theorem aN.up {k:Nat} {f:Δ} {fd:GX} {ps:List Str} {sp:Sp} (F:aN P w K mg base CX0 k f fd ps sp):aN P w K mg base (CX1 P w) k f fd ps sp :=
 ⟨F.len,fun A outer s H args us vs Q E hr e0 hb hv hs=>JA (F.run A outer s H args us vs Q E hr e0 hb hv hs) fun r s' h=>by
  cases r with
  | error e => exact GU h
  | ok fl => cases fl <;> exact h⟩
end
end L2
namespace L2
open PySem PySem.Spec PyProof.Rows PySem.W Builtin Builtin.ObjectAttr Builtin.Getset_descriptor
end L2
namespace L2
open PySem PySem.Spec PyProof.Rows
structure mU (K:W.Frag) (C:Δ):Prop where
 ga:W.findIn K (.ref C) "__getattribute__"=some (some (.builtin "BaseException.__getattribute__"))
 gt:W.findIn K (.ref C) "__getattr__"=some none
 cl:W.findIn K (.ref C) "__class__"=some (some (.builtin "object.__class__"))
 gs:W.specialIn K (.builtin "object.__class__") "__get__"=some (some (.builtin "getset_descriptor.__get__"))
 tk:W.takesIn K (.builtin "object.__class__")=some true
 mo:W.mroIn K C (.type "object")=some true
 mb:W.mroIn K C (.type "BaseException")=some true
def xp (e C:Δ) (h:F6):Prop:=∃ o,h.get? e=some o/\o.cls=.ref C
theorem xp.looks {e C:Δ} {h:F6} {M:Jo} (p:xp e C h):PySem.W.Looks M h (typeOf (.ref e)) (.ref C):=by
 obtain ⟨o,h1,h2⟩:=p;rw [<- h2]; exact (PySem.W.Looks.ld h1).andThen .now
def Cn (e C:Δ) (xo:Option Δ) (h:F6):Prop:=∃ o vs,h.get? e=some o/\o.cls=.ref C/\o.data=.fields vs/\∀ dx,xo=some dx->o.dict=some dx
noncomputable def DG (e C:Δ) (xo:Option Δ):HO:=.ext (Cn e C xo)
section
variable {X:Cx} {pins:List (Δ×Hu)} {σ:St} {H:Hp} {s:AU}
theorem Inv.held {h':F6} {es:List Δ} (I:Inv X pins σ H s) (hs:X.stack=X.env::X.outer) (hf:X.env.frame=some X.env.locals)
  (he:∀ b∈es,H b=none/\X.s₀.heap.get? b=none/\(∀ p∈X.pn++pins,p.1≠b)/\∃ o vs,s.heap.get? b=some o/\o.data=.fields vs)
  (keep:∀ b o,s.heap.get? b=some o->b∉frs X.stack->b∉es->h'.get? b=some o) (slot:∀ b o,s.heap.get? b=some o->b∈frs X.stack->∃ sl,h'.get? b=some { o with slots:=sl }):Inv X pins σ H { s with heap:=h' }:=by
 have lf:=I.left hs (fun b hb=>⟨(he b hb).1,(he b hb).2.1⟩) keep slot;have inL:X.env.locals∈frs X.stack:=by rw [hs]; unfold frs; rw [ID,hf]; exact θ
 have cellK:∀ c v,s.heap.IsCell c v->h'.IsCell c v:=fun c v ⟨o,ho,hd⟩=>by
  by_cases hb:c∈frs X.stack
  ·obtain ⟨sl,q⟩:=slot c o ho hb;exact ⟨_,q,hd⟩
  ·refine ⟨o,keep c o ho hb fun hm=>?_,hd⟩;obtain ⟨_,_,_,o',vs,ho',hd'⟩:=he c hm;rw [ho] at ho'; cases ho'; rw [hd] at hd'; cases hd'
 refine ⟨I.ok,I.os,I.bare,lf.1,?_,fun x c e=>?_,I.free,I.freeC,fun p hp=>?_,lf.2,I.len⟩
 ·obtain ⟨m,⟨o,es',ep,ho,r⟩,hl⟩:=I.loc;obtain ⟨sl,hL⟩:=slot _ o ho inL;refine ⟨m,⟨_,es',ep,hL,r⟩,fun i x v e1 e2 e3=>?_⟩;obtain ⟨u,ru,l⟩:=hl i x v e1 e2 e3;refine ⟨u,ru,?_⟩;rcases l with l | ⟨k,c,e,z⟩
  ·exact .inl l
  ·exact .inr ⟨k,c,e,cellK c _ z⟩
 ·obtain ⟨v,z⟩:=I.cell x c e;exact ⟨v,cellK c v z⟩
 ·obtain ⟨e,n,ne,nf,d⟩:=I.pin p hp;refine ⟨keep p.1 p.2 e (fun z=>?_) fun z=>(he p.1 z).2.2.1 p hp rfl,n,ne,nf,d⟩;rcases BF.mp (I.stkSub p.1 z) with q | q
  ·exact ne q
  ·exact nf q
theorem Inv.track {e:Δ} {φ:F6->Prop} (I:Inv X pins σ H s) (hH:H e=none) (h0:X.s₀.heap.get? e=none) (hp:∀ p∈X.pn++pins,p.1≠e) (hd:∃ o vs,s.heap.get? e=some o/\o.data=.fields vs)
    (hφ:φ s.heap) (st:∀ h1 h2:F6,φ h1->(∀ o,h1.get? e=some o->h2.get? e=some o)->φ h2):Inv X pins σ (upd H e (.ext φ)) s:=by
  obtain ⟨oe,vs,ho,hdd⟩:=hd;have ne:∀ b u,H b=some u->b≠e:=fun b u z=>bz z hH;have n0:∀ b o,X.s₀.heap.get? b=some o->b≠e:=fun b o z q=>by rw [q,h0] at z; cases z
  have nH0:∀ b u,X.H₀ b=some u->H b≠none->b≠e:=fun b u _ z q=>z (q ▸ hH);refine ⟨I.ok,I.os,I.bare,⟨I.base.keep,I.base.slot,fun b o z n hx=>?_,I.base.there,fun b xs z=>?_,fun b o u z=>?_,fun b ps z=>?_⟩,I.loc,I.cell,?_,fun x c z=>?_,fun p hp'=>?_,fun b u z=>?_,I.len⟩
  · rw [ar (n0 b o z)]; exact I.base.free b o z n hx
  · have q:=I.base.tups b xs z
    rw [ar (ne _ _ q)]; exact q
  · have q:=I.base.frzs b o u z
    rw [ar (ne _ _ q)]; exact q
  · obtain ⟨m,q⟩:=I.base.tbls b ps z
    exact ⟨m,by rw [ar (ne _ _ q)]; exact q⟩
  · have q:X.env.locals≠e:=fun q=>by
      obtain ⟨m,⟨o',es,ep,ho',hd',_⟩,_⟩:=I.loc;rw [q,ho] at ho'; cases ho'; rw [hdd] at hd'; cases hd'
    rw [ar q]; exact I.free
  · have q:c≠e:=fun q=>by
      obtain ⟨v,o',ho',hd'⟩:=I.cell x c z;rw [q,ho] at ho'; cases ho'; rw [hdd] at hd'; cases hd'
    rw [ar q]; exact I.freeC x c z
  · obtain ⟨a,n,r⟩:=I.pin p hp'
    exact ⟨a,by rw [ar (hp p hp')]; exact n,r⟩
  · by_cases q:b=e
    · subst q
      rw [af] at z
      cases z;exact ⟨hφ,⟨oe,ho⟩,st⟩
    · rw [ar q] at z
      refine (I.hok b u z).stay (fun _ _ _ w=>w) (fun c w=>?_) fun c xs w=>?_
      · rw [ar (ne _ _ w)]; exact w
      · rw [ar (ne _ _ w)]; exact w
end
noncomputable abbrev Cx.tryIn (X:Cx) (pins:List (Δ×Hu)) (E:χ->AU->Prop):Cx:={ X with pn:=X.pn++pins,xe:=E }
section
variable {X:Cx} {pins pins':List (Δ×Hu)} {σ:St} {H:Hp} {s:AU} {E:χ->AU->Prop}
theorem Cx.Ok.tryIn (ok:X.Ok):(X.tryIn pins E).Ok :=
 ⟨ok.mod,ok.kind,ok.glob,ok.blt,ok.above,ok.inj,ok.has,ok.cab,ok.hd,ok.frames,ok.stk,ok.exf,ok.bs,ok.bsz,ok.noex,ok.exfs,ok.funs,ok.frf⟩
theorem Cx.Ok.tryOut (ok:(X.tryIn pins E).Ok):X.Ok :=
 ⟨ok.mod,ok.kind,ok.glob,ok.blt,ok.above,ok.inj,ok.has,ok.cab,ok.hd,ok.frames,ok.stk,ok.exf,ok.bs,ok.bsz,ok.noex,ok.exfs,ok.funs,ok.frf⟩
theorem Inv.tryIn (I:Inv X pins σ H s) (E:χ->AU->Prop):Inv (X.tryIn pins E) [] σ H s :=
 ⟨I.ok.tryIn,I.os,I.bare,I.base,I.loc,I.cell,I.free,I.freeC,fun p hp=>I.pin p (by simpa using hp),I.hok,I.len⟩
theorem Inv.tryOut (I:Inv (X.tryIn pins E) pins' σ H s):Inv X pins σ H s :=
 ⟨I.ok.tryOut,I.os,I.bare,I.base,I.loc,I.cell,I.free,I.freeC,fun p hp=>I.pin p (Ff _ hp),I.hok,I.len⟩
theorem SP.tryOut {D:dh} {f:Flow} {s':AU} (h:SP (X.tryIn pins E) pins' D f s'):SP X pins D f s':=by
 cases f with
 | next=>obtain ⟨σ',H',I,q⟩:=h; exact ⟨σ',H',I.tryOut,q⟩
 | brk=>obtain ⟨σ',H',I,q⟩:=h; exact ⟨σ',H',I.tryOut,q⟩
 | cont=>obtain ⟨σ',H',I,q⟩:=h; exact ⟨σ',H',I.tryOut,q⟩
 | ret u=>obtain ⟨v,σ',H',I,r,q⟩:=h; exact ⟨v,σ',H',I.tryOut,r,q⟩
end
def XT (X:Cx) (pins:List (Δ×Hu)) (ET:St->XK):χ->AU->Prop:=fun x s'=>∃ (σ:St) (e C:Δ) (xo:Option Δ) (H':Hp),x=.ref e/\Inv X pins σ H' s'/\Exc X.s₀.heap s'.heap H' e C xo /\
 (∀ p∈X.pn++pins,p.1≠e/\∀ oe vs T,s'.heap.get? e=some oe->oe.data=.fields vs->vs[1]?=some (.ref T)->p.1≠T)/\ET σ (.ref C) xo H'
def nP (CX:CXT) (X:Cx) (ET:St->XK):Prop:=∀ (pins:List (Δ×Hu)) (σ:St) (H:Hp) (s:AU) (e:χ) (s':AU),Inv X pins σ H s->CX X.stack H s (ET σ) e s'->X.xe e s'
theorem DY {X:Cx} {pins:List (Δ×Hu)} {ET:St->XK} (hx:X.ex=[]:=by rfl):nP (CX1 X.prog X.w) (X.tryIn pins (XT X pins ET)) ET:=by
 intro pins' σ H s x s' I h;obtain ⟨e,C,xo,H',rfl,os,bare,un,hok,ex,q⟩:=h;have J:=I.call' (s':=s') (ch:=[]) os un hok bare (fun b hb=>by cases hb);obtain ⟨⟨oe,ws,T,oT,ts,g1,g2,g3,g4,g5,g6,g7,g8,g9⟩,ne,hHe,hHT,dc⟩:=ex;have s0:∀ {b:Δ},s.heap.get? b=none->X.s₀.heap.get? b=none:=fun {b} hb=>by
  cases z:X.s₀.heap.get? b with
  | none => rfl
  | some o => obtain ⟨o', z'⟩ := I.base.there b o z (by show b ∉ X.ex; rw [hx]; simp); rw [hb] at z'; cases z'
 refine ⟨σ,e,C,xo,H',rfl,J.tryOut,⟨⟨oe,ws,T,oT,ts,g1,g2,g3,g4,s0 g5,g6,g7,g8,g9⟩,s0 ne,hHe,hHT,dc⟩,fun p hp=>?_,q⟩;have hp':=(I.pin p (Ff _ hp)).1;refine ⟨fun z=>(by rw [z,ne] at hp'; cases hp'),fun oe' vs' T' z1 z2 z3 z=>?_⟩;rw [g1] at z1; cases z1;rw [g3] at z2; cases z2;rw [g4] at z3; cases z3;rw [z,g5] at hp'
 cases hp'
def Af (C:Δ) (sp:Sp) (dvs:List V) (ET:St->XK) (t:TA):TE:=fun σ H Q=>t σ H fun vs H1=>∀ x dx,H1 x=none->H1 dx=none->dx≠x ->
 sp (.ref x::(vs++dvs)) (upd (upd H1 dx (.own x)) x (.ins C dx [])) (fun v H2=>v=.non/\Q (.ref x) H2) (ET σ)
section
variable {X:Cx} {CX:CXT} {k:Nat} {f C:Δ} {fd:GX} {ps:List Str} {sp:Sp} {dvs:List V} {ds:List χ} {ET:St->XK} {x m:Str} {p pos apos:Jf} {e o:GO} {es:List GO} {ta:TE} {t:TA}
theorem wo {pins:List (Δ×Hu)} {σ:St} {H:Hp} {s:AU} {Q:VK} {us:List χ} {vs:List V} (M:Mk X.K C f) (F:aN X.prog X.w X.K X.mg X.base CX k f fd ps sp) (hr:b6 (k+1) X.A) (hb:aI X.K fd ps ds) (hd:Vals dvs ds)
  (hx:nP CX X ET) (I:Inv X pins σ H s) (r:Vals vs us)
  (h:∀ x dx,H x=none->H dx=none->dx≠x->sp (.ref x::(vs++dvs)) (upd (upd H dx (.own x)) x (.ins C dx [])) (fun v H2=>v=.non/\Q (.ref x) H2) (ET σ)) :
  FD (FQ X.prog X.w) X.A (call (.ref C) us) (EP X pins σ Q) X.xe s:=by
 have hq:=h (s.heap.objs.size+1) s.heap.objs.size (I.hok.fresh (HU _)) (I.hok.fresh (BE _)) (E6 (Iv _));have I2:=Inv.made (C:=C) I;have r2:Vals (V.ref (s.heap.objs.size+1)::(vs++dvs)) (Fj (s.heap.objs.size+1)::(us++ds)):=.cons rfl (r.append hd)
 have hl:(Fj (s.heap.objs.size+1)::us++ds).length=ps.length:=by
  have e:=r2.length;rw [F.len _ _ _ _ hq] at e;exact e.symm
 refine M0 (qz (f:=f) I.kIn M.makes M.init (beq_iff_eq.mp M.fn) (JA (F.run _ X.stack _ _ ⟨Fj (s.heap.objs.size+1)::us,[]⟩ (Fj (s.heap.objs.size+1)::(us++ds)) _ _ (ET σ) (hr.make C us [])
  (I2.env0.make C us []) (hb _ (Fj (s.heap.objs.size+1)::us) I2.kIn hl) r2 hq) fun r s' hq'=>?_))
 cases r with
 | error e=>exact hx pins σ _ _ e s' I2 hq'
 | ok fl =>
  cases fl with
  | ret u =>
   obtain ⟨v,H',I3,rv,ev,q3⟩:=I2.after hq';subst ev;exact ⟨rv,⟨V.ref (s.heap.objs.size+1),H',I3,rfl,q3⟩⟩
  | next => exact GU hq'
  | brk => exact GU hq'
  | cont => exact GU hq'
theorem yL (M:Mk X.K C f) (F:aN X.prog X.w X.K X.mg X.base CX k f fd ps sp) (hr:b6 (k+1) X.A) (hg:Gl X x) (hm:X.mg x=some (.ref C)) (hb:aI X.K fd ps ds) (hd:Vals dvs ds) (hx:nP CX X ET)
  (ha:PA X (e::es) t) (hdb:(x==("__debug__":Str))=false:=by decide) (he:Fq (e::es) X.env=(false,Hs e X.env)::Fq es X.env:=by rfl) (hpl:(Ih pos (Fq es X.env)).any (·.1)=false:=by rfl) :
  PE X (.Call (.Name x p) (e::es) [] pos) (Af C sp dvs ET t):=by
 intro pins s σ H Q I h;refine HS (fK I hg hm ?_ hdb);refine W.callWith_K (h₀:=X.base) I.ok.mod.kin M.kp (thn (ha pos pins s σ H _ I h) fun us s1 ⟨vs,H1,I1,r,q⟩=>⟨I1.kIn,?_⟩) he hpl;exact wo M F hr hb hd hx I1 r q
end
section
variable {σ:St} {H:Hp} {Q:VK}
theorem zp {C:Δ} {sp:Sp} {dvs:List V} {ET:St->XK} {t:TA} (h:t σ H fun vs H1=>∀ x dx,H1 x=none->H1 dx=none->dx≠x ->
 sp (.ref x::(vs++dvs)) (upd (upd H1 dx (.own x)) x (.ins C dx [])) (fun v H2=>v=.non/\Q (.ref x) H2) (ET σ)):Af C sp dvs ET t σ H Q:=h
end
noncomputable abbrev Cx.suite (X:Cx) (e:Δ):Cx:={ X with A:=X.A.mark (some (.ref e)),calm:=false,xe:=fun _ _=>False }
section
variable {X:Cx} {pins:List (Δ×Hu)} {σ:St} {H:Hp} {s:AU} {e:Δ}
theorem Cx.Ok.suite (ok:X.Ok):(X.suite e).Ok :=
 ⟨ok.mod,ok.kind,ok.glob,ok.blt,ok.above,ok.inj,ok.has,ok.cab,fun z=>Bool.noConfusion z,ok.frames,ok.stk,ok.exf,ok.bs,ok.bsz,ok.noex,ok.exfs,ok.funs,ok.frf⟩
theorem Inv.suite (I:Inv X pins σ H s):Inv (X.suite e) pins σ H s:=⟨I.ok.suite,I.os,I.bare,I.base,I.loc,I.cell,I.free,I.freeC,I.pin,I.hok,I.len⟩
theorem Inv.unsuite (ok:X.Ok) (I:Inv (X.suite e) pins σ H s):Inv X pins σ H s:=⟨ok,I.os,I.bare,I.base,I.loc,I.cell,I.free,I.freeC,I.pin,I.hok,I.len⟩
end
noncomputable def Dh (i:Nat) (D:dh):dh:={ nx:=fun σ H=>D.nx (σ.set i none) H,rt:=D.rt,bk:=fun σ H=>D.bk (σ.set i none) H,ct:=fun σ H=>D.ct (σ.set i none) H }
def Cm (K:W.Frag) (S:Δ) (i:Nat) (ts:TS) (D:dh):St->XK:=fun σ cls xo H1=>∃ C,cls=.ref C/\W.exmOne K (.ref C) (.ref S)=some true/\∀ e,H1 e=none->ts (Dh i D) (σ.set i (some (.ref e))) (upd H1 e (DG e C xo))
def Et (K:W.Frag) (S:Δ) (i:Nat) (tb:(St->XK)->TS) (ts:TS):TS:=fun D σ H=>tb (Cm K S i ts D) D σ H
theorem kE {X:Cx} {pins:List (Δ×Hu)} {σ:St} {H:Hp} {s:AU} {M:Jo} {A:Fv} {E:χ->AU->Prop} {i:Nat} {n:Str} {pos:Jf} {Q:Unit->AU->Prop} (I:Inv X pins σ H s) (hN:X.N.Nodup) (hi:X.N[i]?=some n)
  (hk:X.env.kindOf n=some .local) (h:∀ s',Inv X pins (σ.set i none) H s'->Q () s'):FD M A (do bindName X.env n .none; unbindBehindTheSuite X.env n pos) Q E s:=by
 obtain ⟨m,hn,hl⟩:=id I.loc;have hcls:(X.env.scope.kind==.class||(X.env.scope.kind==.module&&X.env.locals != X.env.globals))=false:=by rw [I.ok.kind]; rfl
 have cne:=I.cne;refine wpAny_nameGoes_keeps hk hn hcls fun h' v hn' hs=>h _ ?_;obtain ⟨oL,_,_,hoL,_⟩:=id hn;have hk':HOk X.prog X.w H h':=fun b ob e=>by
  refine (I.hok b ob e).stay (fun c w' hc q=>(hs.2 c ?_).trans q) (fun _ q=>q) fun _ _ q=>q;rintro rfl;rcases hc with rfl | hc
  ·rw [I.free] at e; cases e
  ·rw [I.free] at hc; cases hc
 have nL:∀ b o,X.s₀.heap.get? b=some o->b≠X.env.locals:=fun b o e=>E6 (FI (E1 e) I.ok.above);refine ⟨I.ok,I.os,I.bare,⟨fun b o e n hb hx=>(hs.2 b (nL b o e)).trans (I.base.keep b o e n hb hx),fun b o e n hb hx=>?_,I.base.free,fun b o e hx=>?_,I.base.tups,I.base.frzs,I.base.tbls⟩,⟨_,hn',fun j y v' e1 e2 e3=>?_⟩,fun y c e=>?_,I.free,I.freeC,fun p hp=>?_,hk',by simpa using I.len⟩
 ·obtain ⟨sl,e1⟩:=I.base.slot b o e n hb hx;exact ⟨sl,(hs.2 b (nL b o e)).trans e1⟩
 ·obtain ⟨o',e1⟩:=I.base.there b o e hx;exact ⟨o',(hs.2 b (nL b o e)).trans e1⟩
 ·by_cases hj:j=i
  ·subst hj;have hiσ:j<σ.length:=by rw [I.len]; exact (C_.mp hi).1
   rw [JH hiσ] at e2
   cases e2
  ·rw [Kv (Gd hj)] at e2;obtain ⟨u',r',q⟩:=hl j y v' e1 e2 e3;refine ⟨u',r',?_⟩;rcases q with ⟨k,e⟩ | ⟨k,c,e,z⟩
   ·refine .inl ⟨k,?_⟩;have:y≠n:=fun e=>hj (lD hN e1 (e ▸ hi))
    simp [this,e]
   ·exact .inr ⟨k,c,e,z.sameBut hs (cne y c e)⟩
 ·obtain ⟨w',z⟩:=I.cell y c e;exact ⟨w',z.sameBut hs (cne y c e)⟩
 ·obtain ⟨e,n,ne,nf,d⟩:=I.pin p hp;exact ⟨(hs.2 p.1 ne).trans e,n,ne,nf,d⟩
theorem C3 {X:Cx} {i:Nat} {n x:Str} {S:Δ} {body suite:List Jz} {b₀:Jz} {np hpos pos:Jf} {tb:(St->XK)->TS} {ts:TS} (hN:X.N.Nodup) (hi:X.N[i]?=some n) (hk:X.env.kindOf n=some .local)
  (hg:Gl X x) (hm:X.mg x=some (.ref S)) (hb:∀ pins ET,PSs (X.tryIn pins (XT X pins ET)) body (tb ET)) (hh:∀ e,PSs (X.suite e) (b₀::suite) ts)
  (hs:X.stack=X.env::X.outer:=by rfl) (hf:X.env.frame=some X.env.locals:=by rfl) (hd:(x==("__debug__":Str))=false:=by decide) :
  PS X (.Try body [.ExceptHandler (some (.Name x np)) (some n) (b₀::suite) hpos] [] [] pos) (Et X.K S i tb ts):=by
 intro pins s σ H D I h;refine wpAny_Try_except (GW (hb pins (Cm X.K S i ts D) [] s σ H D (I.tryIn _) h) (fun f s1 q=>?_) (fun y s1 q=>?_))
 ·have q:=q.tryOut
  cases f with
  | next =>
   obtain ⟨σ',H',I',q'⟩:=q;exact aC pins s1 σ' H' D I' q'
  | brk => exact q
  | cont => exact q
  | ret u => exact q
 ·obtain ⟨σ1,e,C,xo,H1,rfl,I1,ex,hp,C',hC,hx',k⟩:=q
  cases hC;obtain ⟨⟨oe,ws,T,oT,tl,g1,g2,g3,g4,g5,g6,g7,g8,g9⟩,ne,hHe,hHT,dc⟩:=ex;have hHT:=hHT oe ws T g1 g3 g4;obtain ⟨a0,h0⟩:∃ a0,ws[0]?=some a0:=by
   have hsz:1<ws.size:=(Array.getElem?_eq_some_iff.mp g4).1;exact ⟨ws[0],by simp [show 0<ws.size by omega]⟩
  have ff:=I1.stack;have hl:=W.funFrames_hide (as:=e::T::frs X.stack) ff (mi fun b hb=>Ξ _ (Ξ _ hb))
  have fl:Mw (W.hideAll s1.heap (e::T::frs X.stack)) (X.env::X.outer) e (.ref C) a0 s1.heap :=
   ⟨fun b o z=>W.of_hideAll _ z,W.hideAll_none _ θ,hs ▸ hl,⟨oe,ws,T,oT,tl,g1,⟨g2,h0⟩,g3,g4,W.hideAll_none _ (Ξ _ θ),g6,g7,g8,g9⟩⟩
  have stay:∀ h',Heap.StaysIn (W.hideAll s1.heap (e::T::frs X.stack)) h'->s1.heap.UpToSlots h'->Inv X pins σ1 H1 { s1 with heap:=h' }:=fun h' st sm=>by
   refine I1.held (es:=[e,T]) hs hf (fun b hb=>?_) (fun b o z nf nm=>st b o (W.hideAll_get _ z ?_)) fun b o z hb=>?_
   ·simp only [BF,FJ,or_false] at hb;rcases hb with rfl | rfl
    ·exact ⟨hHe,ne,fun p hq=>(hp p hq).1,oe,ws,g1,g3⟩
    ·exact ⟨hHT,g5,fun p hq=>(hp p hq).2 oe ws _ g1 g3 g4,oT,tl,g7,g8⟩
   ·intro m;rcases BF.mp m with r | m
    ·exact nm (by simp [r])
    ·rcases BF.mp m with r | r
     ·exact nm (by simp [r])
     ·exact nf r
   ·obtain ⟨_,o',z',hd'⟩:=ff.mem hb;rw [z] at z'; cases z';exact sm b o z hd'
  refine GW (DS.any (iZ _ _) (wpAny_looks_onW (Q:=fun _ s2=>∃ h4,s2={ s1 with heap:=h4 }/\Heap.HeldW (W.hideAll s1.heap (e::T::frs X.stack)) (X.env::X.outer) e (.ref C) a0 X.env.locals h4/\s1.heap.UpToSlots h4) (I1.ok.frames.trans (congrArg some hs)) hf fl fun h4 held sm4=>⟨h4,rfl,held,sm4⟩) ⟨oe,g1,rfl⟩) (fun _ s2 ⟨⟨h4,e4,held,sm4⟩,d4⟩=>?_) fun _ _ z=>z;subst e4;refine GW (DS.any (fF _ _) (wpAny_landsW (s:={ s1 with heap:=h4 }) (Q:=fun _ s2=>∃ h5,s2={ s1 with heap:=h5 }/\Mw (W.hideAll s1.heap (e::T::frs X.stack)) (X.env::X.outer) e (.ref C) a0 h5/\h4.UpToSlots h5) held fun h5 fl5 sm5=>⟨h5,rfl,fl5,sm5⟩) d4) (fun _ s2 ⟨⟨h5,e5,fl5,sm5⟩,d5⟩=>?_) fun _ _ z=>z;subst e5;have I5:=stay h5 fl5.1 (sm4.trans sm5);refine wpAny_handleBy_cons (codeAny_handlers_test (fK (X:=X.suite e) I5.suite hg hm ?_ hd)) (by intro q; cases q);have LT:PySem.W.Looks (FQ X.prog X.w) h5 (typeOf (.ref e)) (.ref C):=xp.looks fl5.there;refine (W.exm_one (h:=h5) I5.kIn LT hx').here ?_;refine codeAny_handlers_suite_as ?_;refine GW (DS.any (fF _ _) (lands_againW (s:={ s1 with heap:=h5 }) (Q:=fun _ s2=>∃ h6,s2={ s1 with heap:=h6 }/\Mw (W.hideAll s1.heap (e::T::frs X.stack)) (X.env::X.outer) e (.ref C) a0 h6/\h5.UpToSlots h6) fl5 fun h6 fl6 sm6=>⟨h6,rfl,fl6,sm6⟩) d5) (fun _ s2 ⟨⟨h6,e6,fl6,sm6⟩,d6⟩=>?_) fun _ _ z=>z;subst e6;have I6:=stay h6 fl6.1 ((sm4.trans sm5).trans sm6);obtain ⟨oe6,ws6,z1,z2,z3,_⟩:=fl6.first;have dc6:∀ dx,xo=some dx->oe6.dict=some dx:=fun dx z=>by
   obtain ⟨o,y1,y2⟩:=dc dx z;rw [g1] at y1; cases y1;obtain ⟨o,y3,y4⟩:=d6;rw [show ({ s1 with heap:=h6 }:AU).heap=h6 from rfl,z1] at y3; cases y3;rw [y4,y2]
  have I7:Inv X pins σ1 (upd H1 e (DG e C xo)) { s1 with heap:=h6 }:=I6.track hHe ne (fun p hq=>(hp p hq).1) ⟨oe6,ws6,z1,z3⟩ ⟨oe6,ws6,z1,z2,z3,dc6⟩ fun ha hb ⟨o,vs,p1,p2⟩ kk=>⟨o,vs,kk o p1,p2⟩
  refine jv (X:=X.suite e) (v:=.ref e) I7.suite hN hi (.inl hk) rfl (fun s8 I8=>?_) (.inr hk);refine GW (hh e pins s8 _ _ (Dh i D) I8 (k e hHe)) (fun f s9 q=>?_) fun _ _ z=>GU z
  show FD _ _ _ _ _ _
  cases f with
  | next =>
   obtain ⟨σ',H',I',q'⟩:=q;exact kE (I'.unsuite I.ok) hN hi hk fun s' J=>⟨_,H',J,q'⟩
  | brk =>
   obtain ⟨σ',H',I',q'⟩:=q;exact kE (I'.unsuite I.ok) hN hi hk fun s' J=>⟨_,H',J,q'⟩
  | cont =>
   obtain ⟨σ',H',I',q'⟩:=q;exact kE (I'.unsuite I.ok) hN hi hk fun s' J=>⟨_,H',J,q'⟩
  | ret u =>
   obtain ⟨v,σ',H',I',r,q'⟩:=q;exact kE (I'.unsuite I.ok) hN hi hk fun s' J=>⟨v,_,H',J,r,q'⟩
noncomputable abbrev Cx.quiet (X:Cx):Cx:={ X with calm:=false }
theorem jz {K:W.Frag} {A S:Δ} (bs:W.subIn K (.ref S) (.type "BaseException")=some true) (mo:W.mroIn K S (.type "object")=some true) (ty:W.typeIn K (.ref S)=some (.type "type"))
  (sb:W.subIn K (.ref A) (.ref S)=some true):W.exmOne K (.ref A) (.ref S)=some true:=by
 obtain ⟨cd,hc,_⟩:=Option.bind_eq_some_iff.mp mo;simp only [W.exmOne,W.kitCls];simp [bs,hc,ty,sb]
theorem CV {K:W.Frag} {h:F6} {mg:Str->Option χ} {x:Str} {C:Δ} {bmB:List χ} {newId:String} (X:K.In h) (hm:mg x=some (.ref C)) (q:W.excIn K C bmB newId=true):OwnCls x C bmB newId mg h:=by
 refine ⟨hm,?_⟩;simp only [W.excIn] at q
 split at q
 case h_2=>cases q
 case h_1 dd cd sl ho =>
  split at q
  case h_2=>cases q
  case h_1 C' bm k0 k1 k2 k3 n k5 hmr hsl =>
   simp only [GB,beq_iff_eq,LQ] at q;obtain ⟨⟨⟨⟨⟨e1,e2⟩,hdel⟩,ht⟩,hok⟩,hni⟩:=q;subst e1 e2;have hh:=X _ _ ho;obtain ⟨nm,bs,mro,ns,qn,hd,sn,sub,ab,col,del⟩:=cd;simp only at hmr hdel hok hni
   subst hmr hdel;obtain ⟨l⟩:=sl;simp only at hsl
   subst hsl;exact ⟨bm,ns,nm,qn,bs,hd,sn,sub,ab,col,dd,k0,k1,k2,k3,k5,_,hh,.of_isNs (W.isNs_of_in X hok),W.nsMap_none_of_in X hok hni,W.tail_of_in X ht⟩
theorem cY {X:Cx} {E:XK} {x:Str} {C:Δ} {B newId initId:String} {bm:List χ} {np cpos pos:Jf} {e:GO} {es:List GO} {t:TA} (hm:X.mg x=some (.ref C)) (q:W.excIn X.K C bm newId=true) (FB:ExcBaseFacts B newId initId bm) (hc:X.calm=true) (hg:Gl X x)
  (hx:∀ (pins:List (Δ×Hu)) (σ:St) (H:Hp) (s:AU) (h':F6) (t':Nat) (e:Δ) (vs:List χ),Inv X pins σ H s->MF s.heap h' e (.ref C) vs->E (.ref C) none H->X.xe (.ref e) { s with heap:=h',toks:=t' })
  (ha:PA X (e::es) t) (hd:(x==("__debug__":Str))=false:=by decide) (he:Fq (e::es) X.env=(false,Hs e X.env)::Fq es X.env:=by rfl) (hpl:(Ih cpos (Fq es X.env)).any (·.1)=false:=by rfl) :
  PS X (.Raise (some (.Call (.Name x np) (e::es) [] cpos)) none pos) (tX C E t):=fun pins s σ H D I h =>
 yV (CV I.ok.mod.kin hm q) FB hc hg hx ha hd he hpl pins s σ H D I h
theorem zt {C:Δ} {E:XK} {t:TA} {D:dh} {σ:St} {H:Hp} (h:t σ H fun vs H1=>vs.length<=E4/\E (.ref C) none H1):tX C E t D σ H:=h
section
variable {P:FP} {w:F0} {K:W.Frag} {mg:Str->Option χ} {base:F6}
theorem aN.down {k:Nat} {f:Δ} {fd:GX} {ps:List Str} {sp sp':Sp} (F:aN P w K mg base (CX1 P w) k f fd ps sp) (h:∀ vs H Q E,sp' vs H Q E->sp vs H Q (fun _ _ _=>False)):aN P w K mg base CX0 k f fd ps sp' :=
 ⟨fun vs H Q E q=>F.len vs H Q _ (h _ _ _ _ q),fun A outer s H args us vs Q E hr e0 hb hv hs=>JA (F.run A outer s H args us vs Q _ hr e0 hb hv (h _ _ _ _ hs)) fun r s' hq=>by
  cases r with
  | error e => obtain ⟨_, _, _, _, _, _, _, _, _, _, z⟩ := hq; exact z.elim
  | ok fl => cases fl <;> exact hq⟩
end
theorem Dv {K:W.Frag} {S:Δ} {i:Nat} {tb:(St->XK)->TS} {ts:TS} {D:dh} {σ:St} {H:Hp} (h:tb (Cm K S i ts D) D σ H):Et K S i tb ts D σ H:=h
theorem lL {H:Hp} {Q:VK} {a b:Δ} {xs zs:List V} (ha:H a=some (.lst xs)) (hb:H b=some (.lst zs)) (z:xs.length+zs.length<=E4) (q:∀ p,H p=none->Q (.ref p) (upd H p (.lst (xs++zs)))):D2 (.ref a) (.ref b) H Q :=
 ⟨a,b,xs,zs,rfl,rfl,ha,hb,z,q⟩
def SameBut (l:Δ) (H H':Hp):Prop:=∀ b o,H b=some o->b≠l->H' b=some o
theorem ah.but {H H':Hp} (s:ah H H') (l:Δ):SameBut l H H':=fun b o e _=>s b o e
section
variable {K:W.Frag} {σ:St} {H:Hp} {Q:VK} {te:TE} {cap:List (Option Nat)} {l:Δ}
theorem oo {n:Nat} (R:Nat->V->Hp->Prop) (hz:n<=1000) (hl:H l=none) (mono:∀ i v H1 H2,SameBut l H1 H2->R i v H1->R i v H2)
  (step:∀ i o H' (Q':VK),i<n->ah H H'->(∃ ys,H' l=some (.lst ys))->(∀ v H5,ah H' H5->R i v H5->Q' v H5)->te (((dr (none::cap) σ).set 0 o).set 0 (some (.int ((0:Int)+(i:Nat))))) H' Q')
  (fin:∀ ys H',ah H H'->H' l=some (.lst ys)->ys.length=n->(∀ (i:Nat) v,ys[i]?=some v->R i v H')->Q (.ref l) H'):f6 (Itr 0 n) (cX 0) iu te (none::cap) l σ H Q:=by
 refine ⟨n,fun i ys σ' H'=>ys.length=i/\(∀ (j:Nat) v,ys[j]?=some v->R j v H')/\(∃ o,σ'=(dr (none::cap) σ).set 0 o)/\ah H H'/\H' l=some (.lst ys),⟨rfl,fun j v e=>by simp at e,⟨none,rfl⟩,ah.new hl,af⟩,?_,?_⟩
 ·rintro i ys σ' H' hi ⟨ly,hR,⟨o,rfl⟩,s,e⟩;refine ⟨hi,fun x H2 y=>?_⟩;obtain ⟨e2,rfl⟩:=y;subst e2;refine b0 (dR (mz ?_));refine step i o H2 _ hi s ⟨ys,e⟩ fun v H5 s5 r=>⟨s5 _ _ e,cJ (by omega),?_⟩
  have sb:SameBut l H5 (upd H5 l (.lst (ys++[v]))):=fun b u eb hb=>by rw [ar hb]; exact eb
  refine ⟨by rw [BG,ly]; rfl,fun j u ej=>?_,⟨_,IS ..⟩,(s.trans s5).later hl,af⟩;by_cases hj:j<ys.length
  ·rw [GK hj] at ej;exact mono j u _ _ sb (mono j u _ _ (s5.but l) (hR j u ej))
  ·rw [F4 (by omega)] at ej;have:j=i:=by
    have hh:=(C_.mp ej).1;rw [FA] at hh;omega
   subst this;rw [ly,Kf] at ej
   cases ej;exact mono j _ _ _ sb r
 ·rintro ys σ' H' ⟨ly,hR,_,s,e⟩;exact ⟨BE _,fin ys H' s e ly hR⟩
end
def Cc (t:TS):TS:=fun D σ H=>∃ J:St->Hp->Prop,t { D with nx:=J } σ H/\∀ σ' H',J σ' H'->D.nx σ' H'
theorem cv {X:Cx} {st:Jz} {t:TS} (h:PS X st t):PS X st (Cc t):=by
 intro pins s σ H D I ⟨J,h1,h2⟩;refine GW (h pins s σ H _ I h1) (fun f s' q=>?_) fun _ _ z=>z
 cases f with
 | next=>obtain ⟨σ',H',J',q⟩:=q; exact ⟨σ',H',J',h2 σ' H' q⟩
 | brk=>exact q
 | cont=>exact q
 | ret u=>exact q
theorem cx {t:TS} {D:dh} {σ:St} {H:Hp} (J:St->Hp->Prop) (h1:t { D with nx:=J } σ H) (h2:∀ σ' H',J σ' H'->D.nx σ' H'):Cc t D σ H:=⟨J,h1,h2⟩
structure f7 (H:Hp) (l:Δ) (rows:List (List Int)):Prop where
 ob:∃ as:List Δ,H l=some (.lst (as.map V.ref))/\as.length=rows.length/\∀ (i:Nat) a r,as[i]?=some a->rows[i]?=some r->a≠l/\H a=some (.lst (r.map V.int))
theorem f7.mono {H H':Hp} {l:Δ} {rows:List (List Int)} (s:ah H H') (h:f7 H l rows):f7 H' l rows:=by
 obtain ⟨as,h1,h2,h3⟩:=h.ob;exact ⟨as,s _ _ h1,h2,fun i a r e1 e2=>⟨(h3 i a r e1 e2).1,s _ _ (h3 i a r e1 e2).2⟩⟩
theorem f7.row {H:Hp} {l:Δ} {rows:List (List Int)} {i:Int} (h:f7 H l rows) (h0:0<=i) (h1:i<rows.length):∃ xs a,H l=some (.lst xs)/\atI xs i=some (.ref a)/\H a=some (.lst ((rows.getD i.toNat []).map V.int)):=by
 obtain ⟨as,e1,e2,e3⟩:=h.ob;have hi:i.toNat<as.length:=by omega
 have hr:i.toNat<rows.length:=by omega
 refine ⟨_,as[i.toNat],e1,?_,?_⟩
 ·have:=cg (xs:=as.map V.ref) (j:=i.toNat) (v:=.ref as[i.toNat]) (by rw [FE,Ω hi]; rfl)
  rwa [Int.toNat_of_nonneg h0] at this
 ·rw [E2,Ω hr,JP];exact (e3 i.toNat _ _ (Ω hi) (Ω hr)).2
section
variable {prog:FP} {w:F0} {A:Fv} {E:χ->AU->Prop} {s:AU}
theorem vd {I u:Δ} {k:Nat} {its:Array χ} {x:χ} {Q:χ->AU->Prop} (hI:s.heap.IsTupleIter I u k) (hu:s.heap.IsTuple u its) (hx:its[k]?=some x)
  (hQ:∀ g,g.IsTupleIter I u (k+1)->H_ I s.heap g->Q x { s with heap:=g }):FD (FQ prog w) A (Gf (.ref I)) Q E s:=by
 obtain ⟨oI,eI,cI,dI⟩:=id hI;obtain ⟨ou,eu,_,nu,du⟩:=hu;unfold Gf;refine ξ (Hl (name:=IA "__next__") hI.typeIs Iz (HJ Iz hI.typeIs MY ?_ (MR _)))
 show FD _ _ (MT (.ref I) 0 >>= _) _ _ s
 refine ξ (Gy eI dI (x:=.ref u) rfl ?_)
 show FD _ _ (if (Fj u==Im)=true then _ else _) _ _ s
 rw [if_neg (show ¬ ((Fj u==Im)=true) from Ft)]
 show FD _ _ (MT (.ref I) 1 >>= _) _ _ s
 refine ξ (Gy eI dI (x:=.int k 0) rfl ?_)
 show FD _ _ (MM (.ref u) >>= _) _ _ s
 refine ξ (G3 eu du ?_);rw [F9]; simp only [hx];refine ξ (wpAny_setField eI dI (by simp) (D_ ⟨x,rfl,D_ (hQ _ ?_ (L5 ..))⟩));exact ⟨_,Ie _ eI (Obj.isFreed_of_fields (Obj.data_mapFields dI _)),(Obj.cls_mapFields ..).trans cI,by rw [Obj.data_mapFields dI]; simp [rawInt]⟩
theorem BI {I u:Δ} {k:Nat} {its:Array χ} {Q:χ->AU->Prop} (hd0:A.handled=none) (hI:s.heap.IsTupleIter I u k) (hu:s.heap.IsTuple u its) (hx:its[k]?=none)
  (hE:∀ g e,Heap.ExtBut I s.heap g->(∃ o,g.get? e=some o/\o.cls=.type "StopIteration")->E (.ref e) { s with heap:=g }):FD (FQ prog w) A (Gf (.ref I)) Q E s:=by
 obtain ⟨oI,eI,cI,dI⟩:=id hI;obtain ⟨ou,eu,_,nu,du⟩:=hu;unfold Gf;refine ξ (Hl (name:=IA "__next__") hI.typeIs Iz (HJ Iz hI.typeIs MY ?_ (MR _)))
 show FD _ _ (MT (.ref I) 0 >>= _) _ _ s
 refine ξ (Gy eI dI (x:=.ref u) rfl ?_)
 show FD _ _ (if (Fj u==Im)=true then _ else _) _ _ s
 rw [if_neg (show ¬ ((Fj u==Im)=true) from Ft)]
 show FD _ _ (MT (.ref I) 1 >>= _) _ _ s
 refine ξ (Gy eI dI (x:=.int k 0) rfl ?_)
 show FD _ _ (MM (.ref u) >>= _) _ _ s
 refine ξ (G3 eu du ?_);rw [F9]; simp only [hx];refine ξ (G4 (ξ (wpAny_setField eI dI (by simp) ?_)))
 show FD _ _ (newExc (.type "StopIteration") [] >>= _) _ _ _; refine ξ ?_
 simp only [newExc,newTuple]; refine ξ (Hj ?_ (by size_fits));refine ξ (m:=firstArgMember _ _) (wpAny_of_eq (a:=Im) (by first | rfl | (simp only [firstArgMember]; rfl)) ?_); refine Hj ?_ (by size_fits);simp only [raiseNew]; refine ξ (wpAny_handled ?_); rw [show A.in1.handled=none from hd0];refine ξ (D_ (wpAny_throw ?_)); exact hE _ _ (((L5 ..).extBut.push _).push _) ⟨_,E5 _ rfl,rfl⟩
theorem xn {Z TI TO i j u v:Δ} {k l:Nat} {xs ys:Array χ} {x y a b:χ} {Q:Option χ->AU->Prop} (D:Ly Z TI TO i j u v)
  (eZ:LH s.heap Z TI TO .none) (eI:JX s.heap TI (.ref i) (.ref j)) (eO:JX s.heap TO a b) (ei:s.heap.IsTupleIter i u k) (ej:s.heap.IsTupleIter j v l) (eu:s.heap.IsTuple u xs) (ev:s.heap.IsTuple v ys) (hx:xs[k]?=some x) (hy:ys[l]?=some y)
  (hQ:∀ g,LH g Z TI TO (rawInt s.heap.objs.size)->JX g TO x y->g.IsTupleIter i u (k+1)->g.IsTupleIter j v (l+1)->JX g s.heap.objs.size x y->g.objs.size=s.heap.objs.size+1 ->
   (∀ c o,c≠Z->c≠TO->c≠i->c≠j->s.heap.get? c=some o->g.get? c=some o)->Q (some (.ref s.heap.objs.size)) { s with heap:=g }):FD (FQ prog w) A (LB (.ref Z)) Q E s:=by
 have hT:s.TypeIs (.ref Z) "zip":=⟨_,eZ,rfl⟩
 unfold LB;refine ξ (LY (Hl (name:=IA "__next__") hT Kw (HJ Kw hT F.entry_zip_next ?_ (F.args_zip_next_1 _))))
 show FD _ _ (MT (.ref Z) 2 >>= _) _ _ _
 refine ξ (Gy eZ rfl (x:=.bool false) rfl ?_)
 show FD _ _ (MT (.ref Z) 3 >>= _) _ _ _
 refine ξ (Gy eZ rfl (x:=.ref TI) rfl ?_); refine ξ (G3 eI rfl ?_)
 show FD _ _ (G7 (.ref Z) >>= _) _ _ _
 refine ξ ?_; unfold G7;refine ξ (Gy eZ rfl (x:=.none) rfl (D_ ?_)); simp only [if_true];refine ξ (G4 ?_); refine ξ (Gy eZ rfl (x:=.ref TO) rfl ?_);refine ξ (JI eZ (by simp) fun g1 z1 t1=>?_)
 replace z1:LH g1 Z TI TO .ellipsis:=z1
 refine ξ ?_; simp only [Lc,Lq,Jg,ME]; refine ξ (ξ (NJ ?_))
 show FD _ _ (Gf (.ref i) >>= _) _ _ _
 refine ξ (vd (ei.extBut t1.extBut D.i1z) (eu.extBut t1.extBut D.l1z) hx fun g2 i2 t2=>D_ ?_);have o2:JX g2 TO a b:=t2.extBut _ _ D.TOi1 (t1.extBut _ _ D.TOz eO);refine ξ (G3 o2 rfl ?_); refine ξ (wpAny_updateSeq_pair o2 fun g3 o3 t3=>?_)
 replace o3:JX g3 TO x b:=o3
 refine ξ (JM (D_ ?_)); refine ξ (ξ (NJ ?_))
 show FD _ _ (Gf (.ref j) >>= _) _ _ _
 refine ξ (vd (((ej.extBut t1.extBut D.i2z).extBut t2.extBut D.i12.symm).extBut t3.extBut D.TOi2.symm) (((ev.extBut t1.extBut D.l2z).extBut t2.extBut D.l2i1).extBut t3.extBut D.l2TO) hy fun g4 j4 t4=>D_ ?_);have o4:JX g4 TO x b:=t4.extBut _ _ D.TOi2 o3;refine ξ (G3 o4 rfl ?_); refine ξ (wpAny_updateSeq_pair o4 fun g5 o5 t5=>?_)
 replace o5:JX g5 TO x y:=o5
 refine ξ (JM (D_ (D_ ?_))); refine ξ (G3 o5 rfl ?_); refine ξ (LA ?_);have sz:g5.objs.size=s.heap.objs.size:=by rw [t5.1,t4.1,t3.1,t2.1,t1.1]
 have z5:LH g5 Z TI TO .ellipsis:=t5.extBut _ _ D.TOz.symm (t4.extBut _ _ D.i2z.symm (t3.extBut _ _ D.TOz.symm (t2.extBut _ _ D.i1z.symm z1)));have k5:∀ c o,c≠Z->c≠TO->c≠i->c≠j->s.heap.get? c=some o->g5.get? c=some o:=fun c o c1 c2 c3 c4 q=>t5.extBut _ _ c2 (t4.extBut _ _ c4 (t3.extBut _ _ c2 (t2.extBut _ _ c3 (t1.extBut _ _ c1 q))));have i5:g5.IsTupleIter i u (k+1):=((i2.extBut t3.extBut D.TOi1.symm).extBut t4.extBut D.i12).extBut t5.extBut D.TOi1.symm;have j5:g5.IsTupleIter j v (l+1):=j4.extBut t5.extBut D.TOi2.symm;have lz:Z<g5.objs.size:=E1 z5
 show FD _ _ (Jt (.ref Z) (.ref g5.objs.size) >>= _) _ _ _
 refine ξ ?_; unfold Jt;have z6:LH (g5.push { cls:=.type "tuple",data:=.seq #[x,y] }) Z TI TO .ellipsis:=ς _ z5;refine ξ (JI z6 (by simp) fun g7 z7 t7=>?_)
 replace z7:LH g7 Z TI TO (rawInt g5.objs.size):=z7
 refine JI z7 (by simp) fun g8 z8 t8=>?_
 replace z8:LH g8 Z TI TO (rawInt g5.objs.size):=z8
 have up:∀ c o,c≠Z->g5.get? c=some o->g8.get? c=some o:=fun c o c1 q=>t8.extBut _ _ c1 (t7.extBut _ _ c1 (ς _ q));have n8:JX g8 g5.objs.size x y:=t8.extBut _ _ (Kg lz) (t7.extBut _ _ (Kg lz) (E5 _ rfl));have s8:g8.objs.size=g5.objs.size+1:=by rw [t8.1,t7.1,Gj]
 rw [sz] at z8 n8 s8;refine D_ ⟨_,rfl,D_ ?_⟩;rw [sz];obtain ⟨oi,qi⟩:=i5;obtain ⟨oj,qj⟩:=j5;exact hQ g8 z8 (up _ _ D.TOz o5) ⟨oi,up _ _ D.i1z qi.1,qi.2⟩ ⟨oj,up _ _ D.i2z qj.1,qj.2⟩ n8 s8 fun c o c1 c2 c3 c4 q=>up c o c1 (k5 c o c1 c2 c3 c4 q)
theorem Am {Z TI TO i j u v:Δ} {k:Nat} {xs:Array χ} {Q:Option χ->AU->Prop} (hd0:A.handled=none) (D:Ly Z TI TO i j u v)
    (eZ:LH s.heap Z TI TO .none) (eI:JX s.heap TI (.ref i) (.ref j)) (ei:s.heap.IsTupleIter i u k) (eu:s.heap.IsTuple u xs) (hx:xs[k]?=none)
    (hQ:∀ g,(∀ c o,c≠Z->c≠TO->c≠i->c≠j->s.heap.get? c=some o->g.get? c=some o)->Q none { s with heap:=g }):FD (FQ prog w) A (LB (.ref Z)) Q E s:=by
  have hT:s.TypeIs (.ref Z) "zip":=⟨_,eZ,rfl⟩
  have body:∀ (E':χ->AU->Prop) (Q':Fin->AU->Prop),(∀ g e,(∀ c o,c≠Z->c≠TO->c≠i->c≠j->s.heap.get? c=some o->g.get? c=some o)->(∃ o,g.get? e=some o/\o.cls=.type "StopIteration")->E' (.ref e) { s with heap:=g }) ->
      FD (FQ prog w) A.in1 (KW.«zip.__next__» ⟨[.ref Z],[]⟩) Q' E' s:=fun E' Q' hE=>by
    show FD _ _ (MT (.ref Z) 2 >>= _) _ _ _
    refine ξ (Gy eZ rfl (x:=.bool false) rfl ?_)
    show FD _ _ (MT (.ref Z) 3 >>= _) _ _ _
    refine ξ (Gy eZ rfl (x:=.ref TI) rfl ?_); refine ξ (G3 eI rfl ?_)
    show FD _ _ (G7 (.ref Z) >>= _) _ _ _
    refine ξ ?_; unfold G7;refine ξ (Gy eZ rfl (x:=.none) rfl (D_ ?_)); simp only [if_true];refine ξ (G4 ?_); refine ξ (Gy eZ rfl (x:=.ref TO) rfl ?_);refine ξ (JI eZ (by simp) fun g1 z1 t1=>?_)
    replace z1:LH g1 Z TI TO .ellipsis:=z1
    refine ξ ?_; simp only [Lc,Lq,Jg,ME]; refine ξ (ξ (NJ ?_))
    show FD _ _ (Gf (.ref i) >>= _) _ _ _
    refine ξ (BI hd0 (ei.extBut t1.extBut D.i1z) (eu.extBut t1.extBut D.l1z) hx fun g2 e t2 he=>?_);obtain ⟨oe,q1,q2⟩:=he;have z2:LH g2 Z TI TO .ellipsis:=t2 _ _ D.i1z.symm z1;have ne:e≠Z:=fun q=>by subst q; rw [z2] at q1; cases q1; simp at q2
    refine JI z2 (by simp) fun g3 _ t3=>hE g3 e (fun c o c1 _ c3 _ q=>t3.extBut _ _ c1 (t2 _ _ c3 (t1.extBut _ _ c1 q))) ⟨oe,t3.extBut _ _ ne q1,q2⟩
  unfold LB;refine ξ (LY (Hl (name:=IA "__next__") hT Kw (HJ Kw hT F.entry_zip_next (body _ _ fun g e hk he=>?_) (F.args_zip_next_1 _))));obtain ⟨o,q1,q2⟩:=he;exact ξ (MK (T:="StopIteration") (b:=true) ⟨o,q1,q2⟩ isSubtype_stop (D_ (hQ _ hk)))
end
theorem lp {h:F6} {a:Δ} {its:Array χ} (p:IsTup h a its):h.IsTuple a its:=p
noncomputable def Ap (K:W.Frag) (a b:Δ):It :=
  ⟨fun i H=>∃ xs ys x y,SqT K H a xs/\SqT K H b ys/\xs[i]?=some x/\ys[i]?=some y,
   fun i H v H'=>∃ T,v=.ref T/\H T=none/\∀ xs ys,SqT K H a xs->SqT K H b ys->∃ x y,xs[i]?=some x/\ys[i]?=some y/\H'=upd H T (.tup [x,y]),
   fun i H=>∃ xs ys,SqT K H a xs/\SqT K H b ys/\xs.length<=i⟩
theorem xi {P:FP} {w:F0} {K:W.Frag} {elts:List GO} {kt:Nat} {pt:Jf} {a b n:Δ} (ha:a<n) (hb:b<n) :
    p7 P w K (.Tuple elts kt pt) (Ap K a b) [n+4,n+2,n+3,n,n+1] (n+4) (fun i h=>LH h (n+4) (n+2) (n+3) .none/\JX h (n+2) (.ref n) (.ref (n+1))/\(∃ x y,JX h (n+3) x y)/\h.IsTupleIter n a i/\h.IsTupleIter (n+1) b i) where
  mem:=by simp
  obj:=fun i h st c hc=>by
    obtain ⟨z1,z2,⟨x,y,z3⟩,⟨o4,e4,c4,d4⟩,⟨o5,e5,c5,d5⟩⟩:=st;simp only [BF,FJ,or_false] at hc;rcases hc with rfl | rfl | rfl | rfl | rfl
    · exact ⟨_,z1,fun v z=>by cases z⟩
    · exact ⟨_,z2,fun v z=>by cases z⟩
    · exact ⟨_,z3,fun v z=>by cases z⟩
    · exact ⟨_,e4,fun v z=>by rw [d4] at z; cases z⟩
    · exact ⟨_,e5,fun v z=>by rw [d5] at z; cases z⟩
  keep:=fun i h h' st k=>by
    obtain ⟨z1,z2,⟨x,y,z3⟩,z4,z5⟩:=st;exact ⟨k _ (by simp) _ z1,k _ (by simp) _ z2,⟨x,y,k _ (by simp) _ z3⟩,z4.at fun o e=>k _ (by simp) o e,z5.at fun o e=>k _ (by simp) o e⟩
  item:=by
    intro X hP hw hK hc i pins s σ H E I hf st hg;subst hP hw hK;obtain ⟨xs,ys,x,y,hqa,hqb,hx,hy⟩:=hg;obtain ⟨its,rv,p,hz⟩:=I.tuple hqa;obtain ⟨jts,rw',p',hz'⟩:=I.tuple hqb;obtain ⟨u,hu,ru⟩:=rv.get hx;obtain ⟨u',hu',ru'⟩:=rw'.get hy;obtain ⟨z1,z2,⟨x0,y0,z3⟩,z4,z5⟩:=st;have D:Ly (n+4) (n+2) (n+3) n (n+1) a b:=Ia ha hb;have ltz:n+4<s.heap.objs.size:=E1 z1;refine xn D z1 z2 z3 z4 z5 (lp p) (lp p') (x:=u) (y:=u') (by simpa using hu) (by simpa using hu') fun h' a1 a2 a3 a4 a5 a6 hk=>?_;refine ⟨_,rfl,ND (s:={ s with heap:=h' }) a1 fun h2 b1 hs=>?_⟩;have neT:∀ {c:Δ},c<=n+4->c≠s.heap.objs.size:=fun h=>E6 (Fz h ltz);have kk:∀ c o,c∉[n+4,n+3,n,n+1]->s.heap.get? c=some o->h2.get? c=some o:=fun c o hc e=>by
      simp only [BF,FJ,or_false,not_or] at hc;exact (hs.2 c hc.1).trans (hk c o hc.1 hc.2.1 hc.2.2.1 hc.2.2.2 e)
    have q2:h2.get? (n+2)=_:=kk _ _ (by simp only [BF,FJ,or_false,not_or]; exact ⟨D.TIz,D.TITO,D.TIi1,D.TIi2⟩) z2;have q3:h2.get? (n+3)=_:=(hs.2 _ D.TOz).trans a2;obtain ⟨o4,e4,c4⟩:=a3;obtain ⟨o5,e5,c5⟩:=a4;have q4:h2.get? n=_:=(hs.2 _ D.i1z).trans e4;have q5:h2.get? (n+1)=_:=(hs.2 _ D.i2z).trans e5;have qT:h2.get? s.heap.objs.size=_:=(hs.2 _ (Gd (neT (BE _)))).trans a5;have sub:∀ c∈[n+4,n+3,n,n+1],c∈[n+4,n+2,n+3,n,n+1]:=fun c hc=>by
      simp only [BF,FJ,or_false] at hc ⊢;rcases hc with e | e | e | e
      · exact .inl e
      · exact .inr (.inr (.inl e))
      · exact .inr (.inr (.inr (.inl e)))
      · exact .inr (.inr (.inr (.inr e)))
    have I1:Inv X pins σ (upd H s.heap.objs.size (.tup [x,y])) { s with heap:=h2,toks:=s.toks }:=I.turnedL (ch:=[n+4,n+3,n,n+1]) kk (fun c hc=>hf c (sub c hc)) (fun c hc=>by
        simp only [BF,FJ,or_false] at hc;rcases hc with rfl | rfl | rfl | rfl
        · exact ⟨_,b1⟩
        · exact ⟨_,q3⟩
        · exact ⟨_,q4⟩
        · exact ⟨_,q5⟩) (BE _) ⟨by show 2<=E4; decide,[u,u'],.cons ru (.cons ru' .nil),_,qT,rfl,_,rfl⟩
    refine ⟨.ref s.heap.objs.size,_,I1,rfl,⟨_,rfl,I.hok.fresh (BE _),fun vs ws hv hw=>?_⟩,⟨b1,q2,⟨_,_,q3⟩,⟨_,q4,c4⟩,⟨_,q5,c5⟩⟩,fun c hc=>?_⟩
    · rw [I.tuple_inj hv hqa,I.tuple_inj hw hqb]
      exact ⟨x,y,hx,hy,rfl⟩
    · have hle:c<=n+4:=by
        simp only [BF,FJ,or_false] at hc;rcases hc with rfl | rfl | rfl | rfl | rfl
        · exact BE _
        · exact F7 (n+2) 2
        · exact F7 (n+3) 1
        · exact F7 _ 4
        · exact F7 (n+1) 3
      rw [ar (neT hle)];exact (hf c hc).1
  done:=by
    intro X hP hw hK hc i pins s σ H E I hf st hg;subst hP hw hK;obtain ⟨xs,ys,hqa,hqb,hl⟩:=hg;obtain ⟨its,rv,p,hz⟩:=I.tuple hqa;obtain ⟨jts,rw',p',hz'⟩:=I.tuple hqb;obtain ⟨z1,z2,⟨x0,y0,z3⟩,z4,z5⟩:=st;have D:Ly (n+4) (n+2) (n+3) n (n+1) a b:=Ia ha hb;have l1:=rv.length;have l2:=rw'.length;refine Am (I.ok.hd hc) D z1 z2 z4 (lp p) ?_ fun h' hk=>⟨rfl,?_⟩
    · simp; omega
    · have fp:∀ c∈[n+4,n+3,n,n+1],hW X pins H c:=fun c hc=>hf c (by
        simp only [BF,FJ,or_false] at hc ⊢;rcases hc with e | e | e | e
        · exact .inl e
        · exact .inr (.inr (.inl e))
        · exact .inr (.inr (.inr (.inl e)))
        · exact .inr (.inr (.inr (.inr e))))
      have kk:∀ c o,c∉[n+4,n+3,n,n+1]->s.heap.get? c=some o->h'.get? c=some o:=fun c o hc e=>by
        simp only [BF,FJ,or_false,not_or] at hc;exact hk c o hc.1 hc.2.1 hc.2.2.1 hc.2.2.2 e
      have nit:∀ c u,H c=some u->c∉[n+4,n+3,n,n+1]:=fun c u e z=>by rw [(fp c z).1] at e; cases e
      refine I.step (g':=s.gens) (d':=s.drawn) (t':=s.toks) (ch:=[n+4,n+3,n,n+1]) (fun c hc=>⟨(fp c hc).2.2.2.1,(fp c hc).2.1,(fp c hc).2.2.2.2.1,(fp c hc).2.2.2.2.2⟩) (fun c o _ _ hc e _=>kk c o hc e) (fun c o _ _ hc e _=>⟨o.slots,kk c o hc e⟩) (fun _ _ _ _ n=>n)
        (fun c o hc e=>⟨o,kk c o hc e⟩) (fun _ _ e=>e) (fun _ _ _ e=>e) (fun _ ps e=>⟨#[],by rw [e]; simp⟩) (fun m hm=>?_) (fun c u e=>?_) I.bare
      · obtain ⟨ob,es,ep,ho,r⟩:=hm
        exact ⟨ob,es,ep,kk _ ob (fun z=>(fp _ z).2.1 rfl) ho,r⟩
      · refine (I.hok c u e).stay (fun d v hd q=>kk d v ?_ q) (fun _ e'=>e') fun _ _ e'=>e'
        rcases hd with z | z
        · rw [z]; exact nit c u e
        · exact nit d _ z
  self:=fun _ _ _ _ _ st h=>Kq st.1 h
section
variable {prog:FP} {w:F0} {A:Fv} {E:χ->AU->Prop} {s:AU}
noncomputable abbrev zT1 (h:F6) (u:Δ):Heap:=h.push { cls:=.type "tuple_iterator",data:=.fields #[.ref u,.int 0 0] }
noncomputable abbrev zT2 (h:F6) (u v:Δ):Heap:=(zT1 h u).push { cls:=.type "tuple_iterator",data:=.fields #[.ref v,.int 0 0] }
noncomputable abbrev zT3 (h:F6) (u v:Δ):Heap:=(zT2 h u v).push { cls:=.type "tuple",data:=.seq #[.ref h.objs.size,.ref (zT1 h u).objs.size] }
noncomputable abbrev zT4 (h:F6) (u v:Δ):Heap:=(zT3 h u v).push { cls:=.type "tuple",data:=.seq #[.none,.none] }
noncomputable abbrev zT5 (h:F6) (u v:Δ):Heap:=(zT4 h u v).push { cls:=.type "zip",data:=.fields #[.none,.bool false,.bool false,.ref (zT2 h u v).objs.size,.ref (zT3 h u v).objs.size] }
theorem Ao (u v:Δ) (xs ys:Array χ):Meets (KW.«zip.__new__» ⟨[.type "zip",.ref u,.ref v],[]⟩) (fun _ R s=>s.heap.IsTuple u xs/\s.heap.IsTuple v ys/\R (.ok (.ret (.ref (zT4 s.heap u v).objs.size))) { s with heap:=zT5 s.heap u v }) :=
 .of_wp fun prog w A R s h=>by
  obtain ⟨hp,g,d,tk,os⟩:=s; obtain ⟨t1,t2,q⟩:=h;have sz:=sub_zip;have L1:Heap.IsTuple (Shared.heap ⟨hp,g,d,tk,os⟩) u xs:=t1;have L2:Heap.IsTuple (Shared.heap ⟨hp.push { cls:=.type "tuple_iterator",data:=.fields #[.ref u,.int 0 0] },g,d,tk,os⟩) v ys:=Heap.IsTuple.push t2 _
  wp_walk using J6 L1,J6 L2
  exact ⟨_,rfl,q⟩
theorem xm {u v:Δ} {xs ys:Array χ} {Q:χ->AU->Prop} (t1:s.heap.IsTuple u xs) (t2:s.heap.IsTuple v ys)
  (q:∀ g,LH g (s.heap.objs.size+4) (s.heap.objs.size+2) (s.heap.objs.size+3) .none->JX g (s.heap.objs.size+2) (.ref s.heap.objs.size) (.ref (s.heap.objs.size+1))->JX g (s.heap.objs.size+3) .none .none ->
   g.IsTupleIter s.heap.objs.size u 0->g.IsTupleIter (s.heap.objs.size+1) v 0->(∀ c o,s.heap.get? c=some o->g.get? c=some o)->Q (.ref (s.heap.objs.size+4)) { s with heap:=g }) :
  FD (FQ prog w) A (call (.type "zip") [.ref u,.ref v]) Q E s:=by
 refine callType_new F.called_zip (by decide) (F.typeCall_zip_2 _ _) (F.newCall_zip_2 _ _) (fun obj=>F.args_object_init_3 obj _ _) F.entry_zip_new (Ao u v xs ys) ⟨t1,t2,?_⟩;have y1:(zT1 s.heap u).objs.size=s.heap.objs.size+1:=Gj ..;have y2:(zT2 s.heap u v).objs.size=s.heap.objs.size+2:=by rw [Gj,y1]
 have y3:(zT3 s.heap u v).objs.size=s.heap.objs.size+3:=by rw [Gj,y2]
 have y4:(zT4 s.heap u v).objs.size=s.heap.objs.size+4:=by rw [Gj,y3]
 have k5:(zT5 s.heap u v).get? (zT4 s.heap u v).objs.size=some _:=E5 _ rfl;have k4:(zT5 s.heap u v).get? (zT3 s.heap u v).objs.size=some _:=ς _ (E5 _ rfl);have k3:(zT5 s.heap u v).get? (zT2 s.heap u v).objs.size=some _:=ς _ (ς _ (E5 _ rfl));have k2:(zT5 s.heap u v).get? (zT1 s.heap u).objs.size=some _:=ς _ (ς _ (ς _ (E5 _ rfl)));have k1:(zT5 s.heap u v).get? s.heap.objs.size=some _:=ς _ (ς _ (ς _ (ς _ (E5 _ rfl))))
 show _/\_
 rw [y2,y3,y4] at k5;rw [y1,y2] at k3;rw [y3] at k4;rw [y1] at k2;refine ⟨by rw [y4]; exact ⟨_,k5,rfl⟩,?_⟩;rw [y4];exact q _ k5 k3 k4 ⟨_,k1,rfl,rfl⟩ ⟨_,k2,rfl,rfl⟩ fun c o z=>ς _ (ς _ (ς _ (ς _ (ς _ z))))
end
section
variable {X:Cx} {elts:List GO} {kt:Nat} {pt:Jf}
def B0 (K:W.Frag) (ta:TA):TI:=fun σ H R=>ta σ H fun vs H1=>∃ a b,vs=[.ref a,.ref b]/\(((∃ xs,SqL K H1 a xs)/\(∃ ys,SqL K H1 b ys)/\R (Itz K a b) H1)\/((∃ xs,SqT K H1 a xs)/\(∃ ys,SqT K H1 b ys)/\R (Ap K a b) H1))
theorem AY {a b:GO} {ta:TA} {p pos:Jf} (hg:Gl X "zip") (hm:X.mg "zip"=none) (ha:PA X [a,b] ta) (hs:Fq [a,b] X.env=[(false,Hs a X.env),(false,Hs b X.env)]:=by rfl) (hs2:Fq [b] X.env=[(false,Hs b X.env)]:=by rfl) :
  PI X (.Tuple elts kt pt) (.Call (.Name "zip" p) [a,b] [] pos) (B0 X.K ta):=by
 intro pins s σ H R I h;refine Call_ (fJ I hg hm (by rfl:GD "zip"=some (.type "zip")) (Gn (thn (ha pos pins s σ H _ I h) fun us s1 ⟨vs,H1,I1,r1,q1⟩=>?_) (by rw [hs,hs2]) (by rw [hs2]; rfl)));obtain ⟨a,b,e,q⟩:=q1;subst e;obtain ⟨u,v,rfl,ru,rv⟩:=r1.two
 cases (show u=Fj a from ru)
 cases (show v=Fj b from rv)
 rcases q with ⟨⟨xs,ha⟩,⟨ys,hb⟩,q⟩ | ⟨⟨xs,ha⟩,⟨ys,hb⟩,q⟩
 ·obtain ⟨its,_,p1,_⟩:=I1.list ha;obtain ⟨jts,_,p2,_⟩:=I1.list hb;have l1:a<s1.heap.objs.size:=let ⟨o,ho,_⟩:=p1.isList; E1 ho;have l2:b<s1.heap.objs.size:=let ⟨o,ho,_⟩:=p2.isList; E1 ho;refine call_zip_2 p1.isList p2.isList fun h' hz hTI hTO h1 h2 hsz hk=>Kq (s:={ s1 with heap:=h' }) hz ?_;refine ⟨s1.heap.objs.size+4,_,_,_,H1,rfl,I1.kept (t':=s1.toks) hk,Ak l1 l2,⟨hz,hTI,⟨_,_,hTO⟩,h1,h2⟩,fun c hc=>?_,q⟩
  have hle:s1.heap.objs.size<=c:=by
   simp only [BF,FJ,or_false] at hc;rcases hc with rfl | rfl | rfl | rfl | rfl
   ·exact F7 _ _
   ·exact F7 _ _
   ·exact F7 _ _
   ·exact BE _
   ·exact F7 _ _
  exact I1.fpOk hle (I1.hok.fresh hle)
 ·obtain ⟨its,_,p1,_⟩:=I1.tuple ha;obtain ⟨jts,_,p2,_⟩:=I1.tuple hb;have l1:a<s1.heap.objs.size:=let ⟨o,ho,_⟩:=lp p1; E1 ho;have l2:b<s1.heap.objs.size:=let ⟨o,ho,_⟩:=lp p2; E1 ho;refine xm (lp p1) (lp p2) fun h' hz hTI hTO h1 h2 hk=>Kq (s:={ s1 with heap:=h' }) hz ?_;refine ⟨s1.heap.objs.size+4,_,_,_,H1,rfl,I1.kept (t':=s1.toks) hk,xi l1 l2,⟨hz,hTI,⟨_,_,hTO⟩,h1,h2⟩,fun c hc=>?_,q⟩
  have hle:s1.heap.objs.size<=c:=by
   simp only [BF,FJ,or_false] at hc;rcases hc with rfl | rfl | rfl | rfl | rfl
   ·exact F7 _ _
   ·exact F7 _ _
   ·exact F7 _ _
   ·exact BE _
   ·exact F7 _ _
  exact I1.fpOk hle (I1.hok.fresh hle)
end
theorem zl {K:W.Frag} {σ:St} {H:Hp} {ta:TA} {R:It->Hp->Prop} (h:ta σ H fun vs H1=>∃ a b,vs=[.ref a,.ref b]/\(((∃ xs,SqL K H1 a xs)/\(∃ ys,SqL K H1 b ys)/\R (Itz K a b) H1)\/((∃ xs,SqT K H1 a xs)/\(∃ ys,SqT K H1 b ys)/\R (Ap K a b) H1))):B0 K ta σ H R:=h
theorem Bw {R:Nat->Δ->Prop} {ys:List V} (h:∀ (i:Nat) v,ys[i]?=some v->∃ a,v=.ref a/\R i a):∃ as:List Δ,ys=as.map V.ref/\∀ (i:Nat) a,as[i]?=some a->R i a:=by
 refine ⟨ys.map fun v=>match v with | .ref a=>a | _=>0,?_,fun i a e=>?_⟩
 ·rw [GF];refine Ii fun i=>?_;rw [FE]
  cases e:ys[i]? with
  | none => rfl
  | some v => obtain ⟨a, rfl, _⟩ := h i v e; rfl
 ·rw [FE] at e
  cases e2:ys[i]? with
  | none => rw [e2] at e; cases e
  | some v =>
   obtain ⟨b,rfl,r⟩:=h i v e2;rw [e2] at e
   cases e;exact r
theorem si {xs:List V} {k:Nat}:di xs none (some (k:Int))=xs.take k:=by
 unfold di;rw [HT.gB,HT.gU,IJ,M7];rcases LU k xs.length with h | h
 ·rw [G2 h]
 ·rw [KO h,FG (BE _),FG h]
theorem sf {xs:List V} {k:Nat}:di xs (some (k:Int)) none=xs.drop k:=by
 unfold di;rw [HT.gB,HT.gU];rcases LU k xs.length with h | h
 ·rw [G2 h,FG (by rw [Fw]; omega)]
 ·rw [KO h,Mt h,Kf,IG]
noncomputable def Ite (K:W.Frag) (a:Δ):It :=
  ⟨fun i H=>∃ xs x,SqL K H a xs/\xs[i]?=some x,
   fun i H v H'=>∃ T,v=.ref T/\H T=none/\∀ xs,SqL K H a xs->∃ x,xs[i]?=some x/\H'=upd H T (.tup [.int (i:Nat),x]),
   fun i H=>∃ xs,SqL K H a xs/\xs.length<=i⟩
theorem xf {P:FP} {w:F0} {K:W.Frag} {elts:List GO} {kt:Nat} {pt:Jf} {a n:Δ} (ha:a<n) :
    p7 P w K (.Tuple elts kt pt) (Ite K a) [n+1,n] (n+1) (fun i h=>(∃ old,IsEnum h (n+1) n ((i:Nat):Int) old)/\h.IsListIter n a i) where
  mem:=by simp
  obj:=fun i h st c hc=>by
    obtain ⟨⟨old,z1⟩,⟨o4,e4,c4,d4⟩⟩:=st;simp only [BF,FJ,or_false] at hc;rcases hc with rfl | rfl
    · exact ⟨_,z1,fun v z=>by cases z⟩
    · exact ⟨_,e4,fun v z=>by rw [d4] at z; cases z⟩
  keep:=fun i h h' st k=>by
    obtain ⟨⟨old,z1⟩,z4⟩:=st;exact ⟨⟨old,k _ (by simp) _ z1⟩,z4.at fun o e=>k _ (by simp) o e⟩
  item:=by
    intro X hP hw hK hc i pins s σ H E I hf st hg;subst hP hw hK;obtain ⟨xs,x,hqa,hx⟩:=hg;obtain ⟨its,rv,p,hz⟩:=I.list hqa;obtain ⟨u,hu,ru⟩:=rv.get hx;obtain ⟨⟨old,z1⟩,z4⟩:=st;have ltz:n+1<s.heap.objs.size:=E1 z1;have nn:n+1≠n:=Nat.succ_ne_self n;refine wpAny_pyNext_enum_item z1 z4 p.isList (x:=u) (by simpa using hu) nn fun h' a1 a2 a3 a4 hk=>?_;refine ⟨_,rfl,wpAny_letOwnedTupleGo_enum (s:={ s with heap:=h',toks:=s.toks+1 }) a1 fun h2 b1 hs=>?_⟩;have neT:∀ {c:Δ},c<=n+1->c≠s.heap.objs.size:=fun h=>E6 (Fz h ltz);have kk:∀ c o,c∉[n+1,n]->s.heap.get? c=some o->h2.get? c=some o:=fun c o hc e=>by
      simp only [BF,FJ,or_false,not_or] at hc;exact (hs.2 c hc.1).trans (hk c o hc.1 hc.2 e)
    obtain ⟨o4,e4,c4⟩:=a2;have q4:h2.get? n=_:=(hs.2 _ (Gd nn)).trans e4;have qT:h2.get? s.heap.objs.size=_:=(hs.2 _ (Gd (neT (BE _)))).trans a3;have I1:Inv X pins σ (upd H s.heap.objs.size (.tup [.int (i:Nat),x])) { s with heap:=h2,toks:=s.toks+1 }:=I.turnedL (ch:=[n+1,n]) kk hf (fun c hc=>by
        simp only [BF,FJ,or_false] at hc;rcases hc with rfl | rfl
        · exact ⟨_,b1⟩
        · exact ⟨_,q4⟩) (BE _) ⟨by show 2<=E4; decide,[.int (i:Nat) s.toks,u],.cons ⟨_,rfl⟩ (.cons ru .nil),_,qT,rfl,_,rfl⟩
    refine ⟨.ref s.heap.objs.size,_,I1,rfl,⟨_,rfl,I.hok.fresh (BE _),fun vs hv=>?_⟩,⟨⟨_,b1⟩,⟨_,q4,c4⟩⟩,fun c hc=>?_⟩
    · rw [I.list_inj hv hqa]
      exact ⟨x,hx,rfl⟩
    · have hle:c<=n+1:=by
        simp only [BF,FJ,or_false] at hc;rcases hc with rfl | rfl
        · exact BE _
        · exact F7 _ 1
      rw [ar (neT hle)];exact (hf c hc).1
  done:=by
    intro X hP hw hK hc i pins s σ H E I hf st hg;subst hP hw hK;obtain ⟨xs,hqa,hl⟩:=hg;obtain ⟨its,rv,p,hz⟩:=I.list hqa;obtain ⟨⟨old,z1⟩,z4⟩:=st;have l1:=rv.length;refine wpAny_pyNext_enum_end (I.ok.hd hc) z1 z4 p.isList (by simp; omega) fun h' hk=>⟨rfl,?_⟩
    have kk:∀ c o,c∉[n+1,n]->s.heap.get? c=some o->h'.get? c=some o:=fun c o hc e=>by
      simp only [BF,FJ,or_false,not_or] at hc;exact hk c o hc.2 e
    have nit:∀ c u,H c=some u->c∉[n+1,n]:=fun c u e z=>by rw [(hf c z).1] at e; cases e
    refine I.step (g':=s.gens) (d':=s.drawn) (t':=s.toks) (ch:=[n+1,n]) (fun c hc=>⟨(hf c hc).2.2.2.1,(hf c hc).2.1,(hf c hc).2.2.2.2.1,(hf c hc).2.2.2.2.2⟩) (fun c o _ _ hc e _=>kk c o hc e) (fun c o _ _ hc e _=>⟨o.slots,kk c o hc e⟩) (fun _ _ _ _ n=>n)
      (fun c o hc e=>⟨o,kk c o hc e⟩) (fun _ _ e=>e) (fun _ _ _ e=>e) (fun _ ps e=>⟨#[],by rw [e]; simp⟩) (fun m hm=>?_) (fun c u e=>?_) I.bare
    · obtain ⟨ob,es,ep,ho,r⟩:=hm
      exact ⟨ob,es,ep,kk _ ob (fun z=>(hf _ z).2.1 rfl) ho,r⟩
    · refine (I.hok c u e).stay (fun d v hd q=>kk d v ?_ q) (fun _ e'=>e') fun _ _ e'=>e'
      rcases hd with z | z
      · rw [z]; exact nit c u e
      · exact nit d _ z
  self:=fun _ _ _ _ _ st h=>let ⟨⟨_,z⟩,_⟩:=st; wpAny_pyIter_enum z h
section
variable {X:Cx} {elts:List GO} {kt:Nat} {pt:Jf}
def BW (K:W.Frag) (ta:TA):TI:=fun σ H R=>ta σ H fun vs H1=>∃ a,vs=[.ref a]/\(∃ xs,SqL K H1 a xs)/\R (Ite K a) H1
theorem AX {a:GO} {ta:TA} {p pos:Jf} (hg:Gl X "enumerate") (hm:X.mg "enumerate"=none) (ha:PA X [a] ta) (hs:Fq [a] X.env=[(false,Hs a X.env)]:=by rfl) :
  PI X (.Tuple elts kt pt) (.Call (.Name "enumerate" p) [a] [] pos) (BW X.K ta):=by
 intro pins s σ H R I h;refine Call_ (fJ I hg hm (by rfl:GD "enumerate"=some (.type "enumerate")) (Gn (thn (ha pos pins s σ H _ I h) fun us s1 ⟨vs,H1,I1,r1,q1⟩=>?_) hs rfl));obtain ⟨a,e,⟨xs,ha⟩,q⟩:=q1;subst e;obtain ⟨u,rfl,ru⟩:=r1.one
 cases (show u=Fj a from ru)
 obtain ⟨its,_,p1,_⟩:=I1.list ha;have l1:a<s1.heap.objs.size:=let ⟨o,ho,_⟩:=p1.isList; E1 ho;refine call_enumerate_list p1.isList fun h' hz h1 hsz hk=>wpAny_pyIter_enum (s:={ s1 with heap:=h' }) hz ?_;refine ⟨s1.heap.objs.size+1,_,_,_,H1,rfl,I1.kept (t':=s1.toks) hk,xf l1,⟨⟨_,hz⟩,h1⟩,fun c hc=>?_,q⟩
 have hle:s1.heap.objs.size<=c:=by
  simp only [BF,FJ,or_false] at hc;rcases hc with rfl | rfl
  ·exact F7 _ _
  ·exact BE _
 exact I1.fpOk hle (I1.hok.fresh hle)
end
theorem zj {K:W.Frag} {ta:TA} {σ:St} {H:Hp} {R:It->Hp->Prop} (h:ta σ H fun vs H1=>∃ a,vs=[.ref a]/\(∃ xs,SqL K H1 a xs)/\R (Ite K a) H1):BW K ta σ H R:=h
theorem vt {K:W.Frag} {σ:St} {H:Hp} {a:Δ} {xs:List V} {g:TG} {tb:TS} {D:dh} (Pv:Nat->St->Hp->Prop) (h0:Pv 0 σ H) (hl:∀ i σ H,i<=xs.length->Pv i σ H->SqL K H a xs)
  (hs:∀ i x σ H T,xs[i]?=some x->Pv i σ H->H T=none->g (.ref T) σ (upd H T (.tup [.int (i:Nat),x])) fun σ2 H2=>tb { D with nx:=Pv (i+1),ct:=Pv (i+1),bk:=D.nx } σ2 H2) (hd:∀ σ H,Pv xs.length σ H->D.nx σ H):xq (Ite K a) g tb D σ H:=by
 refine ⟨fun i m σ H=>i<=xs.length/\m=xs.length - i/\Pv i σ H,⟨_,Fi _,rfl,h0⟩,fun i m σ H ⟨hi,hm,p⟩=>?_⟩;by_cases h:i<xs.length
 ·refine .inr ⟨⟨xs,xs[i],hl i σ H hi p,by simp [h]⟩,Pv (i+1),fun σ' H' p'=>⟨xs.length - (i+1),by omega,by omega,rfl,p'⟩,fun x H' y=>?_⟩;obtain ⟨T,rfl,hT,y⟩:=y;obtain ⟨x,hx,rfl⟩:=y xs (hl i σ H hi p);exact hs i x σ H T hx p hT
 ·have e:i=xs.length:=by omega
  subst e;exact .inl ⟨⟨xs,hl _ σ H hi p,BE _⟩,hd σ H p⟩
end L2
open PySem PySem.Spec PyProof.Rows
namespace L2
structure BR (K:W.Frag) (C:Δ) (m:Str) (f:Δ):Prop where
 ga:W.specialIn K (.ref C) "__getattribute__"=some (some (.builtin "type.__getattribute__"))
 rd:W.readsIn K C (.type "type")=true
 at_:W.findCls K (.ref C) (.type "type") m=some (.val (.ref f))
 kp:W.keepIn K (.ref f)=true
section
variable {X:Cx} {CX:CXT} {k:Nat} {f C:Δ} {fd:GX} {ps:List Str} {sp:Sp} {dvs:List V} {ds:List χ} {E:XK} {x m:Str} {p pos apos:Jf} {e o:GO} {es:List GO} {ta:TE} {t:TA}
theorem yG {pl:LD Bool} (hg:Gl X x) (hm:X.mg x=some (.ref C)) (c:BR X.K C m f) (F:aN X.prog X.w X.K X.mg X.base CX k f fd ps sp) (hr:b6 k X.A) (hb:aI X.K fd ps ds) (hd:Vals dvs ds) (hx:fD CX X E) (ha:PA X (e::es) t)
  (hdb:(x==("__debug__":Str))=false:=by decide)
  (hst:Fq (e::es) X.env=(false,Hs e X.env)::Fq es X.env:=by rfl) (hpl:(Ih pos (Fq es X.env)).any (·.1)=false:=by rfl)
  (ht:Hs (.Call (.Attribute (.Name x p) m apos) (e::es) [] pos) X.env=(do
   let ov <- Hs (.Name x p) X.env
   standAt apos.atName
   let (f,first) <- Mp [ov] (MN ov m pl)
   callWith pos f first (Ih pos (Fq (e::es) X.env)) (backToKw pos (MS [] X.env))):=by rfl) :
  PE X (.Call (.Attribute (.Name x p) m apos) (e::es) [] pos) (Ab sp dvs E t):=by
 intro pins s σ H Q I h;refine W.methodCall_KW (pl:=pl) (thn ((uI (v:=.ref C) hg hm rfl hdb) pins s σ H (fun x H1=>x=.ref C/\H1=H) I ⟨rfl,rfl⟩) fun u s1 ⟨x,H1,I1,rx,ex,eh⟩=>?_) ht;subst ex; subst eh;obtain rfl:u=Fj C:=rx
 refine W.method_cls I1.kIn c.ga (W.cls_value I1.kIn c.rd c.at_ rfl ?_);have I2:=I1.tok (s1.toks+1);refine W.callWith_K (first:=[]) (h₀:=X.base) I.ok.mod.kin c.kp (thn (ha pos pins _ σ H1 _ I2 h) fun us s2 ⟨vs,H2,I3,r,q2⟩=>⟨I3.kIn,?_⟩) hst hpl;exact oY (us:=us) (vs:=vs) F hr hb hd hx I3 r q2
end
theorem aJ {X:Cx} {s:Jz} {ss:List Jz} {r:TS} {C:TS->Prop} (d:PS X s r) (k:∀ r',r'=r->∃ ts,PSs X ss ts/\C (DD r' ts)):∃ ts,PSs X (s::ss) ts/\C ts :=
 let ⟨_,h1,h2⟩:=k r rfl
 ⟨_,aQ d h1,h2⟩
theorem cM {X:Cx} {s:Jz} {r:TS} {C:TS->Prop} (d:PS X s r) (k:∀ r',r'=r->C r'):∃ ts,PSs X [s] ts/\C ts:=⟨_,ai d,k r rfl⟩
theorem Df {r r':TS} {D:dh} {σ:St} {H:Hp} (e:r'=r) (h:r D σ H):r' D σ H:=e ▸ h
theorem Bs {t u:TS} {D:dh} {σ:St} {H:Hp} (k:∀ u',u'=u->t { D with nx:=u' D } σ H):DD t u D σ H:=k u rfl
theorem EK {us:List χ} (h:us.length=1):∃ a0,us=[a0]:=match us,h with | [a0],_=>⟨a0,rfl⟩
theorem EL {us:List χ} (h:us.length=2):∃ a0 a1,us=[a0,a1]:=by
 cases us with
 | nil=>cases h
 | cons a0 us=>obtain ⟨a1,rfl⟩:=EK (Nat.succ.inj h);exact ⟨a0,a1,rfl⟩
theorem EM {us:List χ} (h:us.length=3):∃ a0 a1 a2,us=[a0,a1,a2]:=by
 cases us with
 | nil=>cases h
 | cons a0 us=>obtain ⟨a1,a2,rfl⟩:=EL (Nat.succ.inj h);exact ⟨a0,a1,a2,rfl⟩
theorem EN {us:List χ} (h:us.length=4):∃ a0 a1 a2 a3,us=[a0,a1,a2,a3]:=by
 cases us with
 | nil=>cases h
 | cons a0 us=>obtain ⟨a1,a2,a3,rfl⟩:=EM (Nat.succ.inj h);exact ⟨a0,a1,a2,a3,rfl⟩
theorem EO {us:List χ} (h:us.length=5):∃ a0 a1 a2 a3 a4,us=[a0,a1,a2,a3,a4]:=by
 cases us with
 | nil=>cases h
 | cons a0 us=>obtain ⟨a1,a2,a3,a4,rfl⟩:=EN (Nat.succ.inj h);exact ⟨a0,a1,a2,a3,a4,rfl⟩
section
variable {κ:Type} [DecidableEq κ]
noncomputable def iQ (kvs:List (κ×V)) (k:κ):Option V:=(kvs.find? fun kv=>decide (kv.1=k)).map (·.2)
noncomputable def jj (kvs:List (κ×V)) (k:κ) (v:V):List (κ×V) :=
 if (kvs.any fun kv=>decide (kv.1=k))=true then kvs.map (fun kv=>if kv.1=k then (kv.1,v) else kv) else kvs++[(k,v)]
theorem ml {p:κ×V} {r:List (κ×V)} {k:κ} (e:p.1=k):iQ (p::r) k=some p.2:=by simp [iQ,JB,e]
theorem mj {p:κ×V} {r:List (κ×V)} {k:κ} (e:¬ p.1=k):iQ (p::r) k=iQ r k:=by simp [iQ,JB,e]
theorem jw (k:κ):∀ kvs:List (κ×V),(kvs.any fun kv=>decide (kv.1=k))=(iQ kvs k).isSome
 | []=>rfl
 | p::r=>by
  rw [MX];by_cases e:p.1=k
  ·simp only [ml e,decide_eq_true e,Bool.true_or,Option.isSome_some]
  ·rw [mj e,decide_eq_false e,Bool.false_or]; exact jw k r
theorem jZ (kvs:List (κ×V)) (k:κ) (v:V):(jj kvs k v).length<=kvs.length+1:=by
 unfold jj
 split
 ·rw [Θ]; omega
 ·rw [BG,EX,Km]; omega
theorem yY {kvs:List (κ×V)} {k:κ} (v:V) (h:iQ kvs k=none):jj kvs k v=kvs++[(k,v)]:=by
 unfold jj;rw [jw,h];exact if_neg (by decide)
theorem iU.isSome_eq {o:Option V} {u:Option χ} (r:iU o u):o.isSome=u.isSome:=by
 cases o with
 | none=>cases u with
  | none => rfl
  | some _ => exact (show False from r).elim
 | some _=>cases u with
  | none => exact (show False from r).elim
  | some _ => rfl
theorem KV.val {kvs:List (κ×V)} {vs:List (κ×χ)} (r:KV kvs vs) (k:κ):iU (iQ kvs k) (Mn vs k):=by
 unfold KV at r
 induction r with
 | nil=>exact IQ
 | @cons p q ps qs h t ih =>
  obtain ⟨h1,h2⟩:=h;by_cases e:p.1=k
  ·have e':q.1=k:=h1.symm.trans e;have b:Mn (q::qs) k=some q.2:=by simp [Mn,JB,e']
   rw [ml e,b]; exact h2
  ·have e':¬ q.1=k:=fun z=>e (h1.trans z);have b:Mn (q::qs) k=Mn qs k:=by simp [Mn,JB,e']
   rw [mj e,b]; exact ih
theorem KV.any {kvs:List (κ×V)} {vs:List (κ×χ)} (r:KV kvs vs) (k:κ):(kvs.any fun kv=>decide (kv.1=k))=vs.any fun kv=>decide (kv.1=k):=by
 unfold KV at r
 induction r with
 | nil=>rfl
 | cons h t ih=>rw [MX,MX,ih,h.1]
theorem KV.repl {kvs:List (κ×V)} {vs:List (κ×χ)} (r:KV kvs vs) (k:κ) {y:V} {u:χ} (ry:bj y u) :
  KV (kvs.map fun kv=>if kv.1=k then (kv.1,y) else kv) (vs.map fun kv=>if kv.1=k then (kv.1,u) else kv):=by
 unfold KV at r ⊢
 induction r with
 | nil=>exact .nil
 | @cons p q ps qs h t ih =>
  rw [Fg,Fg];refine .cons ?_ ih;obtain ⟨h1,h2⟩:=h;by_cases e:p.1=k
  ·rw [if_pos e,if_pos (h1.symm.trans e)]; exact ⟨h1,ry⟩
  ·rw [if_neg e,if_neg (fun z=>e (h1.trans z))]; exact ⟨h1,h2⟩
theorem KV.put {kvs:List (κ×V)} {vs:List (κ×χ)} (r:KV kvs vs) (k:κ) {y:V} {u:χ} (ry:bj y u):KV (jj kvs k y) (stored vs k u):=by
 unfold jj stored;rw [r.any k];by_cases e:(vs.any fun kv=>decide (kv.1=k))=true
 ·rw [if_pos e,if_pos e]; exact r.repl k ry
 ·rw [if_neg e,if_neg e]; exact Paired.snoc r ⟨rfl,ry⟩
theorem KV.length {kvs:List (κ×V)} {vs:List (κ×χ)} (r:KV kvs vs):kvs.length=vs.length:=Paired.length r
end
theorem uA {P:FP} {w:F0} {k:Key} {u:χ} (r:bj (kV k) u):(cE P w).is k u=true:=by
 cases k with
 | inl i=>obtain ⟨t,e⟩:=(show ∃ t,u=JQ i t from r); subst e; exact qC P w i t
 | inr x=>obtain ⟨t,e⟩:=(show ∃ t,u=J8 x t from r); subst e; exact qE P w x t
theorem nr {P:FP} {w:F0}:∀ {ks:List Key} {us:List χ},Vals (ks.map kV) us->ItemsAre (cE P w) ks us
 | [],_,r=>by rw [Ir] at r; cases r; exact .nil
 | k::ks,_,r=>by
  rw [Fg] at r
  cases r with
  | cons h t => exact .cons (uA h) (nr t)
abbrev KT (H:Hp):List (List Key×V)->List (List Key×Δ×χ)->Prop:=Paired fun p q=>p.1=q.1/\H q.2.1=some (.tup (p.1.map kV))/\bj p.2 q.2.2
theorem KT.val {H:Hp} {kvs:List (List Key×V)} {xs:List (List Key×Δ×χ)} (r:KT H kvs xs) (k:List Key):iU (iQ kvs k) ((NZ xs k).map (·.2)):=by
 induction r with
 | nil=>exact IQ
 | @cons p q ps qs h t ih =>
  obtain ⟨h1,_,h2⟩:=h;by_cases e:p.1=k
  ·have e':q.1=k:=h1.symm.trans e;have b:NZ (q::qs) k=some q.2:=by simp [NZ,JB,e']
   rw [ml e,b]; exact h2
  ·have e':¬ q.1=k:=fun z=>e (h1.trans z);have b:NZ (q::qs) k=NZ qs k:=by simp [NZ,JB,e']
   rw [mj e,b]; exact ih
theorem KT.repl {H:Hp} {kvs:List (List Key×V)} {xs:List (List Key×Δ×χ)} (r:KT H kvs xs) (k:List Key) {y:V} {u:χ} (ry:bj y u) :
  KT H (kvs.map fun kv=>if kv.1=k then (kv.1,y) else kv) (xs.map (putAt k u)):=by
 induction r with
 | nil=>exact .nil
 | @cons p q ps qs h t ih =>
  rw [Fg,Fg];refine .cons ?_ ih;obtain ⟨h1,h2,h3⟩:=h;unfold putAt;by_cases e:p.1=k
  ·rw [if_pos e,if_pos (h1.symm.trans e)]; exact ⟨h1,h2,ry⟩
  ·rw [if_neg e,if_neg (fun z=>e (h1.trans z))]; exact ⟨h1,h2,h3⟩
theorem KT.put {H:Hp} {kvs:List (List Key×V)} {xs:List (List Key×Δ×χ)} (r:KT H kvs xs) (k:List Key) {b:Δ} {y:V} {u:χ} (hb:H b=some (.tup (k.map kV))) (ry:bj y u) :
  KT H (jj kvs k y) (storedH xs k b u):=by
 have e:(kvs.any fun kv=>decide (kv.1=k))=(NZ xs k).isSome:=by
  rw [jw,(r.val k).isSome_eq,K7]
 unfold jj storedH;rw [e];by_cases q:(NZ xs k).isSome=true
 ·rw [if_pos q,if_pos q]; exact r.repl k ry
 ·rw [if_neg q,if_neg q]; exact Paired.snoc r ⟨rfl,hb,ry⟩
theorem KT.keeps {H H':Hp} {kvs:List (List Key×V)} {xs:List (List Key×Δ×χ)} (r:KT H kvs xs) (ht:∀ b ys,H b=some (.tup ys)->H' b=some (.tup ys)):KT H' kvs xs :=
 Paired.mapP r fun _ _ z=>⟨z.1,ht _ _ z.2.1,z.2.2⟩
section
variable {P:FP} {w:F0} {H:Hp} {h:F6} {a:Δ}
theorem B6 {u:HO} (ok:HOk P w H h) (e:Rd H a u):bL P w H h a u:=e.ok ok
theorem xM {kvs:List (Key×V)} (ok:HOk P w H h) (e:Rd H a (.dK kvs)):kvs.length<=E4/\(a==JJ)=false/\∃ vs,KV kvs vs/\h.DictOf (cE P w) a vs :=
 show bL P w H h a (.dK kvs) from B6 ok e
theorem DQ {kvs:List (Key×V)} (ok:HOk P w H h) (e:H a=some (.dK kvs)):kvs.length<=E4/\(a==JJ)=false/\∃ vs,KV kvs vs/\h.DictOf (cE P w) a vs:=xM ok (.inl e)
theorem oC {ks:List Key} (ok:HOk P w H h) (e:H a=some (.tup (ks.map kV))):(ML (cE P w)).is h ks a:=by
 obtain ⟨_,its,r,o,h1,h2,n,h3⟩:=(show bL P w H h a (.tup (ks.map kV)) from ok a _ e)
 exact ⟨o,its.toArray,n,h1,h2,h3,by simpa using nr r⟩
theorem xP {kvs:List (List Key×V)} (ok:HOk P w H h) (e:Rd H a (.dT kvs)):kvs.length<=E4/\(a==JJ)=false /\
  ∃ xs,KT H kvs xs/\h.DictOfH (ML (cE P w)) a xs:=by
 obtain ⟨z,y,xs,r,o,es,ep,h1,h2,h3,h4,h5⟩:=(show bL P w H h a (.dT kvs) from B6 ok e)
 refine ⟨z,y,xs,r,o,es,ep,h1,h2,h3,h4,fun x hx=>?_,h5⟩
 have all:∀ {l:List (List Key×V)} {m:List (List Key×Δ×χ)},KT H l m->∀ x∈m,(ML (cE P w)).is h x.1 x.2.1:=by
  intro l m q
  induction q with
  | nil => intro x hx; exact nomatch hx
  | @cons p q ps qs hq t ih =>
   intro x hx;rcases BF.mp hx with e | hx
   ·subst e;exact oC ok (by rw [<- hq.1]; exact hq.2.1)
   ·exact ih x hx
 exact all r x hx
theorem DR {kvs:List (List Key×V)} (ok:HOk P w H h) (e:H a=some (.dT kvs)):kvs.length<=E4/\(a==JJ)=false /\
  ∃ xs,KT H kvs xs/\h.DictOfH (ML (cE P w)) a xs:=xP ok (.inl e)
end
def mv (H:Hp) (a:Δ) (y:V) (r:Option V):Prop :=
 (∃ kvs k,Rd H a (.dK kvs)/\y=kV k/\r=iQ kvs k)\/∃ kvs k b,Rd H a (.dT kvs)/\y=.ref b/\H b=some (.tup (k.map kV))/\r=iQ kvs k
def rR (H:Hp) (a:Δ) (y v:V) (H':Hp):Prop :=
 (∃ kvs k,H a=some (.dK kvs)/\y=kV k/\kvs.length<E4/\H'=upd H a (.dK (jj kvs k v))) \/
 ∃ kvs k b,H a=some (.dT kvs)/\y=.ref b/\H b=some (.tup (k.map kV))/\kvs.length<E4/\H'=upd H a (.dT (jj kvs k v))
theorem mv.t {H:Hp} {a b:Δ} {kvs:List (List Key×V)} {k:List Key} (e:H a=some (.dT kvs)) (eb:H b=some (.tup (k.map kV))):mv H a (.ref b) (iQ kvs k):=.inr ⟨kvs,k,b,.inl e,rfl,eb,rfl⟩
theorem rR.t {H:Hp} {a b:Δ} {kvs:List (List Key×V)} {k:List Key} {v:V} (e:H a=some (.dT kvs)) (eb:H b=some (.tup (k.map kV))) (hl:kvs.length<E4) :
  rR H a (.ref b) v (upd H a (.dT (jj kvs k v))):=.inr ⟨kvs,k,b,e,rfl,eb,hl,rfl⟩
section
variable {X:Cx} {pins:List (Δ×Hu)} {σ:St} {H:Hp} {s:AU} {a:Δ} {y v:V} {u r:χ} {o:Option V} {A:Fv} {E:χ->AU->Prop}
theorem Inv.big (I:Inv X pins σ H s):JJ<s.heap.objs.size:=by
 have h:Hh<s.heap.objs.size:=(I.mod.glob.keeps I.bk).lt;exact Nat.lt_trans (by decide) h
theorem EG {Q:χ->AU->Prop} (hu:A.units+1<Iq) (I:Inv X pins σ H s) (g:mv H a y o) (ry:bj y u) (h:∀ s',Inv X pins σ H s'->Q (.bool o.isSome) s') :
  FD (FQ X.prog X.w) A (Gk .In u (.ref a)) Q E s:=by
 rcases g with ⟨kvs,k,e,ey,l⟩ | ⟨kvs,k,b,e,ey,eb,l⟩
 ·subst ey;obtain ⟨z,hd,vs,rel,dd⟩:=xM I.hok e;refine wpAny_in_of (uA ry) hd dd.mapOf ?_;rw [<- (rel.val k).isSome_eq,<- l];exact h _ (I.tok _)
 ·subst ey
  cases (show u=Fj b from ry)
  obtain ⟨z,hd,xs,rel,dd⟩:=xP I.hok e;refine wpAny_in_heap (Lk hu) (oC I.hok eb) hd dd ?_;have q:=(rel.val k).isSome_eq;rw [K7] at q;rw [<- q,<- l];exact h _ (I.tok _)
theorem Ax {Q:χ->AU->Prop} (hu:A.units+1<Iq) (I:Inv X pins σ H s) (g:mv H a y o) (ry:bj y u) (h:∀ s',Inv X pins σ H s'->Q (.bool (!o.isSome)) s') :
  FD (FQ X.prog X.w) A (Gk .NotIn u (.ref a)) Q E s:=by
 rcases g with ⟨kvs,k,e,ey,l⟩ | ⟨kvs,k,b,e,ey,eb,l⟩
 ·subst ey;obtain ⟨z,hd,vs,rel,dd⟩:=xM I.hok e;refine wpAny_notIn_of (uA ry) hd dd.mapOf ?_;rw [<- (rel.val k).isSome_eq,<- l];exact h _ (I.tok _)
 ·subst ey
  cases (show u=Fj b from ry)
  obtain ⟨z,hd,xs,rel,dd⟩:=xP I.hok e;refine wpAny_notIn_heap (Lk hu) (oC I.hok eb) hd dd ?_;have q:=(rel.val k).isSome_eq;rw [K7] at q;rw [<- q,<- l];exact h _ (I.tok _)
theorem uj {h':F6} {t':Nat} {ob:HO} (I:Inv X pins σ H s) (mu:Mut (H a)) (hs:H_ a s.heap h') (he:∃ q,h'.get? a=some q) (new:bL X.prog X.w (upd H a ob) h' a ob) :
  Inv X pins σ (upd H a ob) { s with heap:=h',toks:=t' } :=
 I.write (x:=a) (e:=a) mu (.inl rfl) (fun b q hb z=>(hs.2 b hb).trans z) he new
theorem Cz {P:FP} {w:F0} {H':Hp} {h':F6} {kvs:List (Key×V)} {vs:List (Key×χ)} (z:kvs.length<=E4) (hd:(a==JJ)=false) (rel:KV kvs vs) (dd:h'.DictOf (cE P w) a vs) :
  bL P w H' h' a (.dK kvs):=⟨z,hd,vs,rel,dd⟩
theorem vp {H':Hp} {Q:Unit->AU->Prop} (hu:A.units+1<Iq) (I:Inv X pins σ H s) (g:rR H a y v H') (ry:bj y u) (rv:bj v r) (h:∀ s',Inv X pins σ H' s'->Q () s') :
  FD (FQ X.prog X.w) A (setItem (.ref a) u r) Q E s:=by
 rcases g with ⟨kvs,k,e,ey,l,eH⟩ | ⟨kvs,k,b,e,ey,eb,l,eH⟩
 ·subst ey eH;obtain ⟨z,hd,vs,rel,dd⟩:=DQ I.hok e;have hz:vs.length<=sizeLine:=by rw [<- rel.length]; exact z
  have hl:(jj kvs k v).length<=sizeLine:=by have:=jZ kvs k v; omega
  refine wpAny_setItem_pairs (hsz:=hz) (uA ry) dd fun h' dd' hs=>h _ ?_;have he:∃ q,h'.get? a=some q:=let ⟨q,_,_,hq,_⟩:=dd'; ⟨q,hq⟩;exact uj I (by rw [e]; exact IQ) hs he (Cz hl hd (rel.put k rv) dd')
 ·subst ey eH
  cases (show u=Fj b from ry)
  obtain ⟨z,hd,xs,rel,dd⟩:=DR I.hok e;have hz:xs.length<=sizeLine:=by rw [<- Paired.length rel]; exact z
  have hl:(jj kvs k v).length<=sizeLine:=by have:=jZ kvs k v; omega
  refine wpAny_setItem_heap (hsz:=hz) (Lk hu) (oC I.hok eb) dd fun h' dd' hs=>h _ ?_;obtain ⟨q,es,ep,hq,h2,h3,h4,_,h5⟩:=dd';refine uj I (by rw [e]; exact IQ) hs ⟨q,hq⟩ ⟨hl,hd,_,(rel.put k eb rv).keeps fun c ys ec=>?_,q,es,ep,hq,h2,h3,h4,h5⟩;rw [ar (cA ec e (fun z=>nomatch z))];exact ec
end
def El (ty td:TE):TE:=fun σ H Q=>ty σ H fun y H1=>td σ H1 fun x H2=>∃ a o,x=.ref a/\mv H2 a y o/\Q (.bl o.isSome) H2
def u6 (ty td:TE):TE:=fun σ H Q=>ty σ H fun y H1=>td σ H1 fun x H2=>∃ a o,x=.ref a/\mv H2 a y o/\Q (.bl (!o.isSome)) H2
def B7 (td ty tv:TE):TS:=fun D σ H=>tv σ H fun v H1=>td σ H1 fun x H2=>ty σ H2 fun y H3=>∃ a H4,x=.ref a/\rR H3 a y v H4/\D.nx σ H4
section
variable {X:Cx} {o i e value:GO} {pos pos' tpos:Jf} {td ty tv:TE}
theorem CW (hu:X.A.units+1<Iq) (hi:PE X i ty) (ho:PE X o td):PC X .In i o (El ty td):=by
 intro pins s σ H Q I h;refine thn (hi pins s σ H _ I h) fun iv s1 ⟨y,H1,I1,ry,q1⟩=>thn (ho pins s1 σ H1 _ I1 q1) fun u s2 ⟨x,H2,I2,rx,a,ov,ex,g,q2⟩=>?_;subst ex;obtain rfl:u=Fj a:=rx
 exact EG hu I2 g ry fun s3 I3=>⟨.bl ov.isSome,H2,I3,rfl,q2⟩
theorem vY (hu:X.A.units+1<Iq) (hi:PE X i ty) (ho:PE X o td):PC X .NotIn i o (u6 ty td):=by
 intro pins s σ H Q I h;refine thn (hi pins s σ H _ I h) fun iv s1 ⟨y,H1,I1,ry,q1⟩=>thn (ho pins s1 σ H1 _ I1 q1) fun u s2 ⟨x,H2,I2,rx,a,ov,ex,g,q2⟩=>?_;subst ex;obtain rfl:u=Fj a:=rx
 exact Ax hu I2 g ry fun s3 I3=>⟨.bl (!ov.isSome),H2,I3,rfl,q2⟩
theorem uL (hu:X.A.units+1<Iq) (ho:PE X o td) (hi:PE X i ty) (hv:PE X value tv) (hs:LK value (some (.Subscript o i pos')) pos.line X.env=pure false) :
  PS X (.Assign [.Subscript o i pos'] value pos) (B7 td ty tv):=by
 intro pins s σ H D I h;refine wpAny_Assign_Subscript (thn (hv pins s σ H _ I h) fun r s1 ⟨v,H1,I1,rv,q1⟩=>thn (ho pins s1 σ H1 _ I1 q1) fun u s2 ⟨x,H2,I2,rx,q2⟩=>thn (hi pins s2 σ H2 _ I2 q2) fun iv s3 ⟨y,H3,I3,ry,a,H4,ex,g,q3⟩=>?_) hs;subst ex;obtain rfl:u=Fj a:=rx
 exact vp hu I3 g ry rv fun s4 I4=>⟨σ,H4,I4,q3⟩
end
theorem xO {P:FP} {w:F0} {H:Hp} (h:F6) (hb:JJ<h.objs.size):bL P w H (h.push { cls:=.type "dict",data:=.dict #[] }) h.objs.size (.dT []) :=
 ⟨Fi _,beq_eq_false_iff_ne.mpr (Gd (E6 hb)),[],.nil,_,#[],0,E5 _ rfl,⟨rfl,rfl,rfl⟩,rfl,rfl,Io⟩
def Ac:TE:=fun _ H Q=>∀ p,H p=none->Q (.ref p) (upd H p (.dT []))
section
variable {X:Cx} {pos:Jf}
theorem qS:PE X (.Dict [] [] pos) Ac:=fun pins s σ H Q I h =>
 wpAny_Dict_empty ⟨.ref s.heap.objs.size,_,I.laid (a:=s.heap.objs.size) (o:=.dT []) (t':=s.toks) (fun _ _ q=>ς _ q) (BE _) (xO s.heap I.big),rfl,h _ (I.hok.fresh (BE _))⟩
end
theorem BA (x y:Int):IM (.tuple [.int x,.int y])=true:=by rfl
theorem Az (x y x' y':Int):GH (.tuple [.int x,.int y]) (.tuple [.int x',.int y'])=decide ((x,y)=(x',y')):=by
 simp only [GH,Gw];by_cases h1:x=x'<;>by_cases h2:y=y'<;>simp [h1,h2]
theorem Bx {H:Hp} {a:Δ} {x y:Int} (h:H a=some (.tup [.int x,.int y])):Rep H (.tuple [.int x,.int y]) (.ref a):=by
 simp only [Rep,RepL];exact ⟨a,_,rfl,h,_,_,rfl,rfl,_,_,rfl,rfl,rfl⟩
theorem lM {H:Hp} {Q:VK} {a b:Δ} {x y x' y':Int} (ha:H a=some (.tup [.int x,.int y])) (hb:H b=some (.tup [.int x',.int y'])) (q:Q (.bl (!decide ((x,y)=(x',y')))) H):tj true (.ref a) (.ref b) H Q :=
 ⟨_,_,Bx ha,Bx hb,BA _ _,BA _ _,by rw [if_pos rfl,Az]; exact q⟩
theorem Dk {H:Hp} {Q:VK} {a b:Δ} {x y x' y':Int} (ha:H a=some (.tup [.int x,.int y])) (hb:H b=some (.tup [.int x',.int y'])) (q:Q (.bl (decide ((x,y)=(x',y')))) H):tj false (.ref a) (.ref b) H Q :=
 ⟨_,_,Bx ha,Bx hb,BA _ _,BA _ _,by rw [if_neg (by decide),Az]; exact q⟩
theorem zf {σ:St} {H:Hp} {Q:VK} (h:∀ p,H p=none->Q (.ref p) (upd H p (.dT []))):Ac σ H Q:=h
theorem Bd {td ty tv:TE} {D:dh} {σ:St} {H:Hp} (h:tv σ H fun v H1=>td σ H1 fun x H2=>ty σ H2 fun y H3=>∃ a H4,x=.ref a/\rR H3 a y v H4/\D.nx σ H4):B7 td ty tv D σ H:=h
theorem Dg {ty td:TE} {σ:St} {H:Hp} {Q:VK} (h:ty σ H fun y H1=>td σ H1 fun x H2=>∃ a o,x=.ref a/\mv H2 a y o/\Q (.bl o.isSome) H2):El ty td σ H Q:=h
theorem wb {ty td:TE} {σ:St} {H:Hp} {Q:VK} (h:ty σ H fun y H1=>td σ H1 fun x H2=>∃ a o,x=.ref a/\mv H2 a y o/\Q (.bl (!o.isSome)) H2):u6 ty td σ H Q:=h
theorem ym:typeLookup (.type "list_reverseiterator") "__len__"=pure none:=by rw [typeLookup_type,builtinLookup_eq_fast]; kernel_rfl
theorem AE:typeLookup (.type "list_reverseiterator") "__length_hint__"=pure (some (.builtin "list_reverseiterator.__length_hint__")):=by rw [typeLookup_type,builtinLookup_eq_fast]; kernel_rfl
section
variable {prog:FP} {w:F0} {A:Fv} {E:χ->AU->Prop} {s:AU} {R:Result->AU->Prop} {I:Δ} {fp wr:List Δ} {G:Array GenState->Array GenState->Prop} {n:Nat} {P:Nat->χ->Prop} {St:Nat->AU->Prop}
theorem CA (W:WalksS prog w A.in1 I fp wr G n P St) (hT:∀ i s,St i s->s.TypeIs (.ref I) "list_reverseiterator") (S:Δ) (res:χ) (c₀:Nat) (st0:St 0 s) (nS:S∉fp) (hI:I∈fp) (oS:s.heap.get? S=some { cls:=.type "list",data:=.seq #[] c₀ }) (hn:n<=E4)
  (k:∀ s' acc' c',Moved (S::wr) G s s'->s'.heap.get? S=some { cls:=.type "list",dict:=none,data:=.seq acc' c',slots:=#[] }->ItemsOf P acc' n->R (.ok (.ret res)) s') :
  FD (FQ prog w) A.in1 (IK (.ref S) (.ref I) res) (fun fin s'=>match fin with | .done f=>R (.ok f) s' | .again c'=>c'.quiet=true/\JV (FQ prog w) A c' R s') (fun e s'=>R (.error e) s') s:=by
 have nSI:S≠I:=fun e=>nS (e ▸ hI)
 (unfold IK; refine ξ (Ls (hT 0 _ st0) ?_))
 have b1:LP (.ref S) (.ref I)=false:=by simp [LP,nSI]
 have b2:(GZ "list_reverseiterator"==GZ "list")=false:=by decide
 have b3:(GZ "list_reverseiterator"==GZ "tuple")=false:=by decide
 (simp only [b1,b2,b3,MZ,F_,if_false]; refine ξ (W.self 0 _ _ _ st0 (ξ (HW ?_))))
 (unfold Builtin.List.listLengthHint; refine ξ (wpAny_specialOf (hT 0 _ st0) ym ?_); show FD _ A.in1 (specialOf (Fj I) (IA "__length_hint__") >>= _) _ _ _; refine ξ (wpAny_specialOf (hT 0 _ st0) AE ?_))
 generalize hid:("list_reverseiterator.__length_hint__":String)=id0
 (wp_delta; rw [show splitId id0=some ("list_reverseiterator","__length_hint__") from by subst hid; decide +kernel]; subst hid)
 (refine ξ (MK (T:="list_reverseiterator") (b:=true) (hT 0 _ st0) (by rw [isSubtype_type]; kernel_rfl) ?_); refine D_ ?_; rw [if_neg (by decide)])
 exact D_ ⟨Ka F.plain_extend_loop _,codeAny_extend_loopS W hn _ nS _ n 0 _ _ _ rfl (Fi _) st0 oS (ItemsOf.nil P) fun s' acc' c' hm hS' hacc=>k s' acc' c' hm hS' hacc⟩
theorem AH (W:WalksS prog w A.in1 I fp wr G n P St) (hT:∀ i s,St i s->s.TypeIs (.ref I) "list_reverseiterator") (S:Δ) (st0:St 0 s) (nS:S∉fp) (hI:I∈fp) (oS:s.heap.get? S=some { cls:=.type "list",data:=.seq #[] }) (hn:n<=E4)
  (k:∀ s' acc' c',Moved (S::wr) G s s'->s'.heap.get? S=some { cls:=.type "list",dict:=none,data:=.seq acc' c',slots:=#[] }->ItemsOf P acc' n->R (.ok (.ret .none)) s') :
  FD (FQ prog w) A.in1 (KW.«list.__init__» ⟨[.ref S,.ref I],[]⟩) (fun fin s'=>match fin with | .done f=>R (.ok f) s' | .again c'=>c'.quiet=true/\JV (FQ prog w) A c' R s') (fun e s'=>R (.error e) s') s:=by
 (show FD _ A.in1 (do let old <- Lh (.ref S); Builtin.List.listUpdate (.ref S) (fun _=>#[]); letGo old.toList.reverse; IK (.ref S) (.ref I) .none) _ _ s; refine ξ ?_; unfold Lh; refine ξ (G3 oS rfl (D_ ?_)))
 (show FD _ A.in1 (updateSeq S (fun _=>#[]) >>= fun _=>letGo (#[]:Array χ).toList.reverse >>= fun _=>IK (.ref S) (.ref I) .none) _ _ s; refine ξ (Kz oS rfl ?_))
 have oS2:=Ie (FZ (fun _=>(#[]:Array χ))) oS rfl;have eC:∀ b o,b≠S->s.heap.get? b=some o->(s.heap.update S (FZ (fun _=>(#[]:Array χ)))).get? b=some o:=fun b o hb e=>(Fy _ _ (Gd hb)).trans e;refine ξ (JM (CA W hT S .none _ (W.frame 0 s _ s.toks st0 (BE _) fun b hb o e=>eC b o (fun h=>nS (h ▸ hb)) e) nS hI oS2 hn fun s' acc' c' hm hS' hacc=>?_));exact k s' acc' c' (Moved.trans W.gtrans ((Moved.refl W.grefl).then_heap (BE _) fun b o hb e=>eC b o (fun h=>hb (h ▸ θ)) e) hm) hS' hacc
theorem nX {Q:χ->AU->Prop} (W:WalksS prog w A.in1.in1 I fp wr G n P St) (hT:∀ i s,St i s->s.TypeIs (.ref I) "list_reverseiterator") (st0:St 0 s) (hfp:∀ b∈fp,b<s.heap.objs.size) (hI:I∈fp) (hn:n<=E4)
  (k:∀ s' acc' c',Moved (s.heap.objs.size::wr) G { s with heap:=s.heap.push { cls:=.type "list",data:=.seq #[] } } s'->s'.heap.get? s.heap.objs.size=some { cls:=.type "list",dict:=none,data:=.seq acc' c',slots:=#[] }->ItemsOf P acc' n->Q (.ref s.heap.objs.size) s') :
  FD (FQ prog w) A (call (.type "list") [.ref I]) Q E s:=by
 have nS:s.heap.objs.size∉fp:=fun hm=>G_ _ (hfp _ hm);refine callType_codes (Q₁:=fun obj s₁=>obj=.ref s.heap.objs.size/\s₁={ s with heap:=s.heap.push { cls:=.type "list",data:=.seq #[] } }) F.called_list (F.typeCall_list_1 _) F.entry_list_init (code_list_new _ ⟨rfl,rfl⟩) fun obj s₁ h₁=>?_;obtain ⟨rfl,rfl⟩:=h₁;have oS:(s.heap.push { cls:=.type "list",data:=.seq #[] }).get? s.heap.objs.size=some { cls:=.type "list",data:=.seq #[] }:=E5 _ rfl;refine ⟨⟨_,oS,rfl⟩,F.args_list_init_2 _ _,AH W hT _ (W.frame 0 s _ s.toks st0 (BE _) fun b _ o e=>ς _ e) nS hI oS hn fun s' acc' c' hm hS' hacc=>⟨rfl,k s' acc' c' hm hS' hacc⟩⟩
end
def Ci (K:W.Frag) (te:TE):TE:=fun σ H Q=>te σ H fun x H1=>∃ p ys,x=.ref p/\SqL K H1 p ys/\∀ l,H1 l=none->Q (.ref l) (upd H1 l (.lst ys.reverse))
theorem vE {its:List χ} {acc:Array χ} (h:ItemsOf (fun i v=>its.toArray[its.toArray.size - 1 - i]?=some v) acc its.toArray.size):acc.toList=its.reverse:=by
 obtain ⟨h1,h2⟩:=h;apply Ii;intro i;by_cases hi:i<its.length
 ·have hs:i<acc.size:=by rw [h1]; simpa using hi
  have:=h2 i acc[i] (by simp [hs])
  rw [List.getElem?_reverse hi,GC,Array.getElem?_eq_getElem hs,<- this];simp
 ·rw [Ic (by rw [FT,h1]; simp; omega),Ic (by rw [IC]; omega)]
def Es (K:W.Frag) (te:TE) (ts:TO):TE:=fun σ H Q=>te σ H fun x H1=>ts σ H1 fun k H2=>k=some (-1)/\∃ p ys,x=.ref p/\SqL K H2 p ys/\∀ l,H2 l=none->Q (.ref l) (upd H2 l (.lst ys.reverse))
def C7 (K:W.Frag) (x:V) (H:Hp) (Q:VK):Prop:=∃ p ys,x=.ref p/\SqL K H p ys/\∀ l,H l=none->Q (.ref l) (upd H l (.lst ys.reverse))
theorem Bq {K:W.Frag} {te:TE} {σ:St} {H:Hp} {Q:VK} (h:te σ H fun x H1=>C7 K x H1 Q):Ci K te σ H Q:=h
theorem Bu {K:W.Frag} {te:TE} {ts:TO} {σ:St} {H:Hp} {Q:VK} (h:te σ H fun x H1=>ts σ H1 fun k H2=>k=some (-1)/\C7 K x H2 Q):Es K te ts σ H Q:=h
theorem zu {K:W.Frag} {a:Δ} {ys:List V} {H:Hp} {Q:VK} (e:H a=some (.lst ys)) (h:∀ l,H l=none->Q (.ref l) (upd H l (.lst ys.reverse))):C7 K (.ref a) H Q:=⟨a,ys,rfl,SqL.of e,h⟩
section
variable {X:Cx}
theorem _root_.L2.Vals.rev {xs:List V} {vs:List χ} (h:Vals xs vs):Vals xs.reverse vs.reverse:=by
 induction h with
 | nil=>exact .nil
 | cons a b ih=>rw [Hy,Hy]; exact ih.append (.cons a .nil)
theorem vZ {e:GO} {te:TE} {st:GO} {ts:TO} {p2 pos:Jf} (K:W.Frag) (hK:X.K=K) (he:PE X e te) (hst:PO X (some st) ts):PE X (.Subscript e (.Slice none none (some st) p2) pos) (Es K te ts):=by
 subst hK;intro pins s σ H Q I h;refine M5 (thn (he pins s σ H _ I h) fun v s1 ⟨x,H1,I1,r1,q1⟩=>?_);refine wpAny_Slice ?_;rw [La];refine D_ ?_;refine D_ ?_;refine thn (hst pins s1 σ H1 _ I1 q1) fun vs s3 ⟨k,H3,I3,pk,hk,p,ys,hx,hl,q3⟩=>?_;subst hk hx
 cases r1;have I4:Inv X pins σ H3 { s3 with heap:=s3.heap.push { cls:=.type "slice",data:=.fields #[.none,.none,vs] } }:=I3.kept (t':=s3.toks) fun b ob q=>ς _ q;obtain ⟨its,r,ht,hz⟩:=I4.list hl;have hlen:=r.length
 show FD (FQ X.prog X.w) X.A (LZ e (.Slice none none (some st) p2) (.ref p) (.ref s3.heap.objs.size)) (EP X pins σ Q) X.xe { s3 with heap:=s3.heap.push { cls:=.type "slice",data:=.fields #[.none,.none,vs] } }
 refine tail_any (ops:=[.ref p,.ref s3.heap.objs.size]) ht.isList.typeIs KQ.lookup ?_ (by with_unfolding_all rfl);refine KY ht.isList (KI ..) .none .none pk (by simp) ?_ (by rw [E8]<;>omega);rw [W.krv_pick];refine ⟨.ref _,_,I4.laid (t':=s3.toks) (o:=.lst ys.reverse) (fun b ob q=>ς _ q) (BE _) ?_,rfl,q3 _ (I4.hok.fresh (BE _))⟩;exact ⟨by rw [IC]; exact hz,_,0,r.rev,E5 _ rfl⟩
theorem AW {e:GO} {te:TE} {p p2 pos pos2:Jf} (K:W.Frag) (hK:X.K=K) (hc:X.calm=true) (hg:Gl X "list") (hm:X.mg "list"=none) (hg2:Gl X "reversed") (hm2:X.mg "reversed"=none) (ha:PE X e te)
  (hs:Fq [.Call (.Name "reversed" p2) [e] [] pos2] X.env=[(false,Hs (.Call (.Name "reversed" p2) [e] [] pos2) X.env)]:=by rfl) (hs2:Fq [e] X.env=[(false,Hs e X.env)]:=by rfl) :
  PE X (.Call (.Name "list" p) [.Call (.Name "reversed" p2) [e] [] pos2] [] pos) (Ci K te):=by
 subst hK;intro pins s σ H Q I h;refine HS (fJ I hg hm (by rfl) ?_ (by decide) (by decide));refine Gn ?_ hs (by rfl);rw [hs];refine Jp (HS (fJ I hg2 hm2 (by rfl) ?_ (by decide) (by decide)));refine Gn ?_ hs2 (by rfl);rw [hs2];refine Jp (thn (ha pins s σ H _ I h) fun v s1 ⟨x,H1,I1,r1,a,ys,hx,hl,q1⟩=>Jx ?_);subst hx
 cases r1;obtain ⟨its,r,pl,hz⟩:=I1.list hl;have hlen:=r.length;refine call_reversed_list pl.isList (Jx ?_);have alt:a<s1.heap.objs.size:=by obtain ⟨o,ho,_⟩:=pl.isList; exact E1 ho
 have I2:Inv X pins σ H1 { s1 with heap:=s1.heap.push (revObj a ((its.toArray.size:Int) - 1)) }:=I1.kept (t':=s1.toks) fun b ob q=>ς _ q;have hne:a≠s1.heap.objs.size:=E6 alt;refine nX (Walks.listRev (A:=X.A.in1.in1) (I.ok.hd hc) s1.heap.objs.size a hne its.toArray).toS (fun i s' st=>st.2.1.typeIs) ?_ ?_ (by simp) (by simp only [E8]; omega) ?_
 ·refine ⟨Fi _,⟨_,E5 _ rfl,rfl,?_⟩,?_⟩
  ·simp [revObj]
  ·exact pl.isList.at fun o e=>ς _ e
 ·intro b hb
  show b<(s1.heap.push _).objs.size
  rw [Gj];rcases BF.mp hb with z | z
  ·rw [z]; exact Iv _
  ·rw [show b=a from by simpa using z]; exact GV alt
 ·intro s' acc' c' hm' hS' hacc;have hi:=vE hacc;have e1:=hm'.gens;have e2:=hm'.drawn;have e3:=hm'.os;have kp:=hm'.heap;obtain ⟨h',g',d',t',o'⟩:=s';dsimp only at e1 e2 e3 kp hS' ⊢;subst e1 e2 e3;have es:(s1.heap.push (revObj a ((its.toArray.size:Int) - 1))).objs.size=s1.heap.objs.size+1:=Gj ..;rw [es] at hS' kp ⊢;have keep:∀ b u,s1.heap.get? b=some u->h'.get? b=some u:=fun b u e=>by
   have hb:=E1 e;refine kp b u (fun z=>?_) (ς _ (ς _ e));rcases BF.mp z with z | z
   ·rw [z] at hb; exact absurd hb (LF.mpr (HU _))
   ·rw [show b=s1.heap.objs.size from by simpa using z] at hb; exact G_ _ hb
  refine ⟨.ref _,_,I1.laid (t':=t') (o:=.lst ys.reverse) keep (HU _) ?_,rfl,q1 _ (I1.hok.fresh (HU _))⟩;refine ⟨by rw [IC]; exact hz,its.reverse,c',r.rev,?_⟩;rw [<- hi];exact hS'
end
end L2
set_option maxHeartbeats 1000000
namespace NR
noncomputable def sm:Nat->(Nat->Int)->Int
 | 0,_=>0
 | n+1,f=>sm n f+f n
noncomputable def ib (p:Prop) [Decidable p]:Int:=if p then 1 else 0
section
variable {n:Nat} {e d:Int->Int} {X Y:Nat->Int}
noncomputable def s1 (X Y:Nat->Int) (i k:Nat):Int:=ib (Y (i+1)<Y (k+1)\/(Y (i+1)=Y (k+1)/\X (i+1)<X (k+1)))
noncomputable def s2 (X Y:Nat->Int) (i k:Nat):Int:=ib (Y i<Y k\/(Y i=Y k/\X (i+1)<X (k+1)))
def Up (d:Int->Int) (X:Nat->Int) (i:Nat):Prop:=d (X (i+1))=1
instance (d:Int->Int) (X:Nat->Int) (i:Nat):Decidable (Up d X i):=inferInstanceAs (Decidable (_=_))
end
end NR
namespace Ts
open PySem PyProof.Rows
noncomputable def oz:Bool->B_->Array B_->Nat->Nat->Nat->StateT GA LD (Option Nat):=sortPriv% PySem.Builtin.gallop
noncomputable def qB:Array B_->Array B_->StateT GA LD (Array B_):=sortPriv% PySem.Builtin.mergeLo
noncomputable def qA:Array B_->Array B_->StateT GA LD (Array B_):=sortPriv% PySem.Builtin.mergeHi
structure cN (lt:B_->B_->Bool):Prop where
 asym:∀ {x y},lt x y=true->lt y x=false
 tr:∀ {x y z},lt y x=false->lt z y=false->lt z x=false
def Le (lt:B_->B_->Bool) (x y:B_):Prop:=lt y x=false
theorem cN.le_refl {lt:B_->B_->Bool} (L:cN lt) (x:B_):Le lt x x:=by
 unfold Le
 cases h:lt x x with
 | false=>rfl
 | true=>rw [L.asym h] at h; cases h
theorem cN.of_lt {lt:B_->B_->Bool} (L:cN lt) {x y:B_} (h:lt x y=true):Le lt x y:=L.asym h
theorem cN.trans {lt:B_->B_->Bool} (L:cN lt) {x y z:B_} (h:Le lt x y) (h':Le lt y z):Le lt x z:=L.tr h h'
section
variable {M:Jo} {A:Fv} {E:χ->AU->Prop} {s:AU}
def iS (M:Jo) (A:Fv) (E:χ->AU->Prop) (s:AU) (κ:Gs) (S:B_->Prop) (lt:B_->B_->Bool):Prop :=
 ∀ (x y:B_) (st:GA) (Q:Option Bool->GA->Prop),S x->S y->G0 st=κ->Q (some (lt x y)) st->MJ M A E s (lt' x y) Q st
theorem aX {arr:Array B_} {i:Nat} {x:B_} {Q:B_->GA->Prop} {st:GA} (h:arr[i]?=some x) (q:Q x st):MJ M A E s (elem' arr i) Q st:=by
 rw [elem'_eq,h];exact E7 q
structure Cut (b:Nat->Bool) (n k:Nat):Prop where
 le:k<=n
 yes:∀ i,i<k->b i=true
 no:∀ i,k<=i->i<n->b i=false
theorem uc {κ:Gs} {S:B_->Prop} {lt:B_->B_->Bool} (H:iS M A E s κ S lt) {left:Bool} {key:B_} {arr:Array B_} {b n hint:Nat} {Q:Option Nat->GA->Prop} {st:GA} {at_:Nat->B_}
    (hk:G0 st=κ) (sk:S key) (ha:∀ i,i<n->arr[b+i]?=some (at_ i)/\S (at_ i)) (hh:hint<n)
    (anti:∀ i j,i<=j->j<n->(if left then lt (at_ j) key else !lt key (at_ j))=true->(if left then lt (at_ i) key else !lt key (at_ i))=true)
    (h:∀ k,Cut (fun i=>if left then lt (at_ i) key else !lt key (at_ i)) n k->Q (some k) st):MJ M A E s (oz left key arr b n hint) Q st:=by
  unfold oz;have bey:∀ (i:Nat) (Q:Option Bool->GA->Prop),i<n->Q (some (if left then lt (at_ i) key else !lt key (at_ i))) st->MJ M A E s (do
      let x <- elem' arr (b+i)
      if left then lt' x key else return (<- lt' key x).map (!·)) Q st:=by
    intro i Q hi q;refine EZ (aX (ha i hi).1 ?_)
    cases left with
    | true=>exact H _ _ _ _ (ha i hi).2 sk hk q
    | false=>exact EZ (H _ _ _ _ sk (ha i hi).2 hk (E7 q))
  generalize hB:(fun i=>if left then lt (at_ i) key else !lt key (at_ i))=B at h;have hB':∀ i,(if left then lt (at_ i) key else !lt key (at_ i))=B i:=fun i=>by rw [<- hB]
  simp only [hB'] at bey anti;refine EZ (bey hint _ hh ?_);dsimp only;by_cases hr:B hint=true
  · rw [if_pos hr]
    refine EZ (Hg (GQ (I:=fun x (c:Option (Option Nat)×Nat×Nat) st'=>st=st'/\c.1=none/\x+1<=c.2.2/\c.2.1<c.2.2/\c.2.1<n - hint/\B (hint+c.2.1)=true)
      (Q:=fun (c:Option (Option Nat)×Nat×Nat) st'=>st=st'/\c.1=none/\c.2.1<c.2.2/\c.2.1<n - hint/\B (hint+c.2.1)=true/\(c.2.2<n - hint->B (hint+c.2.2)=false)) ?step ?fin ⟨rfl,rfl,BE _,Nat.zero_lt_one,by show 0<n - hint; omega,hr⟩) ?post)
    case fin =>
      rintro ⟨c1,l,o⟩ st' ⟨rfl,e,h1,h2,h3,h4⟩;dsimp only at e h1 h2 h3 h4 ⊢;exact ⟨rfl,e,h2,h3,h4,fun z=>by omega⟩
    case step =>
      rintro x ⟨c1,l,o⟩ st' _ hx ⟨rfl,e,h1,h2,h3,h4⟩;dsimp only at e h1 h2 h3 h4 ⊢;by_cases ho:o>=n - hint
      · rw [if_pos ho]
        exact E7 ⟨rfl,rfl,h2,h3,h4,fun z=>by dsimp only at z; omega⟩
      · rw [if_neg ho]
        refine EZ (bey _ _ (by omega) ?_);dsimp only
        cases hb:B (hint+o) with
        | false=>exact E7 ⟨rfl,rfl,h2,h3,h4,fun _=>hb⟩
        | true=>exact E7 ⟨rfl,rfl,by show x+1+1<=2*o+1; omega,by show o<2*o+1; omega,by show o<n - hint; omega,hb⟩
    case post =>
      rintro ⟨c1,l,o⟩ st' ⟨rfl,e,h2,h3,h4,h5⟩;dsimp only at e h2 h3 h4 h5 ⊢;subst e;dsimp only;refine EZ (Hg (GQ (I:=fun x (c:Option (Option Nat)×Nat×Nat) st'=>st=st'/\c.1=none/\c.2.1<=c.2.2/\c.2.2<=n/\c.2.2 - c.2.1+x<=n/\(∀ i,i<c.2.1->B i=true)/\(∀ i,c.2.2<=i->i<n->B i=false))
        (Q:=fun (c:Option (Option Nat)×Nat×Nat) st'=>st=st'/\c.1=none/\c.2.1=c.2.2/\c.2.2<=n/\(∀ i,i<c.2.1->B i=true)/\(∀ i,c.2.2<=i->i<n->B i=false)) ?step ?fin ?init) ?post)
      case init =>
        refine ⟨rfl,rfl,by dsimp only; omega,by dsimp only; omega,by dsimp only; omega,fun i hi=>?_,fun i hi hn=>?_⟩
        · dsimp only at hi
          exact anti i (hint+l) (by omega) (by omega) h4
        · dsimp only at hi
          have h6:=h5 (by omega)
          cases hb:B i with
          | false=>rfl
          | true=>rw [anti (hint+o) i (by omega) hn hb] at h6; cases h6
      case fin =>
        rintro ⟨c1,lo,hi⟩ st' ⟨rfl,e,h1,h2,h3,h4,h5⟩;dsimp only at e h1 h2 h3 h4 h5 ⊢;exact ⟨rfl,e,by omega,h2,h4,h5⟩
      case step =>
        rintro x ⟨c1,lo,hi⟩ st' _ hx ⟨rfl,e,h1,h2,h3,h4,h5⟩;dsimp only at e h1 h2 h3 h4 h5 ⊢;by_cases hd:lo>=hi
        · rw [if_pos hd]
          exact E7 ⟨rfl,rfl,by show lo=hi; omega,h2,h4,h5⟩
        · rw [if_neg hd]
          refine EZ (bey _ _ (by omega) ?_);dsimp only
          cases hb:B (lo+(hi - lo) / 2) with
          | true =>
            refine E7 ⟨rfl,rfl,by show lo+(hi - lo) / 2+1<=hi; omega,h2,by show hi - (lo+(hi - lo) / 2+1)+(x+1)<=n; omega,fun i hi'=>?_,h5⟩;dsimp only at hi';exact anti i _ (by omega) (by omega) hb
          | false =>
            refine E7 ⟨rfl,rfl,by show lo<=lo+(hi - lo) / 2; omega,by show lo+(hi - lo) / 2<=n; omega,by show lo+(hi - lo) / 2 - lo+(x+1)<=n; omega,h4,fun i hi' hn=>?_⟩;dsimp only at hi'
            cases hb2:B i with
            | false=>rfl
            | true=>rw [anti _ i (by omega) hn hb2] at hb; cases hb
      case post =>
        rintro ⟨c1,lo,hi⟩ st' ⟨rfl,e,h1,h2,h4,h5⟩;dsimp only at e h1 h2 h4 h5 ⊢;subst e h1;exact E7 (h _ ⟨h2,h4,h5⟩)
  · rw [if_neg hr]
    have hr':B hint=false:=by simpa using hr
    refine EZ (Hg (GQ (I:=fun x (c:Option (Option Nat)×Nat×Nat) st'=>st=st'/\c.1=none/\x+1<=c.2.2/\c.2.1<c.2.2/\c.2.1<=hint/\B (hint - c.2.1)=false)
      (Q:=fun (c:Option (Option Nat)×Nat×Nat) st'=>st=st'/\c.1=none/\c.2.1<c.2.2/\c.2.1<=hint/\B (hint - c.2.1)=false/\(c.2.2<=hint->B (hint - c.2.2)=true)) ?step ?fin ⟨rfl,rfl,BE _,Nat.zero_lt_one,by show 0<=hint; omega,hr'⟩) ?post)
    case fin =>
      rintro ⟨c1,l,o⟩ st' ⟨rfl,e,h1,h2,h3,h4⟩;dsimp only at e h1 h2 h3 h4 ⊢;exact ⟨rfl,e,h2,h3,h4,fun z=>by omega⟩
    case step =>
      rintro x ⟨c1,l,o⟩ st' _ hx ⟨rfl,e,h1,h2,h3,h4⟩;dsimp only at e h1 h2 h3 h4 ⊢;by_cases ho:o>=hint+1
      · rw [if_pos ho]
        exact E7 ⟨rfl,rfl,h2,h3,h4,fun z=>by dsimp only at z; omega⟩
      · rw [if_neg ho]
        refine EZ (bey _ _ (by omega) ?_);dsimp only
        cases hb:B (hint - o) with
        | true=>exact E7 ⟨rfl,rfl,h2,h3,h4,fun _=>hb⟩
        | false=>exact E7 ⟨rfl,rfl,by show x+1+1<=2*o+1; omega,by show o<2*o+1; omega,by show o<=hint; omega,hb⟩
    case post =>
      rintro ⟨c1,l,o⟩ st' ⟨rfl,e,h2,h3,h4,h5⟩;dsimp only at e h2 h3 h4 h5 ⊢;subst e;dsimp only;refine EZ (Hg (GQ (I:=fun x (c:Option (Option Nat)×Nat×Nat) st'=>st=st'/\c.1=none/\c.2.1<=c.2.2/\c.2.2<=n/\c.2.2 - c.2.1+x<=n/\(∀ i,i<c.2.1->B i=true)/\(∀ i,c.2.2<=i->i<n->B i=false))
        (Q:=fun (c:Option (Option Nat)×Nat×Nat) st'=>st=st'/\c.1=none/\c.2.1=c.2.2/\c.2.2<=n/\(∀ i,i<c.2.1->B i=true)/\(∀ i,c.2.2<=i->i<n->B i=false)) ?step ?fin ?init) ?post)
      case init =>
        refine ⟨rfl,rfl,by dsimp only; omega,by dsimp only; omega,by dsimp only; omega,fun i hi=>?_,fun i hi hn=>?_⟩
        · dsimp only at hi
          have h6:=h5 (by omega);exact anti i (hint - o) (by omega) (by omega) h6
        · dsimp only at hi
          cases hb:B i with
          | false=>rfl
          | true=>rw [anti (hint - l) i (by omega) hn hb] at h4; cases h4
      case fin =>
        rintro ⟨c1,lo,hi⟩ st' ⟨rfl,e,h1,h2,h3,h4,h5⟩;dsimp only at e h1 h2 h3 h4 h5 ⊢;exact ⟨rfl,e,by omega,h2,h4,h5⟩
      case step =>
        rintro x ⟨c1,lo,hi⟩ st' _ hx ⟨rfl,e,h1,h2,h3,h4,h5⟩;dsimp only at e h1 h2 h3 h4 h5 ⊢;by_cases hd:lo>=hi
        · rw [if_pos hd]
          exact E7 ⟨rfl,rfl,by show lo=hi; omega,h2,h4,h5⟩
        · rw [if_neg hd]
          refine EZ (bey _ _ (by omega) ?_);dsimp only
          cases hb:B (lo+(hi - lo) / 2) with
          | true =>
            refine E7 ⟨rfl,rfl,by show lo+(hi - lo) / 2+1<=hi; omega,h2,by show hi - (lo+(hi - lo) / 2+1)+(x+1)<=n; omega,fun i hi'=>?_,h5⟩;dsimp only at hi';exact anti i _ (by omega) (by omega) hb
          | false =>
            refine E7 ⟨rfl,rfl,by show lo<=lo+(hi - lo) / 2; omega,by show lo+(hi - lo) / 2<=n; omega,by show lo+(hi - lo) / 2 - lo+(x+1)<=n; omega,h4,fun i hi' hn=>?_⟩;dsimp only at hi'
            cases hb2:B i with
            | false=>rfl
            | true=>rw [anti _ i (by omega) hn hb2] at hb; cases hb
      case post =>
        rintro ⟨c1,lo,hi⟩ st' ⟨rfl,e,h1,h2,h4,h5⟩;dsimp only at e h1 h2 h4 h5 ⊢;subst e h1;exact E7 (h _ ⟨h2,h4,h5⟩)
end
end Ts
namespace Ts
open PySem PyProof.Rows
section
variable {M:Jo} {A:Fv} {E:χ->AU->Prop} {s:AU}
theorem hG {κ:Gs} {S:B_->Prop} {lt:B_->B_->Bool} (L:cN lt) (H:iS M A E s κ S lt) {left:Bool} {key:B_} {arr:Array B_} {b n hint:Nat} {Q:Option Nat->GA->Prop} {st:GA}
  (hk:G0 st=κ) (sk:S key) (hn:b+n<=arr.size) (hS:∀ x∈(arr.toList.drop b).take n,S x) (hs:((arr.toList.drop b).take n).Pairwise (Le lt)) (hh:hint<n)
  (h:∀ k,k<=n->(∀ x∈(arr.toList.drop b).take k,Le lt x key)->(∀ x∈((arr.toList.drop b).take n).drop k,Le lt key x)->Q (some k) st):MJ M A E s (oz left key arr b n hint) Q st:=by
 have hlen:((arr.toList.drop b).take n).length=n:=by rw [Fl,Fw,FT]; omega
 have hat:∀ i,i<n->arr[b+i]?=((arr.toList.drop b).take n)[i]?:=by
  intro i hi;rw [G9 hi,Jr,GC]
 generalize hX:(arr.toList.drop b).take n=X at hS hs hlen hat h;have hat':∀ i (hi:i<n),X[i]?=some (X[i]?.getD key):=fun i hi=>by rw [Ω (by omega)]; rfl
 have mono:∀ i j,i<=j->j<n->Le lt (X[i]?.getD key) (X[j]?.getD key):=by
  intro i j hij hj;rcases Nat.lt_or_eq_of_le hij with hlt | rfl
  ·have:=(MP.mp hs) i j (by omega) (by omega) hlt
   rw [Ω (by omega),Ω (by omega)];exact this
  ·exact L.le_refl _
 refine uc H (at_:=fun i=>X[i]?.getD key) hk sk (fun i hi=>⟨by rw [hat i hi]; exact hat' i hi,hS _ (FN (hat' i hi))⟩) hh ?_ ?_
 ·intro i j hij hj
  cases left with
  | true =>
   show lt _ key=true->lt _ key=true
   intro z
   cases hb:lt (X[i]?.getD key) key with
   | true=>rfl
   | false =>
    have:lt (X[j]?.getD key) key=false:=L.trans hb (mono i j hij hj)
    rw [this] at z; cases z
  | false =>
   show (!lt key _)=true->(!lt key _)=true
   intro z;have z:lt key (X[j]?.getD key)=false:=by simpa using z
   have:lt key (X[i]?.getD key)=false:=L.trans (mono i j hij hj) z
   rw [this]; rfl
 ·intro k c;refine h k c.le (fun x hx=>?_) (fun x hx=>?_)
  ·obtain ⟨i,hi⟩:=GS.mp hx
   have hik:i<k:=by
    have:=(C_.mp hi).1
    rw [Fl] at this; omega
   have e:X[i]?=some x:=by rw [<- hX,G9 (by have:=c.le; omega),<- hi,G9 hik]
   have:=c.yes i hik
   cases left with
   | true =>
    have this:lt (X[i]?.getD key) key=true:=this;rw [e] at this;exact L.asym this
   | false =>
    have this:(!lt key (X[i]?.getD key))=true:=this;rw [e] at this
    show lt key x=false
    simpa using this
  ·obtain ⟨i,hi⟩:=GS.mp hx;rw [Jr] at hi;have hin:k+i<n:=by rw [<- hlen]; exact (C_.mp hi).1
   have:=c.no (k+i) (by omega) hin
   cases left with
   | true =>
    have this:lt (X[k+i]?.getD key) key=false:=this;rw [hi] at this;exact this
   | false =>
    have this:(!lt key (X[k+i]?.getD key))=false:=this;rw [hi] at this;exact L.asym (by simpa using this)
end
structure Mg (lt:B_->B_->Bool) (a b out:List B_) (ia ib:Nat):Prop where
 perm:(out++(a.drop ia++b.drop ib)).Perm (a++b)
 srt:out.Pairwise (Le lt)
 le_:∀ x∈out,∀ y∈a.drop ia++b.drop ib,Le lt x y
def Res (lt:B_->B_->Bool) (a b r:List B_):Prop:=r.Perm (a++b)/\r.Pairwise (Le lt)
theorem Mg.a {lt:B_->B_->Bool} {a b out:List B_} {ia ib:Nat} (m:Mg lt a b out ia ib) (hA:a.Pairwise (Le lt)) (k:Nat) (h:∀ x∈(a.drop ia).take k,∀ y∈b.drop ib,Le lt x y) :
  Mg lt a b (out++(a.drop ia).take k) (ia+k) ib:=by
 have e:a.drop ia=(a.drop ia).take k++a.drop (ia+k):=by rw [<- Hv,GI]
 have hA':=Fd (Gh ia a) hA;rw [e,FL] at hA';refine ⟨?_,?_,?_⟩
 ·have:=m.perm
  rw [e] at this;rw [E9];rw [E9] at this;exact this
 ·rw [FL];refine ⟨m.srt,hA'.1,fun x hx y hy=>m.le_ x hx y (Ff _ (Fp hy))⟩
 ·intro x hx y hy;rcases E_.mp hx with hx | hx
  ·refine m.le_ x hx y ?_;rcases E_.mp hy with hy | hy
   ·exact Ff _ (by rw [e]; exact E3 _ hy)
   ·exact E3 _ hy
  ·rcases E_.mp hy with hy | hy
   ·exact hA'.2.2 x hx y hy
   ·exact h x hx y hy
theorem Mg.b {lt:B_->B_->Bool} {a b out:List B_} {ia ib:Nat} (m:Mg lt a b out ia ib) (hB:b.Pairwise (Le lt)) (k:Nat) (h:∀ x∈(b.drop ib).take k,∀ y∈a.drop ia,Le lt x y) :
  Mg lt a b (out++(b.drop ib).take k) ia (ib+k):=by
 have e:b.drop ib=(b.drop ib).take k++b.drop (ib+k):=by rw [<- Hv,GI]
 have hB':=Fd (Gh ib b) hB;rw [e,FL] at hB';refine ⟨?_,?_,?_⟩
 ·have:=m.perm
  refine LG ?_ this;rw [E9];refine Hq _ ?_;refine (List.perm_append_comm_assoc _ _ _).trans ?_;rw [<- e]
 ·rw [FL];refine ⟨m.srt,hB'.1,fun x hx y hy=>m.le_ x hx y (E3 _ (Fp hy))⟩
 ·intro x hx y hy;rcases E_.mp hx with hx | hx
  ·refine m.le_ x hx y ?_;rcases E_.mp hy with hy | hy
   ·exact Ff _ hy
   ·exact E3 _ (by rw [e]; exact E3 _ hy)
  ·rcases E_.mp hy with hy | hy
   ·exact h x hx y hy
   ·exact hB'.2.2 x hx y hy
theorem Mg.endB {lt:B_->B_->Bool} {a b out:List B_} {ia ib:Nat} (m:Mg lt a b out ia ib) (hA:a.Pairwise (Le lt)) (h:b.length<=ib):Res lt a b (out++a.drop ia++b.drop ib):=by
 have p:=m.perm;have q:=m.le_;rw [IU h,FH] at p q;rw [IU h,FH];exact ⟨p,FL.mpr ⟨m.srt,Fd (Gh _ _) hA,q⟩⟩
theorem Mg.endA {lt:B_->B_->Bool} {a b out:List B_} {ia ib:Nat} (m:Mg lt a b out ia ib) (hB:b.Pairwise (Le lt)) (h:a.length<=ia):Res lt a b (out++a.drop ia++b.drop ib):=by
 have p:=m.perm;have q:=m.le_;rw [IU h,IX] at p q;rw [IU h,FH];exact ⟨p,FL.mpr ⟨m.srt,Fd (Gh _ _) hB,q⟩⟩
theorem Mg.last {lt:B_->B_->Bool} {a b out:List B_} {ia ib:Nat} (m:Mg lt a b out ia ib) (hA:a.Pairwise (Le lt)) (hB:b.Pairwise (Le lt)) (h:∀ y∈b.drop ib,∀ x∈a.drop ia,Le lt y x):Res lt a b (out++b.drop ib++a.drop ia):=by
 refine ⟨?_,?_⟩
 ·rw [E9];exact (Hq _ JR).trans m.perm
 ·rw [E9,FL,FL];refine ⟨m.srt,⟨Fd (Gh _ _) hB,Fd (Gh _ _) hA,h⟩,fun x hx y hy=>m.le_ x hx y ?_⟩;rcases E_.mp hy with hy | hy
  ·exact E3 _ hy
  ·exact Ff _ hy
structure Sim (st st':GA):Prop where
 kind:G0 st'=G0 st
 arr:FO st'=FO st
 pend:FY st'=FY st
 failed:Hi st'=Hi st
theorem Sim.refl (st:GA):Sim st st:=⟨rfl,rfl,rfl,rfl⟩
theorem Sim.trans {a b c:GA} (x:Sim a b) (y:Sim b c):Sim a c:=⟨y.kind.trans x.kind,y.arr.trans x.arr,y.pend.trans x.pend,y.failed.trans x.failed⟩
theorem gR {l:List B_} {i:Nat} (h:i<l.length):(l.drop i).take 1=[l[i]]:=by
 rw [F8 h,List.take_succ_cons,IG]
theorem fG (a:Array B_) (i k:Nat) (h:i+k<=a.size):(a.extract i (i+k)).toList=(a.toList.drop i).take k:=by
 rw [JZ,Iw]
 congr 1
 omega
theorem bO (a:Array B_) (i:Nat):(a.extract i a.size).toList=a.toList.drop i:=by
 rw [JZ,Iw,FG];rw [Fw,FT]; omega
end Ts
namespace Ts
open PySem PyProof.Rows
theorem i8 {lt:B_->B_->Bool} (L:cN lt) {l:List B_} (hl:l.Pairwise (Le lt)) {i:Nat} (h:i<l.length) {x:B_} (hx:Le lt x l[i]):∀ y∈l.drop i,Le lt x y:=by
 intro y hy;have h2:=Fd (Gh i l) hl;rw [F8 h] at h2 hy;rcases BF.mp hy with rfl | hy
 ·exact hx
 ·exact L.trans hx ((IT.mp h2).1 y hy)
theorem Mg.pushA {lt:B_->B_->Bool} (L:cN lt) {a b out:List B_} {ia ib:Nat} (m:Mg lt a b out ia ib) (hA:a.Pairwise (Le lt)) (h:ia<a.length) (hle:∀ y∈b.drop ib,Le lt a[ia] y):Mg lt a b (out++[a[ia]]) (ia+1) ib:=by
 have:=m.a hA 1 (by
  intro x hx y hy;rw [gR h] at hx;rw [A_.mp hx];exact hle y hy)
 rw [gR h] at this;exact this
theorem Mg.pushB {lt:B_->B_->Bool} (L:cN lt) {a b out:List B_} {ia ib:Nat} (m:Mg lt a b out ia ib) (hB:b.Pairwise (Le lt)) (h:ib<b.length) (hle:∀ y∈a.drop ia,Le lt b[ib] y):Mg lt a b (out++[b[ib]]) ia (ib+1):=by
 have:=m.b hB 1 (by
  intro x hx y hy;rw [gR h] at hx;rw [A_.mp hx];exact hle y hy)
 rw [gR h] at this;exact this
noncomputable abbrev CS1:=Option (Array B_)×Array B_×Nat×Nat×Nat
noncomputable abbrev CS2:=Option (Array B_)×Array B_×Nat×Nat×Nat×Nat
noncomputable abbrev CS3:=Option (Array B_)×Array B_×Nat×Nat×Nat×Nat×Nat
section
variable {M:Jo} {A:Fv} {E:χ->AU->Prop} {s:AU}
theorem wY {α β γ δ ε:Type} {P:α×β×γ×δ×ε->Prop} (h:∀ a b c d e,P (a,b,c,d,e)):∀ x,P x:=fun x=>h x.1 x.2.1 x.2.2.1 x.2.2.2.1 x.2.2.2.2
theorem wZ {α β γ δ ε ζ:Type} {P:α×β×γ×δ×ε×ζ->Prop} (h:∀ a b c d e f,P (a,b,c,d,e,f)):∀ x,P x:=fun x=>h x.1 x.2.1 x.2.2.1 x.2.2.2.1 x.2.2.2.2.1 x.2.2.2.2.2
theorem xc {α β γ δ ε ζ η:Type} {P:α×β×γ×δ×ε×ζ×η->Prop} (h:∀ a b c d e f g,P (a,b,c,d,e,f,g)):∀ x,P x:=fun x=>h x.1 x.2.1 x.2.2.1 x.2.2.2.1 x.2.2.2.2.1 x.2.2.2.2.2.1 x.2.2.2.2.2.2
theorem a7 {α:Type} {c:Prop} [Decidable c] {t e:StateT GA LD α} {Q:α->GA->Prop} {st:GA} (h1:c->MJ M A E s t Q st) (h2:¬ c->MJ M A E s e Q st):MJ M A E s (if c then t else e) Q st:=by
 split
 ·exact h1 ‹_›
 ·exact h2 ‹_›
theorem hV {α:Type} {c:Prop} [Decidable c] {t e:StateT GA LD α} {Q:α->GA->Prop} {st:GA} (h:c) (k:MJ M A E s t Q st):MJ M A E s (if c then t else e) Q st:=a7 (fun _=>k) fun n=>absurd h n
theorem eY {α:Type} {c:Prop} [Decidable c] {t e:StateT GA LD α} {Q:α->GA->Prop} {st:GA} (h:¬ c) (k:MJ M A E s e Q st):MJ M A E s (if c then t else e) Q st:=a7 (fun n=>absurd n h) fun _=>k
theorem jU {α:Type} {c J:Prop} [Decidable c] {t e:StateT GA LD α} {Q:α->GA->Prop} {st:GA} (h1:c->J->MJ M A E s t Q st) (h2:¬ c->J->MJ M A E s e Q st) (j:J):MJ M A E s (if c then t else e) Q st:=a7 (fun c=>h1 c j) fun c=>h2 c j
theorem rP {κ:Gs} {S:B_->Prop} {lt:B_->B_->Bool} (L:cN lt) (H:iS M A E s κ S lt) {a b:Array B_} {Q:Array B_->GA->Prop} {st:GA} (hk:G0 st=κ)
  (hA:a.toList.Pairwise (Le lt)) (hB:b.toList.Pairwise (Le lt)) (sA:∀ x∈a.toList,S x) (sB:∀ x∈b.toList,S x) (na:0<a.size) (nb:0<b.size)
  (h0:∀ x∈a.toList,Le lt b[0] x) (hl:∀ y∈b.toList,∀ x∈a.toList.drop (a.size - 1),Le lt y x)
  (h:∀ r st',Sim st st'->Res lt a.toList b.toList r.toList->Q r st'):MJ M A E s (qB a b) Q st:=by
 have lA:a.toList.length=a.size:=FT;have lB:b.toList.length=b.size:=FT;have atA:∀ i (hi:i<a.size),a[i]?=some a[i]:=fun i hi=>getElem?_pos a i hi;have atB:∀ i (hi:i<b.size),b[i]?=some b[i]:=fun i hi=>getElem?_pos b i hi;have memA:∀ i (hi:i<a.size),S a[i]:=fun i hi=>sA _ (IB hi);have memB:∀ i (hi:i<b.size),S b[i]:=fun i hi=>sB _ (IB hi)
 have m0:Mg lt a.toList b.toList [b[0]] 0 1:=by
  have:=Mg.pushB L (lt:=lt) (a:=a.toList) (b:=b.toList) (out:=[]) (ia:=0) (ib:=0) ⟨List.Perm.refl _,Gq,fun x hx=>nomatch hx⟩ hB (by omega) (fun y hy=>h0 y hy)
  exact this
 have last:∀ {out:List B_} {ia ib:Nat},Mg lt a.toList b.toList out ia ib->ia+1=a.size->Res lt a.toList b.toList (out++b.toList.drop ib++a.toList.drop ia):=by
  intro out ia ib m e;refine m.last hA hB fun y hy x hx=>hl y (GP hy) x ?_;rw [<- e,Nat.add_sub_cancel]; exact hx
 unfold qB;refine EZ (Kp (G4 ⟨rfl,?_⟩));dsimp only;refine EZ (aX (atB 0 nb) ?_);refine a7 (fun c1=>?_) (fun c1=>?_)
 ·refine E7 (h _ _ (Sim.refl _) ?_);rw [EY,EY,bO,bO];exact m0.endB hA (by have:=beq_iff_eq.mp c1; omega)
 have c1:1≠b.size:=fun e=>c1 (beq_iff_eq.mpr e);refine a7 (fun c2=>?_) (fun c2=>?_)
 ·refine E7 (h _ _ (Sim.refl _) ?_);rw [EY,EY,bO,bO];exact last m0 (beq_iff_eq.mp c2)
 have c2:0+1≠a.size:=fun e=>c2 (beq_iff_eq.mpr e);refine EZ (JU ?_);refine EZ (Hg (GQ
  (I:=fun X (c:CS1) st'=>Sim st st'/\c.1=none/\Mg lt a.toList b.toList c.2.1.toList c.2.2.1 c.2.2.2.1/\c.2.2.1+1<a.size/\c.2.2.2.1<b.size/\X+1<=c.2.2.1+c.2.2.2.1)
  (Q:=fun (c:CS1) st'=>Sim st st'/\∃ r,c.1=some r/\Res lt a.toList b.toList r.toList) ?step ?fin ⟨Sim.refl _,rfl,m0,by show 0+1<a.size; omega,by show 1<b.size; omega,BE _⟩) ?post)
 case post =>
  refine wY fun c out ia ib g=>?_;rintro st' ⟨sm,r,e,hr⟩;dsimp only at e ⊢;subst e;exact E7 (h r _ sm hr)
 case fin =>
  refine wY fun c out ia ib g=>?_;intro st' hh;have sm:=hh.1;have e:=hh.2.1;have m:=hh.2.2.1;have h1:=hh.2.2.2.1;have h2:=hh.2.2.2.2.1;have h3:=hh.2.2.2.2.2;clear hh;dsimp only at h1 h2 h3;exfalso
  omega
 case step =>
  intro X;refine wY fun c out ia ib g=>?_;intro st1 _ hX hh;have sm:=hh.1;have e:=hh.2.1;have m:=hh.2.2.1;have h1:=hh.2.2.2.1;have h2:=hh.2.2.2.2.1;have h3:=hh.2.2.2.2.2;clear hh;dsimp only at e m h1 h2 h3 ⊢
  -- one at a time
  refine EZ (Hg (GQ
   (I:=fun x (c:CS2) st'=>Sim st st'/\c.1=none/\Mg lt a.toList b.toList c.2.1.toList c.2.2.1 c.2.2.2.1/\c.2.2.1+1<a.size/\c.2.2.2.1<b.size/\ia+ib+x<=c.2.2.1+c.2.2.2.1)
   (Q:=fun (c:CS2) st'=>Sim st st'/\((∃ r,c.1=some r/\Res lt a.toList b.toList r.toList)\/(c.1=none/\Mg lt a.toList b.toList c.2.1.toList c.2.2.1 c.2.2.2.1/\c.2.2.1+1<a.size/\c.2.2.2.1<b.size/\ia+ib+1<=c.2.2.1+c.2.2.2.1))) ?step ?fin ⟨sm,rfl,m,h1,h2,BE _⟩) ?post)
  case fin =>
   refine wZ fun c out ia' ib' ac bc=>?_;intro st' hh;have sm:=hh.1;have e:=hh.2.1;have m:=hh.2.2.1;have k1:=hh.2.2.2.1;have k2:=hh.2.2.2.2.1;have k3:=hh.2.2.2.2.2;clear hh;dsimp only at e m k1 k2 k3 ⊢;exact ⟨sm,.inr ⟨e,m,k1,k2,by omega⟩⟩
  case step =>
   clear m h1 h2 sm;intro x;refine wZ fun c out ia' ib' ac bc=>?_;intro st2 _ hx hh;have sm:=hh.1;have e:=hh.2.1;have m:=hh.2.2.1;have k1:=hh.2.2.2.1;have k2:=hh.2.2.2.2.1;have k3:=hh.2.2.2.2.2;clear hh;dsimp only at e m k1 k2 k3 ⊢;refine EZ (aX (atB ib' k2) ?_);refine EZ (aX (atA ia' (by omega)) ?_);refine EZ (H _ _ _ _ (memB _ k2) (memA _ (by omega)) (sm.kind.trans hk) ?_);dsimp only
   cases hb:lt b[ib'] a[ia'] with
   | true =>
    rw [if_pos rfl];refine EZ (aX (atB ib' k2) ?_)
    have m2:Mg lt a.toList b.toList (out.push b[ib']).toList ia' (ib'+1):=by
     rw [Gz];exact m.pushB L hB (by omega) (i8 L hA (by omega) (L.of_lt hb))
    refine a7 (fun d1=>?_) (fun d1=>?_)
    ·refine E7 ⟨sm,.inl ⟨_,rfl,?_⟩⟩;rw [EY,EY,bO,bO];exact m2.endB hA (by have:=beq_iff_eq.mp d1; omega)
    ·have d1:ib'+1≠b.size:=fun e=>d1 (beq_iff_eq.mpr e);refine a7 (fun _=>?_) (fun _=>?_)
     ·exact E7 ⟨sm,.inr ⟨rfl,m2,k1,by show ib'+1<b.size; omega,by show ia+ib+1<=ia'+(ib'+1); omega⟩⟩
     ·exact E7 ⟨sm,rfl,m2,k1,by show ib'+1<b.size; omega,by show ia+ib+(x+1)<=ia'+(ib'+1); omega⟩
   | false =>
    rw [if_neg (by simp)];refine EZ (aX (atA ia' (by omega)) ?_)
    have m2:Mg lt a.toList b.toList (out.push a[ia']).toList (ia'+1) ib':=by
     rw [Gz];exact m.pushA L hA (by omega) (i8 L hB (by omega) hb)
    refine a7 (fun d1=>?_) (fun d1=>?_)
    ·refine E7 ⟨sm,.inl ⟨_,rfl,?_⟩⟩;rw [EY,EY,bO,bO];exact last m2 (beq_iff_eq.mp d1)
    ·have d1:ia'+1+1≠a.size:=fun e=>d1 (beq_iff_eq.mpr e);refine a7 (fun _=>?_) (fun _=>?_)
     ·exact E7 ⟨sm,.inr ⟨rfl,m2,by show ia'+1+1<a.size; omega,k2,by show ia+ib+1<=ia'+1+ib'; omega⟩⟩
     ·exact E7 ⟨sm,rfl,m2,by show ia'+1+1<a.size; omega,k2,by show ia+ib+(x+1)<=ia'+1+ib'; omega⟩
  case post =>
   clear m h1 h2 sm;refine wZ fun c out ia' ib' ac bc=>?_;rintro st2 ⟨sm,⟨r,e,hr⟩ | hh⟩
   ·dsimp only at e ⊢;subst e;exact E7 ⟨sm,r,rfl,hr⟩
   ·have e:=hh.1;have m:=hh.2.1;have k1:=hh.2.2.1;have k2:=hh.2.2.2.1;have k3:=hh.2.2.2.2;clear hh;dsimp only at e m k1 k2 k3 ⊢;subst e;refine EZ (Kp (G4 ⟨rfl,?_⟩));refine EZ (Hg (GQ
     (I:=fun x (c:CS3) st'=>Sim st st'/\c.1=none/\Mg lt a.toList b.toList c.2.1.toList c.2.2.1 c.2.2.2.1/\c.2.2.1+1<a.size/\c.2.2.2.1<b.size/\ia'+ib'<=c.2.2.1+c.2.2.2.1)
     (Q:=fun (c:CS3) st'=>Sim st st'/\((∃ r,c.1=some r/\Res lt a.toList b.toList r.toList)\/(c.1=none/\Mg lt a.toList b.toList c.2.1.toList c.2.2.1 c.2.2.2.1/\c.2.2.1+1<a.size/\c.2.2.2.1<b.size/\ia'+ib'<=c.2.2.1+c.2.2.2.1))) ?step ?fin ⟨sm,rfl,m,k1,k2,BE _⟩) ?post)
    case fin =>
     refine xc fun c out ja jb g' ac bc=>?_;intro st' hh;have sm:=hh.1;have e:=hh.2.1;have m:=hh.2.2.1;have k1:=hh.2.2.2.1;have k2:=hh.2.2.2.2.1;have k3:=hh.2.2.2.2.2;clear hh;exact ⟨sm,.inr ⟨e,m,k1,k2,k3⟩⟩
    case post =>
     clear m k1 k2 sm;refine xc fun c out ja jb g' ac bc=>?_;rintro st3 ⟨sm,⟨r,e,hr⟩ | hh⟩
     ·dsimp only at e ⊢;subst e;exact E7 ⟨sm,r,rfl,hr⟩
     ·have e:=hh.1;have m:=hh.2.1;have k1:=hh.2.2.1;have k2:=hh.2.2.2.1;have k4:=hh.2.2.2.2;clear hh;dsimp only at e m k1 k2 k4 ⊢;subst e;refine EZ (Hr ?_);exact E7 ⟨sm.trans ⟨rfl,rfl,rfl,rfl⟩,rfl,m,k1,k2,by show X+1+1<=ja+jb; omega⟩
    case step =>
     clear m k1 k2 sm;intro x;refine xc fun c out ja jb g' ac bc=>?_;intro st3 _ hx hh;have sm:=hh.1;have e:=hh.2.1;have m:=hh.2.2.1;have k1:=hh.2.2.2.1;have k2:=hh.2.2.2.2.1;have k4:=hh.2.2.2.2.2;clear hh;dsimp only at e m k1 k2 k4 ⊢;apply jU
     ·intro gg j;generalize g' - 1=gn
      revert gn
      exact j
     ·intro gg j;exact j g'
     intro gn;refine EZ (Hr ?_);refine EZ (aX (atB jb k2) ?_);refine EZ (hG (b:=ja) (n:=a.size - ja) L H (sm.kind.trans hk) (memB jb k2) (by omega) (fun x hx=>sA x (GP (Fp hx))) (Fd ((GG _ _).trans (Gh _ _)) hA) (by omega) ?_);intro k kn hle hge;rw [FG (by rw [Fw]; omega),Hv] at hge;dsimp only;apply jU
     ·intro kp
      have m2:Mg lt a.toList b.toList (out++a.extract ja (ja+k)).toList (ja+k) jb:=by
       rw [EY,fG _ _ _ (by omega)];exact m.a hA k (fun x hx=>i8 L hB (by omega) (hle x hx))
      by_cases d1:(ja+k+1==a.size)=true
      ·intro j;clear j;refine hV d1 (E7 ⟨sm.trans ⟨rfl,rfl,rfl,rfl⟩,.inl ⟨_,rfl,?_⟩⟩);rw [EY,EY,bO,bO];exact last m2 (beq_iff_eq.mp d1)
      by_cases d2:(ja+k==a.size)=true
      ·intro j;clear j;refine eY d1 (hV d2 (E7 ⟨sm.trans ⟨rfl,rfl,rfl,rfl⟩,.inl ⟨_,rfl,?_⟩⟩));rw [EY,EY,bO,bO];exact m2.endA hB (by have:=beq_iff_eq.mp d2; omega)
      have d3:ja+k+1≠a.size:=fun e=>d1 (beq_iff_eq.mpr e);have d4:ja+k≠a.size:=fun e=>d2 (beq_iff_eq.mpr e);have kk:ja+k+1<a.size/\ia'+ib'<=ja+k+jb:=⟨by omega,by omega⟩
      generalize out++a.extract ja (ja+k)=out2 at m2 ⊢;have hg2:=hge;generalize ja+k=ia2 at m2 hg2 kk d1 d2 ⊢;intro j;refine eY d1 (eY d2 ?_);generalize k=u1
      revert u1
      clear d1 d2 d3 d4
      revert hg2
      revert kk
      revert m2
      revert ia2
      revert out2
      exact j
     ·intro kp;have k0:k=0:=by omega
      subst k0;have hge:∀ x∈a.toList.drop ja,Le lt b[jb] x:=hge;intro j;exact j out ja m ⟨k1,k4⟩ hge _
     intro out2 ia2 m2 kk hge u1;clear m hle kn k1 k4;have k1:=kk.1;have k4:=kk.2;refine EZ (aX (atB jb k2) ?_)
     have m3:Mg lt a.toList b.toList (out2.push b[jb]).toList ia2 (jb+1):=by
      rw [Gz];exact m2.pushB L hB (by omega) hge
     refine a7 (fun d1=>?_) (fun d1=>?_)
     ·refine E7 ⟨sm.trans ⟨rfl,rfl,rfl,rfl⟩,.inl ⟨_,rfl,?_⟩⟩;rw [EY,EY,bO,bO];exact m3.endB hA (by have:=beq_iff_eq.mp d1; omega)
     have d1:jb+1≠b.size:=fun e=>d1 (beq_iff_eq.mpr e);refine EZ (aX (atA ia2 (by omega)) ?_);refine EZ (hG (b:=jb+1) (n:=b.size - (jb+1)) L H (sm.kind.trans hk) (memA ia2 (by omega)) (by omega) (fun x hx=>sB x (GP (Fp hx))) (Fd ((GG _ _).trans (Gh _ _)) hB) (by omega) ?_);intro k' kn hle hge';rw [FG (by rw [Fw]; omega),Hv] at hge';dsimp only;apply jU
     ·intro kp
      have m4:Mg lt a.toList b.toList (out2.push b[jb]++b.extract (jb+1) (jb+1+k')).toList ia2 (jb+1+k'):=by
       rw [EY,fG _ _ _ (by omega)];exact m3.b hB k' (fun x hx=>i8 L hA (by omega) (hle x hx))
      by_cases d3:(jb+1+k'==b.size)=true
      ·intro j;clear j;refine hV d3 (E7 ⟨sm.trans ⟨rfl,rfl,rfl,rfl⟩,.inl ⟨_,rfl,?_⟩⟩);rw [EY,EY,bO,bO];exact m4.endB hA (by have:=beq_iff_eq.mp d3; omega)
      have d4:jb+1+k'≠b.size:=fun e=>d3 (beq_iff_eq.mpr e);have kk:jb+1+k'<b.size/\ia'+ib'<=ia2+1+(jb+1+k'):=⟨by omega,by omega⟩
      generalize out2.push (b[jb]'k2)++b.extract (jb+1) (jb+1+k')=out3 at m4 ⊢;have hg2:=hge';generalize jb+1+k'=jb2 at m4 hg2 kk d3 ⊢;intro j;refine eY d3 ?_;clear d3 d4;generalize k'=u2
      revert u2
      revert hg2
      revert kk
      revert m4
      revert jb2
      revert out3
      exact j
     ·intro kp;have k0:k'=0:=by omega
      subst k0;have kk:jb+1<b.size/\ia'+ib'<=ia2+1+(jb+1):=⟨by omega,by omega⟩
      intro j;exact j _ _ m3 kk hge' _
     intro out3 jb2 m4 kz hge' u2;refine EZ (aX (atA ia2 (by omega)) ?_)
     have m6:Mg lt a.toList b.toList (out3.push a[ia2]).toList (ia2+1) jb2:=by
      rw [Gz];exact m4.pushA L hA (by omega) hge'
     refine a7 (fun d4=>?_) (fun d4=>?_)
     ·refine E7 ⟨sm.trans ⟨rfl,rfl,rfl,rfl⟩,.inl ⟨_,rfl,?_⟩⟩;rw [EY,EY,bO,bO];exact last m6 (beq_iff_eq.mp d4)
     have d4:ia2+1+1≠a.size:=fun e=>d4 (beq_iff_eq.mpr e);have kz:ia2+1+1<a.size/\jb2<b.size/\ia'+ib'<=ia2+1+jb2:=⟨by omega,kz.1,kz.2⟩
     refine a7 (fun _=>?_) (fun _=>?_)
     ·exact E7 ⟨sm.trans ⟨rfl,rfl,rfl,rfl⟩,.inr ⟨rfl,m6,kz⟩⟩
     ·exact E7 ⟨sm.trans ⟨rfl,rfl,rfl,rfl⟩,rfl,m6,kz⟩
end
end Ts
namespace Ts
open PySem PyProof.Rows
structure Mh (lt:B_->B_->Bool) (a b out:List B_) (na nb:Nat):Prop where
 perm:(a.take na++b.take nb++out.reverse).Perm (a++b)
 srt:out.reverse.Pairwise (Le lt)
 le_:∀ x∈out,∀ y∈a.take na++b.take nb,Le lt y x
theorem fZ (l:List B_) {i n:Nat} (h:i<=n):l.take n=l.take i++(l.take n).drop i:=by
 have:=GI i (l.take n)
 rw [MD,G2 h] at this;exact this.symm
theorem Mh.a {lt:B_->B_->Bool} {a b out:List B_} {na nb:Nat} (m:Mh lt a b out na nb) (hA:a.Pairwise (Le lt)) (i:Nat) (hi:i<=na) (h:∀ x∈(a.take na).drop i,∀ y∈b.take nb,Le lt y x) :
  Mh lt a b (out++((a.take na).drop i).reverse) i nb:=by
 have e:=fZ a hi;have hA':=Fd (GG na a) hA;rw [e,FL] at hA';refine ⟨?_,?_,?_⟩
 ·refine LG ?_ m.perm;rw [Jk,Jb,<- E9];refine IE _ ?_
  conv=>rhs; rw [e]
  rw [E9,E9];exact Hq _ JR
 ·rw [Jk,Jb,FL];exact ⟨hA'.2.1,m.srt,fun x hx y hy=>m.le_ y (Ga.mp hy) x (Ff _ (GP hx))⟩
 ·intro x hx y hy;rcases E_.mp hx with hx | hx
  ·refine m.le_ x hx y ?_;rcases E_.mp hy with hy | hy
   ·exact Ff _ (by rw [e]; exact Ff _ hy)
   ·exact E3 _ hy
  ·have hx:=Ga.mp hx;rcases E_.mp hy with hy | hy
   ·exact hA'.2.2 y hy x hx
   ·exact h x hx y hy
theorem Mh.b {lt:B_->B_->Bool} {a b out:List B_} {na nb:Nat} (m:Mh lt a b out na nb) (hB:b.Pairwise (Le lt)) (i:Nat) (hi:i<=nb) (h:∀ x∈(b.take nb).drop i,∀ y∈a.take na,Le lt y x) :
  Mh lt a b (out++((b.take nb).drop i).reverse) na i:=by
 have e:=fZ b hi;have hB':=Fd (GG nb b) hB;rw [e,FL] at hB';refine ⟨?_,?_,?_⟩
 ·refine LG ?_ m.perm;rw [Jk,Jb,<- E9];refine IE _ ?_
  conv=>rhs; rw [e]
  rw [E9]
 ·rw [Jk,Jb,FL];exact ⟨hB'.2.1,m.srt,fun x hx y hy=>m.le_ y (Ga.mp hy) x (E3 _ (GP hx))⟩
 ·intro x hx y hy;rcases E_.mp hx with hx | hx
  ·refine m.le_ x hx y ?_;rcases E_.mp hy with hy | hy
   ·exact Ff _ hy
   ·exact E3 _ (by rw [e]; exact Ff _ hy)
  ·have hx:=Ga.mp hx;rcases E_.mp hy with hy | hy
   ·exact h x hx y hy
   ·exact hB'.2.2 y hy x hx
theorem Mh.endA {lt:B_->B_->Bool} {a b out:List B_} {na nb:Nat} (m:Mh lt a b out na nb) (hB:b.Pairwise (Le lt)) (h:na=0):Res lt a b (a.take na++b.take nb++out.reverse):=by
 subst h;refine ⟨m.perm,?_⟩;rw [IG,IX,FL];exact ⟨Fd (GG _ _) hB,m.srt,fun x hx y hy=>m.le_ y (Ga.mp hy) x (E3 _ hx)⟩
theorem Mh.endB {lt:B_->B_->Bool} {a b out:List B_} {na nb:Nat} (m:Mh lt a b out na nb) (hA:a.Pairwise (Le lt)) (h:nb=0):Res lt a b (a.take na++b.take nb++out.reverse):=by
 subst h;refine ⟨m.perm,?_⟩;rw [IG,FH,FL];exact ⟨Fd (GG _ _) hA,m.srt,fun x hx y hy=>m.le_ y (Ga.mp hy) x (Ff _ hx)⟩
theorem Mh.first {lt:B_->B_->Bool} {a b out:List B_} {na nb:Nat} (m:Mh lt a b out na nb) (hA:a.Pairwise (Le lt)) (hB:b.Pairwise (Le lt)) (h:∀ y∈b.take nb,∀ x∈a.take na,Le lt y x):Res lt a b (b.take nb++a.take na++out.reverse):=by
 refine ⟨(IE _ JR).trans m.perm,?_⟩;rw [FL,FL];refine ⟨⟨Fd (GG _ _) hB,Fd (GG _ _) hA,h⟩,m.srt,fun x hx y hy=>m.le_ y (Ga.mp hy) x ?_⟩;rcases E_.mp hx with hx | hx
 ·exact E3 _ hx
 ·exact Ff _ hx
theorem gY {l:List B_} {i:Nat} (h:i<l.length):(l.take (i+1)).drop i=[l[i]]:=by
 rw [Js,show i+1 - i=1 by omega,gR h]
theorem i9 {lt:B_->B_->Bool} (L:cN lt) {l:List B_} (hl:l.Pairwise (Le lt)) {i:Nat} (h:i<l.length) {x:B_} (hx:Le lt l[i] x):∀ y∈l.take (i+1),Le lt y x:=by
 intro y hy;rw [fZ l (HU i),gY h] at hy;rcases E_.mp hy with hy | hy
 ·have h2:=Fd (GG (i+1) l) hl;rw [fZ l (HU i),gY h,FL] at h2;exact L.trans (h2.2.2 y hy _ (A_.mpr rfl)) hx
 ·rw [A_.mp hy]; exact hx
theorem Mh.pushA {lt:B_->B_->Bool} (L:cN lt) {a b out:List B_} {na nb:Nat} (m:Mh lt a b out (na+1) nb) (hA:a.Pairwise (Le lt)) (h:na<a.length) (hle:∀ y∈b.take nb,Le lt y a[na]):Mh lt a b (out++[a[na]]) na nb:=by
 have:=m.a hA na (HU _) (by
  intro x hx y hy;rw [gY h] at hx;rw [A_.mp hx];exact hle y hy)
 rw [gY h] at this;exact this
theorem Mh.pushB {lt:B_->B_->Bool} (L:cN lt) {a b out:List B_} {na nb:Nat} (m:Mh lt a b out na (nb+1)) (hB:b.Pairwise (Le lt)) (h:nb<b.length) (hle:∀ y∈a.take na,Le lt y b[nb]):Mh lt a b (out++[b[nb]]) na nb:=by
 have:=m.b hB nb (HU _) (by
  intro x hx y hy;rw [gY h] at hx;rw [A_.mp hx];exact hle y hy)
 rw [gY h] at this;exact this
theorem bx (a:Array B_) (n:Nat):(a.extract 0 n).toList=a.toList.take n:=by
 rw [JZ,Iw,IJ]; rfl
theorem ur (a:Array B_) (i n:Nat):(a.extract i n).reverse.toList=((a.toList.take n).drop i).reverse:=by
 rw [GY,JZ,Iw,Js]
noncomputable abbrev CH1:=Option (Array B_)×Nat×Nat×Array B_×Nat
noncomputable abbrev CH2:=Option (Array B_)×Nat×Nat×Array B_×Nat×Nat
noncomputable abbrev CH3:=Option (Array B_)×Nat×Nat×Array B_×Nat×Nat×Nat
section
variable {M:Jo} {A:Fv} {E:χ->AU->Prop} {s:AU}
theorem rO {κ:Gs} {S:B_->Prop} {lt:B_->B_->Bool} (L:cN lt) (H:iS M A E s κ S lt) {a b:Array B_} {Q:Array B_->GA->Prop} {st:GA} (hk:G0 st=κ)
  (hA:a.toList.Pairwise (Le lt)) (hB:b.toList.Pairwise (Le lt)) (sA:∀ x∈a.toList,S x) (sB:∀ x∈b.toList,S x) (na0:0<a.size) (nb0:0<b.size)
  (h0:∀ x∈a.toList,Le lt b[0] x) (hl:∀ y∈b.toList,∀ x∈a.toList.drop (a.size - 1),Le lt y x)
  (h:∀ r st',Sim st st'->Res lt a.toList b.toList r.toList->Q r st'):MJ M A E s (qA a b) Q st:=by
 have lA:a.toList.length=a.size:=FT;have lB:b.toList.length=b.size:=FT;have atA:∀ i (hi:i<a.size),a[i]?=some a[i]:=fun i hi=>getElem?_pos a i hi;have atB:∀ i (hi:i<b.size),b[i]?=some b[i]:=fun i hi=>getElem?_pos b i hi;have memA:∀ i (hi:i<a.size),S a[i]:=fun i hi=>sA _ (IB hi);have memB:∀ i (hi:i<b.size),S b[i]:=fun i hi=>sB _ (IB hi)
 have m0:Mh lt a.toList b.toList [a[a.size - 1]] (a.size - 1) b.size:=by
  have e1:a.size - 1+1=a.size:=by omega
  have:=Mh.pushA L (lt:=lt) (a:=a.toList) (b:=b.toList) (out:=[]) (na:=a.size - 1) (nb:=b.size) (by
   rw [e1];refine ⟨?_,Gq,fun x hx=>nomatch hx⟩;rw [FG (by omega),FG (by omega),List.reverse_nil,FH]) hA (by omega) (by
   intro y hy;refine hl y (Fp hy) _ ?_;rw [F8 (by omega)];exact θ)
  exact this
 have first:∀ {out:List B_} {na nb:Nat},Mh lt a.toList b.toList out na nb->nb=1->Res lt a.toList b.toList (b.toList.take nb++a.toList.take na++out.reverse):=by
  intro out na nb m e;refine m.first hA hB fun y hy x hx=>?_;subst e;rw [show b.toList.take 1=[b[0]] by have:=gR (l:=b.toList) (i:=0) (by omega); exact this] at hy;rw [A_.mp hy];exact h0 x (Fp hx)
 unfold qA;refine EZ (Kp (G4 ⟨rfl,?_⟩));dsimp only;refine EZ (aX (atA (a.size - 1) (by omega)) ?_);refine a7 (fun c1=>?_) (fun c1=>?_)
 ·refine E7 (h _ _ (Sim.refl _) ?_);rw [EY,EY,bx,bx,GY];exact m0.endA hB (beq_iff_eq.mp c1)
 have c1:a.size - 1≠0:=fun e=>c1 (beq_iff_eq.mpr e);refine a7 (fun c2=>?_) (fun c2=>?_)
 ·refine E7 (h _ _ (Sim.refl _) ?_);rw [EY,EY,bx,bx,GY];exact first m0 (beq_iff_eq.mp c2)
 have c2:b.size≠1:=fun e=>c2 (beq_iff_eq.mpr e);refine EZ (JU ?_);refine EZ (Hg (GQ
  (I:=fun X (c:CH1) st'=>Sim st st'/\c.1=none/\Mh lt a.toList b.toList c.2.2.2.1.toList c.2.1 c.2.2.1/\0<c.2.1/\c.2.1<=a.size/\1<c.2.2.1/\c.2.2.1<=b.size/\X+1+c.2.1+c.2.2.1<=a.size+b.size)
  (Q:=fun (c:CH1) st'=>Sim st st'/\∃ r,c.1=some r/\Res lt a.toList b.toList r.toList) ?step ?fin ⟨Sim.refl _,rfl,m0,by show 0<a.size - 1; omega,by show a.size - 1<=a.size; omega,by show 1<b.size; omega,BE _,by show 0+1+(a.size - 1)+b.size<=a.size+b.size; omega⟩) ?post)
 case post =>
  refine wY fun c na nb out g=>?_;rintro st' ⟨sm,r,e,hr⟩;dsimp only at e ⊢;subst e;exact E7 (h r _ sm hr)
 case fin =>
  refine wY fun c na nb out g=>?_;intro st' hh;have sm:=hh.1;have e:=hh.2.1;have m:=hh.2.2.1;have h1:=hh.2.2.2.1;have h2:=hh.2.2.2.2.1;have h3:=hh.2.2.2.2.2.1;have h4:=hh.2.2.2.2.2.2.1;have h5:=hh.2.2.2.2.2.2.2;clear hh;dsimp only at h1 h2 h3 h4 h5;exfalso
  omega
 case step =>
  intro X;refine wY fun c na nb out g=>?_;intro st1 _ hX hh;have sm:=hh.1;have e:=hh.2.1;have m:=hh.2.2.1;have h1:=hh.2.2.2.1;have h2:=hh.2.2.2.2.1;have h3:=hh.2.2.2.2.2.1;have h4:=hh.2.2.2.2.2.2.1;have h5:=hh.2.2.2.2.2.2.2;clear hh;dsimp only at e m h1 h2 h3 h4 h5 ⊢;refine EZ (Hg (GQ
   (I:=fun x (c:CH2) st'=>Sim st st'/\c.1=none/\Mh lt a.toList b.toList c.2.2.2.1.toList c.2.1 c.2.2.1/\0<c.2.1/\c.2.1<=a.size/\1<c.2.2.1/\c.2.2.1<=b.size/\x+c.2.1+c.2.2.1<=na+nb)
   (Q:=fun (c:CH2) st'=>Sim st st'/\((∃ r,c.1=some r/\Res lt a.toList b.toList r.toList)\/(c.1=none/\Mh lt a.toList b.toList c.2.2.2.1.toList c.2.1 c.2.2.1/\0<c.2.1/\c.2.1<=a.size/\1<c.2.2.1/\c.2.2.1<=b.size/\1+c.2.1+c.2.2.1<=na+nb))) ?step ?fin ⟨sm,rfl,m,h1,h2,h3,h4,by show 0+na+nb<=na+nb; omega⟩) ?post)
  case fin =>
   refine wZ fun c na' nb' out ac bc=>?_;intro st' hh;have sm:=hh.1;have e:=hh.2.1;have m:=hh.2.2.1;have k1:=hh.2.2.2.1;have k2:=hh.2.2.2.2.1;have k3:=hh.2.2.2.2.2.1;have k4:=hh.2.2.2.2.2.2.1;have k5:=hh.2.2.2.2.2.2.2;clear hh;dsimp only at e m k1 k2 k3 k4 k5 ⊢;exact ⟨sm,.inr ⟨e,m,k1,k2,k3,k4,by omega⟩⟩
  case step =>
   clear m h1 h2 h3 h4 sm;intro x;refine wZ fun c na' nb' out ac bc=>?_;intro st2 _ hx hh;have sm:=hh.1;have e:=hh.2.1;have m:=hh.2.2.1;have k1:=hh.2.2.2.1;have k2:=hh.2.2.2.2.1;have k3:=hh.2.2.2.2.2.1;have k4:=hh.2.2.2.2.2.2.1;have k5:=hh.2.2.2.2.2.2.2;clear hh;dsimp only at e m k1 k2 k3 k4 k5 ⊢;generalize epa:na' - 1=pa;obtain rfl:na'=pa+1:=by omega
   clear epa;generalize epb:nb' - 1=pb;obtain rfl:nb'=pb+1:=by omega
   clear epb;refine EZ (aX (atB pb (by omega)) ?_);refine EZ (aX (atA pa (by omega)) ?_);refine EZ (H _ _ _ _ (memB _ (by omega)) (memA _ (by omega)) (sm.kind.trans hk) ?_);dsimp only
   cases hb:lt b[pb] a[pa] with
   | true =>
    rw [if_pos rfl];refine EZ (aX (atA pa (by omega)) ?_)
    have m2:Mh lt a.toList b.toList (out.push a[pa]).toList pa (pb+1):=by
     rw [Gz];exact m.pushA L hA (by omega) (i9 L hB (by omega) (L.of_lt hb))
    refine a7 (fun d1=>?_) (fun d1=>?_)
    ·refine E7 ⟨sm,.inl ⟨_,rfl,?_⟩⟩;rw [EY,EY,bx,bx,GY];exact m2.endA hB (beq_iff_eq.mp d1)
    ·have d1:pa≠0:=fun e=>d1 (beq_iff_eq.mpr e);refine a7 (fun _=>?_) (fun _=>?_)
     ·exact E7 ⟨sm,.inr ⟨rfl,m2,by show 0<pa; omega,by show pa<=a.size; omega,k3,k4,by show 1+pa+(pb+1)<=na+nb; omega⟩⟩
     ·exact E7 ⟨sm,rfl,m2,by show 0<pa; omega,by show pa<=a.size; omega,k3,k4,by show x+1+pa+(pb+1)<=na+nb; omega⟩
   | false =>
    rw [if_neg (by simp)];refine EZ (aX (atB pb (by omega)) ?_)
    have m2:Mh lt a.toList b.toList (out.push b[pb]).toList (pa+1) pb:=by
     rw [Gz];exact m.pushB L hB (by omega) (i9 L hA (by omega) hb)
    refine a7 (fun d1=>?_) (fun d1=>?_)
    ·refine E7 ⟨sm,.inl ⟨_,rfl,?_⟩⟩;rw [EY,EY,bx,bx,GY];exact first m2 (beq_iff_eq.mp d1)
    ·have d1:pb≠1:=fun e=>d1 (beq_iff_eq.mpr e);refine a7 (fun _=>?_) (fun _=>?_)
     ·exact E7 ⟨sm,.inr ⟨rfl,m2,k1,k2,by show 1<pb; omega,by show pb<=b.size; omega,by show 1+(pa+1)+pb<=na+nb; omega⟩⟩
     ·exact E7 ⟨sm,rfl,m2,k1,k2,by show 1<pb; omega,by show pb<=b.size; omega,by show x+1+(pa+1)+pb<=na+nb; omega⟩
  case post =>
   clear m h1 h2 h3 h4 sm;refine wZ fun c na' nb' out ac bc=>?_;rintro st2 ⟨sm,⟨r,e,hr⟩ | hh⟩
   ·dsimp only at e ⊢;subst e;exact E7 ⟨sm,r,rfl,hr⟩
   ·have e:=hh.1;have m:=hh.2.1;have k1:=hh.2.2.1;have k2:=hh.2.2.2.1;have k3:=hh.2.2.2.2.1;have k4:=hh.2.2.2.2.2.1;have k5:=hh.2.2.2.2.2.2;clear hh;dsimp only at e m k1 k2 k3 k4 k5 ⊢;subst e;refine EZ (Kp (G4 ⟨rfl,?_⟩));refine EZ (Hg (GQ
     (I:=fun x (c:CH3) st'=>Sim st st'/\c.1=none/\Mh lt a.toList b.toList c.2.2.2.1.toList c.2.1 c.2.2.1/\0<c.2.1/\c.2.1<=a.size/\1<c.2.2.1/\c.2.2.1<=b.size/\c.2.1+c.2.2.1<=na'+nb')
     (Q:=fun (c:CH3) st'=>Sim st st'/\((∃ r,c.1=some r/\Res lt a.toList b.toList r.toList)\/(c.1=none/\Mh lt a.toList b.toList c.2.2.2.1.toList c.2.1 c.2.2.1/\0<c.2.1/\c.2.1<=a.size/\1<c.2.2.1/\c.2.2.1<=b.size/\c.2.1+c.2.2.1<=na'+nb'))) ?step ?fin ⟨sm,rfl,m,k1,k2,k3,k4,BE _⟩) ?post)
    case fin =>
     refine xc fun c ja jb out g' ac bc=>?_;intro st' hh;have sm:=hh.1;have e:=hh.2.1;have m:=hh.2.2.1;have k:=hh.2.2.2;clear hh;exact ⟨sm,.inr ⟨e,m,k⟩⟩
    case post =>
     clear m k1 k2 k3 k4 sm;refine xc fun c ja jb out g' ac bc=>?_;rintro st3 ⟨sm,⟨r,e,hr⟩ | hh⟩
     ·dsimp only at e ⊢;subst e;exact E7 ⟨sm,r,rfl,hr⟩
     ·have e:=hh.1;have m:=hh.2.1;have k1:=hh.2.2.1;have k2:=hh.2.2.2.1;have k3:=hh.2.2.2.2.1;have k4:=hh.2.2.2.2.2.1;have k6:=hh.2.2.2.2.2.2;clear hh;dsimp only at e m k1 k2 k3 k4 k6 ⊢;subst e;refine EZ (Hr ?_);exact E7 ⟨sm.trans ⟨rfl,rfl,rfl,rfl⟩,rfl,m,k1,k2,k3,k4,by show X+1+1+ja+jb<=a.size+b.size; omega⟩
    case step =>
     clear m k1 k2 k3 k4 sm;intro x;refine xc fun c ja jb out g' ac bc=>?_;intro st3 _ hx hh;have sm:=hh.1;have e:=hh.2.1;have m:=hh.2.2.1;have k1:=hh.2.2.2.1;have k2:=hh.2.2.2.2.1;have k3:=hh.2.2.2.2.2.1;have k4:=hh.2.2.2.2.2.2.1;have k6:=hh.2.2.2.2.2.2.2;clear hh;dsimp only at e m k1 k2 k3 k4 k6 ⊢;generalize epb:jb - 1=pb;obtain rfl:jb=pb+1:=by omega
     clear epb;apply jU
     ·intro gg j;generalize g' - 1=gn
      revert gn
      exact j
     ·intro gg j;exact j g'
     intro gn;refine EZ (Hr ?_);refine EZ (aX (atB pb (by omega)) ?_);refine EZ (hG (b:=0) (n:=ja) L H (sm.kind.trans hk) (memB pb (by omega)) (by omega) (fun x hx=>sA x (GP (Fp hx))) (Fd ((GG _ _).trans (Gh _ _)) hA) (by omega) ?_);intro i kn hle hge;rw [IJ] at hle hge;dsimp only;apply jU
     ·intro kp
      have m2:Mh lt a.toList b.toList (out++(a.extract i ja).reverse).toList i (pb+1):=by
       rw [EY,ur];exact m.a hA i kn (fun x hx=>i9 L hB (by omega) (hge x hx))
      by_cases d1:(i==0)=true
      ·intro j;clear j;refine hV d1 ?_;refine E7 ⟨sm.trans ⟨rfl,rfl,rfl,rfl⟩,.inl ⟨_,rfl,?_⟩⟩;rw [EY,EY,bx,bx,GY];exact m2.endA hB (beq_iff_eq.mp d1)
      have d2:i≠0:=fun e=>d1 (beq_iff_eq.mpr e);have kk:0<i/\i<=a.size/\i+(pb+1)<=na'+nb':=⟨by omega,by omega,by omega⟩
      intro j;refine eY d1 ?_;generalize out++(a.extract i ja).reverse=out2 at m2 ⊢;generalize ja - i=u1
      revert u1
      revert kk
      revert m2
      revert out2
      exact j
     ·intro kp;have k0:i=ja:=by omega
      subst k0;intro j;exact j out m ⟨k1,k2,k6⟩ _
     intro out2 m2 kk u1;clear m hge kn k6;obtain ⟨k1,k2,k6⟩:=kk;generalize epa:i - 1=pa;obtain rfl:i=pa+1:=by omega
     clear epa;refine EZ (aX (atB pb (by omega)) ?_)
     have m3:Mh lt a.toList b.toList (out2.push b[pb]).toList (pa+1) pb:=by
      rw [Gz];exact m2.pushB L hB (by omega) hle
     refine a7 (fun d1=>?_) (fun d1=>?_)
     ·refine E7 ⟨sm.trans ⟨rfl,rfl,rfl,rfl⟩,.inl ⟨_,rfl,?_⟩⟩;rw [EY,EY,bx,bx,GY];exact first m3 (beq_iff_eq.mp d1)
     have d1:pb≠1:=fun e=>d1 (beq_iff_eq.mpr e);refine EZ (aX (atA pa (by omega)) ?_);refine EZ (hG (b:=0) (n:=pb) L H (sm.kind.trans hk) (memA pa (by omega)) (by omega) (fun x hx=>sB x (GP (Fp hx))) (Fd ((GG _ _).trans (Gh _ _)) hB) (by omega) ?_);intro i' kn' hle' hge';rw [IJ] at hle' hge';dsimp only;apply jU
     ·intro kp'
      have m4:Mh lt a.toList b.toList (out2.push b[pb]++(b.extract i' pb).reverse).toList (pa+1) i':=by
       rw [EY,ur];exact m3.b hB i' kn' (fun x hx=>i9 L hA (by omega) (hge' x hx))
      by_cases d3:(i'==1)=true
      ·intro j;clear j;refine hV d3 ?_;refine E7 ⟨sm.trans ⟨rfl,rfl,rfl,rfl⟩,.inl ⟨_,rfl,?_⟩⟩;rw [EY,EY,bx,bx,GY];exact first m4 (beq_iff_eq.mp d3)
      by_cases d5:(i'==0)=true
      ·intro j;clear j;refine eY d3 (hV d5 ?_);refine E7 ⟨sm.trans ⟨rfl,rfl,rfl,rfl⟩,.inl ⟨_,rfl,?_⟩⟩;rw [EY,EY,bx,bx,GY];exact m4.endB hA (beq_iff_eq.mp d5)
      have d6:i'≠1:=fun e=>d3 (beq_iff_eq.mpr e);have d7:i'≠0:=fun e=>d5 (beq_iff_eq.mpr e);have kk:1<i':=by omega
      have hpb:pb<b.size:=by omega
      generalize out2.push (b[pb]'hpb)++(b.extract i' pb).reverse=out3 at m4 ⊢;generalize pb - i'=u2;intro j;refine eY d3 (eY d5 ?_)
      revert u2
      revert kk
      revert m4
      revert out3
      exact j
     ·intro kp';have k0':i'=pb:=by omega
      subst k0';have kk:1<i':=by omega
      intro j;exact j _ m3 kk _
     intro out3 m4 kk u2;refine EZ (aX (atA pa (by omega)) ?_)
     have m6:Mh lt a.toList b.toList (out3.push a[pa]).toList pa i':=by
      rw [Gz];exact m4.pushA L hA (by omega) hle'
     refine a7 (fun d4=>?_) (fun d4=>?_)
     ·refine E7 ⟨sm.trans ⟨rfl,rfl,rfl,rfl⟩,.inl ⟨_,rfl,?_⟩⟩;rw [EY,EY,bx,bx,GY];exact m6.endA hB (beq_iff_eq.mp d4)
     have d4:pa≠0:=fun e=>d4 (beq_iff_eq.mpr e);have kz:0<pa/\pa<=a.size/\1<i'/\i'<=b.size/\pa+i'<=na'+nb':=⟨by omega,by omega,kk,by omega,by omega⟩
     refine a7 (fun _=>?_) (fun _=>?_)
     ·exact E7 ⟨sm.trans ⟨rfl,rfl,rfl,rfl⟩,.inr ⟨rfl,m6,kz⟩⟩
     ·exact E7 ⟨sm.trans ⟨rfl,rfl,rfl,rfl⟩,rfl,m6,kz⟩
end
end Ts
namespace Ts
open PySem PyProof.Rows
noncomputable def seg (xs:Array B_) (i n:Nat):List Keyed:=(xs.toList.drop i).take n
theorem eX {xs:Array B_} {i n:Nat} (h:i+n<=xs.size):(seg xs i n).length=n:=by
 unfold seg;rw [Fl,Fw,FT]; omega
theorem kM {xs:Array B_} {i n k:Nat} (h:k<=n):seg xs i n=seg xs i k++seg xs (i+k) (n - k):=by
 unfold seg;have:=GI k ((xs.toList.drop i).take n)
 rw [MD,G2 h,Js,Hv] at this;exact this.symm
theorem zZ (xs:Array B_) (i n:Nat):xs.toList=xs.toList.take i++seg xs i n++xs.toList.drop (i+n):=by
 unfold seg;have h1:=GI i xs.toList;have h2:=GI n (xs.toList.drop i);rw [Hv] at h2;rw [E9,h2,h1]
theorem laid (sa:Nat):∀ (m:List B_) (n:Nat) (xs:Array B_),sa+n+m.length<=xs.size ->
  ((m.zipIdx n).foldl (fun a (q:B_×Nat)=>a.setIfInBounds (sa+q.2) q.1) xs).toList=xs.toList.take (sa+n)++m++xs.toList.drop (sa+n+m.length)
 | [],n,xs,_=>by
  rw [Lq,List.foldl_nil,FH,Km,Nat.add_zero,GI]
 | x::m,n,xs,h=>by
  rw [EX] at h;rw [Lc,List.foldl_cons,laid sa m (n+1) _ (by rw [Array.size_setIfInBounds]; omega)];rw [L_];have hl:sa+n<xs.toList.length:=by rw [FT]; omega
  have e1:(xs.toList.set (sa+n) x).take (sa+(n+1))=xs.toList.take (sa+n)++[x]:=by
   rw [<- Nat.add_assoc,List.take_succ,List.take_set_of_le (BE _),JH hl]; rfl
  have e2:(xs.toList.set (sa+n) x).drop (sa+(n+1)+m.length)=xs.toList.drop (sa+n+(m.length+1)):=by
   rw [List.drop_set_of_lt (by omega)]
   congr 1
   omega
  rw [e1,e2,E9,E9,E9]; rfl
section
variable {M:Jo} {A:Fv} {E:χ->AU->Prop} {s:AU}
theorem BO {σ:Type} {x st:σ} {Q:PUnit->σ->Prop} (h:Q ⟨⟩ x):MJ M A E s (set x:StateT σ LD PUnit) Q st:=by
 unfold MJ; rw [StateT.run_set]; exact D_ ⟨rfl,h⟩
def Chg (xs ys:Array B_) (i n:Nat) (m:List B_):Prop:=m.Perm (seg xs i n)/\ys.toList=xs.toList.take i++m++xs.toList.drop (i+n)
theorem rN {κ:Gs} {S:B_->Prop} {lt:B_->B_->Bool} (L:cN lt) (H:iS M A E s κ S lt) {i sa na w1 nb w2:Nat} {Q:Bool->GA->Prop} {st:GA} (hk:G0 st=κ) (hf:Hi st=none)
    (h1:(FY st)[i]?=some (sa,na,w1)) (h2:(FY st)[i+1]?=some (sa+na,nb,w2)) (na0:0<na) (nb0:0<nb) (hz:sa+na+nb<=(FO st).size)
    (hA:(seg (FO st) sa na).Pairwise (Le lt)) (hB:(seg (FO st) (sa+na) nb).Pairwise (Le lt)) (hS:∀ x∈(FO st).toList,S x)
    (h:∀ st' m,G0 st'=κ->Hi st'=none->FY st'=((FY st).setIfInBounds i (sa,na+nb,w1)).eraseIdxIfInBounds (i+1)->Chg (FO st) (FO st') sa (na+nb) m->m.Pairwise (Le lt)->Q true st') :
    MJ M A E s (mergeAt' i) Q st:=by
  cases st
  rename_i kd xs pd g f;dsimp only [FO,G0,FY,Hi] at hk hf h1 h2 hz hA hB hS h;subst hk hf;have memS:∀ i (hi:i<xs.size),S xs[i]:=fun i hi=>hS _ (IB hi);have at_:∀ i (hi:i<xs.size),xs[i]?=some xs[i]:=fun i hi=>getElem?_pos xs i hi;have segS:∀ i n,∀ x∈seg xs i n,S x:=fun i n x hx=>hS x (GP (Fp hx))
  have stay:∀ st',G0 st'=kd->Hi st'=none->FY st'=(pd.setIfInBounds i (sa,na+nb,w1)).eraseIdxIfInBounds (i+1)->FO st'=xs->(seg xs sa na++seg xs (sa+na) nb).Pairwise (Le lt)->Q true st':=by
    intro st' e1 e2 e3 e4 hs;have e5:=kM (xs:=xs) (i:=sa) (n:=na+nb) (k:=na) (by omega);rw [Mq] at e5;refine h st' _ e1 e2 e3 ⟨NH e5.symm,?_⟩ hs
    show (FO st').toList=_
    rw [e4,<- e5];exact zZ xs sa (na+nb)
  have hb0:∀ {x:B_},Le lt x xs[sa+na]->∀ y∈seg xs (sa+na) nb,Le lt x y:=by
    intro x hx y hy;have hlen:=eX (xs:=xs) (i:=sa+na) (n:=nb) (by omega)
    have e:(seg xs (sa+na) nb)[0]=xs[sa+na]:=by
      unfold seg;rw [LN,J0];rfl
    exact i8 L hB (i:=0) (by omega) (by rw [e]; exact hx) y hy
  unfold mergeAt';refine EZ (JU ?_);dsimp only;rw [h1,h2];refine EZ (BO ?_);refine EZ (aX (at_ (sa+na) (by omega)) ?_);refine EZ (hG (b:=sa) (n:=na) L H rfl (memS _ (by omega)) (by omega) (segS sa na) hA na0 ?_);intro k kn hle hge;dsimp only;have hlenA:=eX (xs:=xs) (i:=sa) (n:=na) (by omega);have eA:=kM (xs:=xs) (i:=sa) (n:=na) (k:=k) kn;have hA2:=hA;rw [eA,FL] at hA2
  have hge:∀ x∈seg xs (sa+k) (na - k),Le lt xs[sa+na] x:=by
    have:((xs.toList.drop sa).take na).drop k=seg xs (sa+k) (na - k):=by
      unfold seg; rw [Js,Hv]
    rw [this] at hge;exact hge
  have hle:∀ x∈seg xs sa k,Le lt x xs[sa+na]:=hle;by_cases c1:(na - k==0)=true
  · rw [if_pos c1]
    have c1:=beq_iff_eq.mp c1;have:k=na:=by omega
    subst this;refine E7 (stay _ rfl rfl rfl rfl ?_);rw [FL];exact ⟨hA,hB,fun x hx=>hb0 (hle x hx)⟩
  rw [if_neg c1];have c1:na - k≠0:=fun e=>c1 (beq_iff_eq.mpr e);have el:sa+k+(na - k) - 1=sa+na - 1:=by omega
  rw [el];refine EZ (aX (at_ (sa+na - 1) (by omega)) ?_);refine EZ (hG (b:=sa+na) (n:=nb) L H rfl (memS _ (by omega)) (by omega) (segS (sa+na) nb) hB (by omega) ?_);intro k' kn' hle' hge';dsimp only
  have hge':∀ x∈seg xs (sa+na+k') (nb - k'),Le lt xs[sa+na - 1] x:=by
    have:((xs.toList.drop (sa+na)).take nb).drop k'=seg xs (sa+na+k') (nb - k'):=by
      unfold seg; rw [Js,Hv]
    rw [this] at hge';exact hge'
  have hle':∀ x∈seg xs (sa+na) k',Le lt x xs[sa+na - 1]:=hle'
  have lastA:∀ {y:B_},Le lt xs[sa+na - 1] y->∀ x∈seg xs sa na,Le lt x y:=by
    intro y hy x hx
    have e:(seg xs sa na)[na - 1]=xs[sa+na - 1]:=by
      unfold seg;rw [LN,J0,NB]
      congr 1
      omega
    have:=i9 L hA (i:=na - 1) (by omega) (by rw [e]; exact hy) x
    rw [show na - 1+1=na by omega,FG (by omega)] at this;exact this hx
  by_cases c2:(k'==0)=true
  · rw [if_pos c2]
    have c2:=beq_iff_eq.mp c2;subst c2;refine E7 (stay _ rfl rfl rfl rfl ?_);rw [FL];exact ⟨hA,hB,fun x hx y hy=>lastA (hge' y hy) x hx⟩
  rw [if_neg c2];have c2:k'≠0:=fun e=>c2 (beq_iff_eq.mpr e);have eB:=kM (xs:=xs) (i:=sa+na) (n:=nb) (k:=k') kn';have hB2:=hB;rw [eB,FL] at hB2
  have exx:(xs.extract (sa+k) (sa+na)).toList=seg xs (sa+k) (na - k):=by
    have:=fG xs (sa+k) (na - k) (by omega)
    rw [show sa+k+(na - k)=sa+na by omega] at this;exact this
  have exy:(xs.extract (sa+na) (sa+na+k')).toList=seg xs (sa+na) k':=fG xs (sa+na) k' (by omega);have sx:(xs.extract (sa+k) (sa+na)).size=na - k:=by rw [NT]; omega
  have sy:(xs.extract (sa+na) (sa+na+k')).size=k':=by rw [NT]; omega
  have fin:∀ (r:Array B_) (st':GA),Sim (Lp kd xs ((pd.setIfInBounds i (sa,na+nb,w1)).eraseIdxIfInBounds (i+1)) g none) st'->Res lt (seg xs (sa+k) (na - k)) (seg xs (sa+na) k') r.toList ->
      Q true (setArr st' (Nf (fun a (x:B_×Nat)=>a.setIfInBounds (sa+k+x.2) x.1) (FO st') r.toList.zipIdx)):=by
    intro r st' sm hr;have lr:r.toList.length=na - k+k':=by rw [hr.1.length_eq,BG,eX (by omega),eX (by omega)]
    refine h _ (seg xs sa k++r.toList++seg xs (sa+na+k') (nb - k')) sm.kind sm.failed sm.pend ⟨?_,?_⟩ ?_
    · have e5:=kM (xs:=xs) (i:=sa) (n:=na+nb) (k:=na) (by omega)
      rw [Mq,eA,eB] at e5;rw [e5,E9,E9];refine Hq _ ?_;rw [<- E9];exact IE _ hr.1
    · show (Nf _ (FO st') _).toList=_
      rw [sm.arr]
      show (Nf _ xs _).toList=_
      have:=laid (sa+k) r.toList 0 xs (by omega)
      rw [Nat.add_zero,lr] at this;refine this.trans ?_;have e1:xs.toList.take (sa+k)=xs.toList.take sa++seg xs sa k:=by unfold seg; rw [List.take_add]
      have e2:xs.toList.drop (sa+k+(na - k+k'))=seg xs (sa+na+k') (nb - k')++xs.toList.drop (sa+(na+nb)):=by
        unfold seg;have:=GI (nb - k') (xs.toList.drop (sa+na+k'))
        rw [Hv] at this;rw [show sa+k+(na - k+k')=sa+na+k' by omega,show sa+(na+nb)=sa+na+k'+(nb - k') by omega];exact this.symm
      rw [e1,e2];simp only [E9]
    · rw [E9,FL,FL]
      have mem:∀ y∈r.toList,y∈seg xs (sa+k) (na - k)\/y∈seg xs (sa+na) k':=fun y hy=>E_.mp (hr.1.mem_iff.mp hy);refine ⟨hA2.1,⟨hr.2,hB2.2.1,fun x hx y hy=>?_⟩,fun x hx y hy=>?_⟩
      · rcases mem x hx with hx | hx
        · exact lastA (hge' y hy) x (by rw [eA]; exact E3 _ hx)
        · exact hB2.2.2 x hx y hy
      · rcases E_.mp hy with hy | hy
        · rcases mem y hy with hy | hy
          · exact hA2.2.2 x hx y hy
          · exact hb0 (hle x hx) y (by rw [eB]; exact Ff _ hy)
        · exact hb0 (hle x hx) y (by rw [eB]; exact E3 _ hy)
  have e0:∀ (h0:0<(xs.extract (sa+na) (sa+na+k')).size),(xs.extract (sa+na) (sa+na+k'))[0]=xs[sa+na]:=fun h0=>by
    rw [Array.getElem_extract]; rfl
  have eL:∀ y∈seg xs (sa+na) k',∀ x∈(seg xs (sa+k) (na - k)).drop (na - k - 1),Le lt y x:=by
    intro y hy x hx
    have e:(seg xs (sa+k) (na - k)).drop (na - k - 1)=[xs[sa+na - 1]]:=by
      have hl:=eX (xs:=xs) (i:=sa+k) (n:=na - k) (by omega);rw [F8 (by omega),IU (by omega)]
      congr 1
      unfold seg;rw [LN,J0,NB]
      congr 1
      omega
    rw [e] at hx;rw [A_.mp hx];exact hle' y hy
  by_cases c3:na - k<=k'
  · rw [if_pos c3]
    refine EZ (rP L H rfl (by rw [exx]; exact hA2.2.1) (by rw [exy]; exact hB2.1) (by rw [exx]; exact segS _ _) (by rw [exy]; exact segS _ _) (by rw [sx]; omega) (by rw [sy]; omega) (by rw [exx,e0]; exact hge) (by rw [exx,exy,sx]; exact eL) fun r st' sm hr=>?_);rw [exx,exy] at hr;refine EZ (Hr ?_);refine EZ (JU ?_);have:=fin r st' sm hr
    refine E7 ?_;have ef:Hi st'=none:=sm.failed
    show Q (Option.isNone (Hi st')) _
    rw [ef];exact this
  · rw [if_neg c3]
    refine EZ (rO L H rfl (by rw [exx]; exact hA2.2.1) (by rw [exy]; exact hB2.1) (by rw [exx]; exact segS _ _) (by rw [exy]; exact segS _ _) (by rw [sx]; omega) (by rw [sy]; omega) (by rw [exx,e0]; exact hge) (by rw [exx,exy,sx]; exact eL) fun r st' sm hr=>?_);rw [exx,exy] at hr;refine EZ (Hr ?_);refine EZ (JU ?_);have:=fin r st' sm hr
    refine E7 ?_;have ef:Hi st'=none:=sm.failed
    show Q (Option.isNone (Hi st')) _
    rw [ef];exact this
end
end Ts
namespace Ts
open PySem PyProof.Rows
noncomputable def at' (xs:Array B_) (i:Nat):Keyed:=(xs[i]?).getD (.none,.none)
theorem gd {xs ys:Array B_} {i j:Nat} (h:xs[i]?=ys[j]?):at' xs i=at' ys j:=by unfold at'; rw [h]
theorem nR {xs:Array B_} {i:Nat} (h:i<xs.size):xs[i]?=some (at' xs i):=by unfold at'; rw [getElem?_pos xs i h]; rfl
def Up (lt:B_->B_->Bool) (xs:Array B_) (lo n:Nat):Prop:=∀ p q,p<=q->q<n->Le lt (at' xs (lo+p)) (at' xs (lo+q))
def jx (lt:B_->B_->Bool) (xs:Array B_) (lo n:Nat):Prop:=∀ p q,p<=q->q<n->Le lt (at' xs (lo+q)) (at' xs (lo+p))
structure iT (xs ys:Array B_) (lo:Nat):Prop where
 perm:ys.Perm xs
 low:∀ j,j<lo->ys[j]?=xs[j]?
theorem iT.refl (xs:Array B_) (lo:Nat):iT xs xs lo:=⟨J1 _,fun _ _=>rfl⟩
theorem iT.trans {xs ys zs:Array B_} {lo:Nat} (h:iT xs ys lo) (h':iT ys zs lo):iT xs zs lo:=⟨h'.perm.trans h.perm,fun j hj=>(h'.low j hj).trans (h.low j hj)⟩
theorem iT.size {xs ys:Array B_} {lo:Nat} (h:iT xs ys lo):ys.size=xs.size:=h.perm.size_eq
theorem iT.mem {xs ys:Array B_} {lo:Nat} {S:B_->Prop} (h:iT xs ys lo) (hS:∀ x∈xs.toList,S x):∀ x∈ys.toList,S x:=fun x hx=>hS x ((Gi.mp h.perm).mem_iff.mp hx)
theorem eS {xs:Array B_} {lo i j:Nat} (hi:lo<=i) (hj:j<=xs.size):iT xs (Ju xs i j ((j - i) / 2)) lo:=by
 refine ⟨mirror_perm _ _ _ _,fun k hk=>?_⟩;rw [getElem?_mirror_all hj,if_neg (by omega)]
theorem dq {xs:Array B_} {i j:Nat} (hj:j<=xs.size) (k:Nat):at' (Ju xs i j ((j - i) / 2)) k=if i<=k/\k<j then at' xs (i+j - 1 - k) else at' xs k:=by
 have:=getElem?_mirror_all (i:=i) hj k
 by_cases h:i<=k/\k<j
 ·rw [if_pos h] at this ⊢; exact gd this
 ·rw [if_neg h] at this ⊢; exact gd this
theorem mW {xs:Array B_} {src d:Nat} (hs:src<xs.size) (hd:d<=src) (k:Nat):at' (bubble xs src d) k=if k=src - d then at' xs src else if src - d<k/\k<=src then at' xs (k - 1) else at' xs k:=by
 have:=getElem?_bubble hs d hd k
 by_cases h:k=src - d
 ·rw [if_pos h] at this ⊢; exact gd this
 ·rw [if_neg h] at this ⊢;by_cases h2:src - d<k/\k<=src
  ·rw [if_pos h2] at this ⊢; exact gd this
  ·rw [if_neg h2] at this ⊢; exact gd this
section
variable {M:Jo} {A:Fv} {E:χ->AU->Prop} {s:AU}
theorem hJ {κ:Gs} {S:B_->Prop} {lt:B_->B_->Bool} (H:iS M A E s κ S lt) {i j:Nat} {Q:Option Bool->GA->Prop} {st:GA} (hk:G0 st=κ) (hS:∀ x∈(FO st).toList,S x) (hi:i<(FO st).size) (hj:j<(FO st).size)
  (h:Q (some (lt (at' (FO st) i) (at' (FO st) j))) st):MJ M A E s (ltAt' i j) Q st:=by
 rw [ltAt'_eq];refine EZ (JU ?_);refine EZ (aX (nR hi) ?_);refine EZ (aX (nR hj) ?_);have m:∀ {i},i<(FO st).size->S (at' (FO st) i):=fun {i} hi=>hS _ (by rw [<- Array.mem_def]; exact Array.mem_of_getElem? (nR hi));exact H _ _ _ _ (m hi) (m hj) hk h
theorem kR {i j:Nat} {Q:Unit->GA->Prop} {st:GA} (h:Q () (setArr st (Ju (FO st) i j ((j - i) / 2)))):MJ M A E s (KZ i j) Q st:=by
 rw [reverseSlice'_eq]; exact Hr h
theorem BN {i j:Nat} {Q:Unit->GA->Prop} {st:GA} (h:Q () (setArr st (bubble (FO st) i (i - j)))):MJ M A E s (moveDown' i j) Q st:=by
 rw [moveDown'_eq]; exact Hr h
structure Re (st st':GA) (lo:Nat):Prop where
 kind:G0 st'=G0 st
 failed:Hi st'=Hi st
 pend:FY st'=FY st
 keep:iT (FO st) (FO st') lo
theorem Re.refl (st:GA) (lo:Nat):Re st st lo:=⟨rfl,rfl,rfl,iT.refl _ _⟩
theorem Re.set {st st':GA} {lo:Nat} (h:Re st st' lo) {ys:Array B_} (k:iT (FO st') ys lo):Re st (setArr st' ys) lo:=⟨h.kind,h.failed,h.pend,h.keep.trans k⟩
theorem ub {κ:Gs} {S:B_->Prop} {lt:B_->B_->Bool} (L:cN lt) (H:iS M A E s κ S lt) {lo n ok:Nat} {Q:Bool->GA->Prop} {st:GA} (hk:G0 st=κ) (hS:∀ x∈(FO st).toList,S x) (hn:lo+n<=(FO st).size) (hok:ok<=n) (hu:Up lt (FO st) lo ok)
  (h:∀ st',Re st st' lo->Up lt (FO st') lo n->Q true st'):MJ M A E s (binarySort' lo n ok) Q st:=by
 unfold binarySort';refine EZ (Hg (GQ (I:=fun k (c:Option Bool×Unit) st'=>c.1=none/\Re st st' lo/\Up lt (FO st') lo (min k n)) (Q:=fun (c:Option Bool×Unit) st'=>c.1=none/\Re st st' lo/\Up lt (FO st') lo n) ?step ?fin ?init) ?post)
 case init =>
  refine ⟨rfl,Re.refl _ _,fun p q hpq hq=>?_⟩;by_cases h0:q<ok
  ·exact hu p q hpq h0
  ·have e1:q=0:=by omega
   have e2:p=0:=by omega
   subst e1 e2;exact L.le_refl _
 case fin =>
  rintro ⟨c,u⟩ st' ⟨e,r,hu'⟩;refine ⟨e,r,?_⟩;rw [show min (max (max ok 1) n) n=n by omega] at hu';exact hu'
 case post =>
  rintro ⟨c,u⟩ st' ⟨e,r,hu'⟩;dsimp only at e ⊢;subst e;exact E7 (h st' r hu')
 case step =>
  rintro k ⟨c,u⟩ st1 hk1 hkn ⟨e,r,hu1⟩;dsimp only at e hu1 ⊢;rw [show min k n=k by omega] at hu1;have sz:=r.keep.size;refine EZ (Hg (GQ (I:=fun x (c:Option Bool×Nat×Nat) st'=>c.1=none/\st1=st'/\c.2.1<=c.2.2/\c.2.2<=k/\c.2.2 - c.2.1+x<=k/\(∀ p,p<c.2.1->Le lt (at' (FO st1) (lo+p)) (at' (FO st1) (lo+k)))/\(∀ p,c.2.2<=p->p<k->Le lt (at' (FO st1) (lo+k)) (at' (FO st1) (lo+p))))
   (Q:=fun (c:Option Bool×Nat×Nat) st'=>c.1=none/\st1=st'/\c.2.1=c.2.2/\c.2.2<=k/\(∀ p,p<c.2.1->Le lt (at' (FO st1) (lo+p)) (at' (FO st1) (lo+k)))/\(∀ p,c.2.2<=p->p<k->Le lt (at' (FO st1) (lo+k)) (at' (FO st1) (lo+p)))) ?step ?fin ?init) ?post)
  case init=>exact ⟨rfl,rfl,Fi _,BE _,by show k - 0+0<=k; omega,fun p hp=>absurd hp (by show ¬ p<0; omega),fun p hp hpk=>absurd hp (by show ¬ k<=p; omega)⟩
  case fin =>
   rintro ⟨c,l,r'⟩ st' ⟨e,e2,h1,h2,h3,h4,h5⟩;dsimp only at e h1 h2 h3 h4 h5 ⊢;exact ⟨e,e2,by omega,h2,h4,h5⟩
  case step =>
   rintro x ⟨c,l,r'⟩ st' _ hx ⟨e,rfl,h1,h2,h3,h4,h5⟩;dsimp only at e h1 h2 h3 h4 h5 ⊢;by_cases hd:l>=r'
   ·rw [if_pos hd];exact E7 ⟨rfl,rfl,by show l=r'; omega,h2,h4,h5⟩
   ·rw [if_neg hd];refine EZ (hJ H (r.kind.trans hk) (r.keep.mem hS) (by omega) (by omega) ?_);dsimp only
    cases hb:lt (at' (FO st1) (lo+k)) (at' (FO st1) (lo+(l+r') / 2)) with
    | true =>
     rw [if_pos rfl];refine E7 ⟨rfl,rfl,by show l<=(l+r') / 2; omega,by show (l+r') / 2<=k; omega,by show (l+r') / 2 - l+(x+1)<=k; omega,h4,fun p hp hpk=>?_⟩;exact L.trans (L.of_lt hb) (hu1 _ _ hp hpk)
    | false =>
     rw [if_neg (by simp)];refine E7 ⟨rfl,rfl,by show (l+r') / 2+1<=r'; omega,h2,by show r' - ((l+r') / 2+1)+(x+1)<=k; omega,fun p hp=>?_,h5⟩;have hp:p<(l+r') / 2+1:=hp;exact L.trans (hu1 p ((l+r') / 2) (by omega) (by omega)) hb
  case post =>
   rintro ⟨c,l,r'⟩ st' ⟨e,rfl,h1,h2,h4,h5⟩;dsimp only at e h1 h2 h4 h5 ⊢;subst e h1;dsimp only;refine EZ (BN ?_);have hd:lo+k - (lo+l)=k - l:=by omega
   refine E7 ⟨rfl,r.set ⟨bubble_perm _ _ _,fun j hj=>?_⟩,fun p q hpq hq=>?_⟩
   ·rw [getElem?_bubble (by omega) _ (by omega),if_neg (by omega),if_neg (by omega)]
   ·have hq:q<k+1:=by omega
    show Le lt (at' (bubble _ _ _) _) (at' (bubble _ _ _) _)
    rw [mW (by omega) (by omega),mW (by omega) (by omega)];by_cases p1:p<l
    ·rw [if_neg (by omega),if_neg (by omega)];by_cases q1:q<l
     ·rw [if_neg (by omega),if_neg (by omega)];exact hu1 p q hpq (by omega)
     ·by_cases q2:q=l
      ·rw [if_pos (by omega)];exact h4 p p1
      ·rw [if_neg (by omega),if_pos (by omega),show lo+q - 1=lo+(q - 1) by omega];exact hu1 p (q - 1) (by omega) (by omega)
    ·by_cases p2:p=l
     ·rw [if_pos (by omega)];by_cases q2:q=l
      ·rw [if_pos (by omega)]; exact L.le_refl _
      ·rw [if_neg (by omega),if_pos (by omega),show lo+q - 1=lo+(q - 1) by omega];exact h5 (q - 1) (by omega) (by omega)
     ·rw [if_neg (by omega),if_pos (by omega),if_neg (by omega),if_pos (by omega),show lo+q - 1=lo+(q - 1) by omega,show lo+p - 1=lo+(p - 1) by omega];exact hu1 (p - 1) (q - 1) (by omega) (by omega)
end
end Ts
namespace Ts
open PySem PyProof.Rows
theorem Up.one {lt:B_->B_->Bool} (L:cN lt) (xs:Array B_) (lo:Nat):Up lt xs lo 1:=fun p q hpq hq=>by
 have e1:q=0:=by omega
 have e2:p=0:=by omega
 subst e1 e2;exact L.le_refl _
theorem Up.succ {lt:B_->B_->Bool} (L:cN lt) {xs:Array B_} {lo n:Nat} (h:Up lt xs lo (n+1)) (hb:Le lt (at' xs (lo+n)) (at' xs (lo+(n+1)))):Up lt xs lo (n+1+1):=fun p q hpq hq=>by
 by_cases hq1:q<n+1
 ·exact h p q hpq hq1
 ·have e:q=n+1:=by omega
  subst e;by_cases hp:p=n+1
  ·subst hp; exact L.le_refl _
  ·exact L.trans (h p n (by omega) (by omega)) hb
theorem jx.succ {lt:B_->B_->Bool} (L:cN lt) {xs:Array B_} {lo n:Nat} (h:jx lt xs lo (n+1)) (hb:Le lt (at' xs (lo+(n+1))) (at' xs (lo+n))):jx lt xs lo (n+1+1):=fun p q hpq hq=>by
 by_cases hq1:q<n+1
 ·exact h p q hpq hq1
 ·have e:q=n+1:=by omega
  subst e;by_cases hp:p=n+1
  ·subst hp; exact L.le_refl _
  ·exact L.trans hb (h p n (by omega) (by omega))
def p6 (lt:B_->B_->Bool) (xs:Array B_) (lo n e:Nat):Prop:=∀ p q,n<=p+(e+1)->n<=q+(e+1)->p<n->q<n->Le lt (at' xs (lo+p)) (at' xs (lo+q))
theorem jX {lt:B_->B_->Bool} (L:cN lt) {xs:Array B_} {lo n e:Nat} (hn:lo+n<=xs.size) (he:e+1<=n) (hd:jx lt xs lo n) (ha:p6 lt xs lo n e) :
  jx lt (Ju xs (lo+n - (e+1)) (lo+n) ((lo+n - (lo+n - (e+1))) / 2)) lo n/\p6 lt (Ju xs (lo+n - (e+1)) (lo+n) ((lo+n - (lo+n - (e+1))) / 2)) lo n e /\
  ∀ k,lo+n<=k->at' (Ju xs (lo+n - (e+1)) (lo+n) ((lo+n - (lo+n - (e+1))) / 2)) k=at' xs k:=by
 have A:∀ p,p<n->at' (Ju xs (lo+n - (e+1)) (lo+n) ((lo+n - (lo+n - (e+1))) / 2)) (lo+p)=if n<=p+(e+1) then at' xs (lo+(n+n - (e+1) - 1 - p)) else at' xs (lo+p):=by
  intro p hp;rw [dq (by omega)];by_cases c:n<=p+(e+1)
  ·rw [if_pos (by omega),if_pos c]; congr 1; omega
  ·rw [if_neg (by omega),if_neg c]
 refine ⟨fun p q hpq hq=>?_,fun p q h1 h2 h3 h4=>?_,fun k hk=>?_⟩
 ·rw [A p (by omega),A q (by omega)];by_cases c:n<=p+(e+1)
  ·rw [if_pos c,if_pos (by omega)];exact ha _ _ (by omega) (by omega) (by omega) (by omega)
  ·rw [if_neg c];by_cases c2:n<=q+(e+1)
   ·rw [if_pos c2];exact hd p _ (by omega) (by omega)
   ·rw [if_neg c2];exact hd p q hpq hq
 ·rw [A p h3,A q h4,if_pos h1,if_pos h2];exact ha _ _ (by omega) (by omega) (by omega) (by omega)
 ·rw [dq (by omega),if_neg (by omega)]
section
variable {M:Jo} {A:Fv} {E:χ->AU->Prop} {s:AU}
theorem xl {κ:Gs} {S:B_->Prop} {lt:B_->B_->Bool} (L:cN lt) (H:iS M A E s κ S lt) {lo nrem:Nat} {Q:Option Nat->GA->Prop} {st:GA} (hk:G0 st=κ) (hS:∀ x∈(FO st).toList,S x) (hn:lo+nrem<=(FO st).size) (h1:1<=nrem)
    (h:∀ m st',1<=m->m<=nrem->Re st st' lo->Up lt (FO st') lo m->Q (some m) st'):MJ M A E s (countRun' lo nrem) Q st:=by
  unfold countRun';refine EZ (Hg (GQ (I:=fun x (c:Option (Option Nat)×Nat) st'=>c.1=none/\st=st'/\c.2=x/\Up lt (FO st) lo x/\1<=x)
    (Q:=fun (c:Option (Option Nat)×Nat) st'=>c.1=none/\st=st'/\1<=c.2/\c.2<=nrem/\Up lt (FO st) lo c.2/\(c.2<nrem->lt (at' (FO st) (lo+c.2)) (at' (FO st) (lo+(c.2 - 1)))=true)) ?step ?fin ⟨rfl,rfl,rfl,Up.one L _ _,BE _⟩) ?post)
  case fin =>
    rintro ⟨c,n⟩ st' ⟨e,rfl,e2,hu,hx⟩;dsimp only at e e2 ⊢;rw [show max 1 nrem=nrem by omega] at e2 hu;subst e2;exact ⟨e,rfl,h1,BE _,hu,fun z=>absurd z (G_ _)⟩
  case step =>
    rintro x ⟨c,n⟩ st' hx1 hx ⟨e,rfl,e2,hu,_⟩;dsimp only at e e2 ⊢;subst e2;refine EZ (hJ H hk hS (by omega) (by omega) ?_);dsimp only
    cases hb:lt (at' (FO st) (lo+n)) (at' (FO st) (lo+n - 1)) with
    | true=>exact E7 ⟨rfl,rfl,hx1,by show n<=nrem; omega,hu,fun _=>by show lt _ (at' _ (lo+(n - 1)))=true; rw [show lo+(n - 1)=lo+n - 1 by omega]; exact hb⟩
    | false =>
      rw [if_neg (by simp)];obtain ⟨m,rfl⟩:∃ m,n=m+1:=⟨n - 1,by omega⟩
      exact E7 ⟨rfl,rfl,rfl,hu.succ L hb,by omega⟩
  case post =>
    rintro ⟨c,n⟩ st' ⟨e,rfl,n1,n2,hu,hlt⟩;dsimp only at e n1 n2 hu hlt ⊢;subst e;dsimp only;by_cases c1:(n==nrem)=true
    · rw [if_pos c1]
      exact E7 (h n st n1 n2 (Re.refl _ _) hu)
    rw [if_neg c1];have c1:n≠nrem:=fun e=>c1 (beq_iff_eq.mpr e);have hlt:=hlt (by omega)
    -- what comes behind the first two parts
    have desc:∀ st1,Re st st1 lo->jx lt (FO st1) lo (n+1)->MJ M A E s (do
        let mut cc:=n+1
        let mut dd:=0
        for _ in [cc:nrem] do
          let some uu <- ltAt' (lo+cc) (lo+cc - 1) | return none
          if uu then
            if dd > 0 then KZ (lo+cc - (dd+1)) (lo+cc)
            dd:=0
          else
            let some vv <- ltAt' (lo+cc - 1) (lo+cc) | return none
            if vv then break
            dd:=dd+1
          cc:=cc+1
        if dd > 0 then KZ (lo+cc - (dd+1)) (lo+cc)
        KZ lo (lo+cc)
        for _ in [cc:nrem] do
          let some uu <- ltAt' (lo+cc) (lo+cc - 1) | return none
          if uu then break
          cc:=cc+1
        return some cc) Q st1:=by
      intro st1 r1 hd1;refine EZ (Hg (GQ (I:=fun x (c:Option (Option Nat)×Nat×Nat) st'=>c.1=none/\Re st st' lo/\c.2.1=x/\n+1<=x/\x<=nrem/\c.2.2+1<=x/\jx lt (FO st') lo x/\p6 lt (FO st') lo x c.2.2)
        (Q:=fun (c:Option (Option Nat)×Nat×Nat) st'=>c.1=none/\Re st st' lo/\n+1<=c.2.1/\c.2.1<=nrem/\c.2.2+1<=c.2.1/\jx lt (FO st') lo c.2.1/\p6 lt (FO st') lo c.2.1 c.2.2) ?step ?fin ⟨rfl,r1,rfl,BE _,by omega,by show 0+1<=n+1; omega,hd1,?init⟩) ?post)
      case init =>
        intro p q hp hq hp2 hq2;have hp:n+1<=p+(0+1):=hp;have hq:n+1<=q+(0+1):=hq;have:p=q:=by omega
        subst this; exact L.le_refl _
      case fin =>
        rintro ⟨c,m,e⟩ st' ⟨e1,r,e2,x1,x2,x3,x4,x5⟩;dsimp only at e1 e2 x3 x5 ⊢;rw [show max (n+1) nrem=nrem by omega] at e2 x1 x2 x3 x4 x5;subst e2;exact ⟨e1,r,x1,BE _,x3,x4,x5⟩
      case step =>
        rintro x ⟨c,m,e⟩ st' hx1 hx2 ⟨e1,r,e2,x1,x2,x3,x4,x5⟩;dsimp only at e1 e2 x3 x5 ⊢;subst e2;have sz:=r.keep.size;obtain ⟨m',rfl⟩:∃ m',m=m'+1:=⟨m - 1,by omega⟩
        refine EZ (hJ H (r.kind.trans hk) (r.keep.mem hS) (by omega) (by omega) ?_);dsimp only;rw [show lo+(m'+1) - 1=lo+m' by omega]
        cases hb:lt (at' (FO st') (lo+(m'+1))) (at' (FO st') (lo+m')) with
        | true =>
          rw [if_pos rfl]
          have one:∀ xs:Array B_,p6 lt xs lo (m'+1+1) 0:=by
            intro xs p q hp hq hp2 hq2;have:p=q:=by omega
            subst this; exact L.le_refl _
          by_cases c2:e > 0
          · rw [if_pos c2]
            refine EZ (kR ?_);obtain ⟨g1,g2,g3⟩:=jX L (xs:=FO st') (lo:=lo) (n:=m'+1) (e:=e) (by omega) x3 x4 x5;refine E7 ⟨rfl,r.set (eS (by omega) (by omega)),rfl,by omega,by omega,by show 0+1<=m'+1+1; omega,jx.succ L g1 ?_,one _⟩;rw [g3 _ (by omega)];have:at' (Ju (FO st') (lo+(m'+1) - (e+1)) (lo+(m'+1)) ((lo+(m'+1) - (lo+(m'+1) - (e+1))) / 2)) (lo+m')=at' (FO st') (lo+(m'+1 - (e+1))):=by
              rw [dq (by omega),if_pos (by omega)]; congr 1; omega
            rw [this];exact L.trans (L.of_lt hb) (x5 m' (m'+1 - (e+1)) (by omega) (by omega) (by omega) (by omega))
          · rw [if_neg c2]
            exact E7 ⟨rfl,r,rfl,by omega,by omega,by show 0+1<=m'+1+1; omega,jx.succ L x4 (L.of_lt hb),one _⟩
        | false =>
          rw [if_neg (by simp)];refine EZ (hJ H (r.kind.trans hk) (r.keep.mem hS) (by omega) (by omega) ?_);dsimp only
          cases hb2:lt (at' (FO st') (lo+m')) (at' (FO st') (lo+(m'+1))) with
          | true=>exact E7 ⟨rfl,r,x1,x2,x3,x4,x5⟩
          | false =>
            rw [if_neg (by simp)];refine E7 ⟨rfl,r,rfl,by omega,by omega,by show e+1+1<=m'+1+1; omega,jx.succ L x4 hb2,?_⟩;intro p q hp hq hp2 hq2;have hp:m'+1+1<=p+(e+1+1):=hp;have hq:m'+1+1<=q+(e+1+1):=hq;by_cases p1:p=m'+1
            · subst p1
              by_cases q1:q=m'+1
              · subst q1; exact L.le_refl _
              · exact L.trans hb2 (x5 m' q (by omega) (by omega) (by omega) (by omega))
            · by_cases q1:q=m'+1
              · subst q1
                exact L.trans (x5 p m' (by omega) (by omega) (by omega) (by omega)) hb
              · exact x5 p q (by omega) (by omega) (by omega) (by omega)
      case post =>
        rintro ⟨c,m,e⟩ st2 ⟨e1,r,x1,x2,x3,x4,x5⟩;dsimp only at e1 x1 x2 x3 x4 x5 ⊢;subst e1;dsimp only;have last:∀ st3,Re st st3 lo->jx lt (FO st3) lo m->MJ M A E s (do
            KZ lo (lo+m)
            let mut cc:=m
            for _ in [cc:nrem] do
              let some uu <- ltAt' (lo+cc) (lo+cc - 1) | return none
              if uu then break
              cc:=cc+1
            return some cc) Q st3:=by
          intro st3 r3 hd3;have sz:=r3.keep.size;refine EZ (kR ?_);have r4:=r3.set (eS (xs:=FO st3) (lo:=lo) (i:=lo) (j:=lo+m) (BE _) (by omega))
          have u4:Up lt (Ju (FO st3) lo (lo+m) ((lo+m - lo) / 2)) lo m:=by
            intro p q hpq hq;rw [dq (by omega),dq (by omega),if_pos (by omega),if_pos (by omega),show lo+(lo+m) - 1 - (lo+p)=lo+(m - 1 - p) by omega,show lo+(lo+m) - 1 - (lo+q)=lo+(m - 1 - q) by omega];exact hd3 _ _ (by omega) (by omega)
          generalize hst4:setArr st3 (Ju (FO st3) lo (lo+m) ((lo+m - lo) / 2))=st4 at r4;have u4:Up lt (FO st4) lo m:=by rw [<- hst4]; exact u4
          have sz4:=r4.keep.size;refine EZ (Hg (GQ (I:=fun x (c:Option (Option Nat)×Nat) st'=>c.1=none/\st4=st'/\c.2=x/\Up lt (FO st4) lo x/\m<=x)
            (Q:=fun (c:Option (Option Nat)×Nat) st'=>c.1=none/\st4=st'/\1<=c.2/\c.2<=nrem/\Up lt (FO st4) lo c.2) ?step ?fin ⟨rfl,rfl,rfl,u4,BE _⟩) ?post)
          case fin =>
            rintro ⟨c,y⟩ st' ⟨e,rfl,e2,hu,hx⟩;dsimp only at e e2 ⊢;rw [show max m nrem=nrem by omega] at e2 hu;subst e2;exact ⟨e,rfl,h1,BE _,hu⟩
          case step =>
            rintro x ⟨c,y⟩ st' hx1 hx ⟨e,rfl,e2,hu,_⟩;dsimp only at e e2 ⊢;subst e2;refine EZ (hJ H (r4.kind.trans hk) (r4.keep.mem hS) (by omega) (by omega) ?_);dsimp only
            cases hb:lt (at' (FO st4) (lo+y)) (at' (FO st4) (lo+y - 1)) with
            | true=>exact E7 ⟨rfl,rfl,by show 1<=y; omega,by show y<=nrem; omega,hu⟩
            | false =>
              rw [if_neg (by simp)];obtain ⟨y',rfl⟩:∃ m,y=m+1:=⟨y - 1,by omega⟩
              exact E7 ⟨rfl,rfl,rfl,hu.succ L hb,by omega⟩
          case post =>
            rintro ⟨c,y⟩ st' ⟨e,rfl,y1,y2,hu⟩;dsimp only at e y1 y2 hu ⊢;subst e;exact E7 (h y st4 y1 y2 r4 hu)
        have sz:=r.keep.size;by_cases c2:e > 0
        · rw [if_pos c2]
          refine EZ (kR ?_);obtain ⟨g1,g2,g3⟩:=jX L (xs:=FO st2) (lo:=lo) (n:=m) (e:=e) (by omega) x3 x4 x5;exact last _ (r.set (eS (by omega) (by omega))) g1
        · rw [if_neg c2]
          exact last _ r x4
    by_cases c2:n > 1
    · rw [if_pos c2]
      refine EZ (hJ H hk hS (by omega) (by omega) ?_);dsimp only
      cases hb:lt (at' (FO st) lo) (at' (FO st) (lo+n - 1)) with
      | true =>
        rw [if_pos rfl];exact E7 (h n st n1 n2 (Re.refl _ _) hu)
      | false =>
        rw [if_neg (by simp)];refine EZ (kR ?_);refine EZ (Kp (G4 ⟨rfl,?_⟩))
        have all:∀ p q,p<n->q<n->Le lt (at' (FO st) (lo+p)) (at' (FO st) (lo+q)):=by
          intro p q hp hq;have hb':Le lt (at' (FO st) (lo+(n - 1))) (at' (FO st) (lo+0)):=by rw [show lo+(n - 1)=lo+n - 1 by omega]; exact hb
          exact L.trans (L.trans (hu p (n - 1) (by omega) (by omega)) hb') (hu 0 q (by omega) hq)
        refine desc _ ((Re.refl st lo).set (eS (BE _) (by omega))) ?_
        have A:∀ p,p<n->at' (Ju (FO st) lo (lo+n) ((lo+n - lo) / 2)) (lo+p)=at' (FO st) (lo+(n - 1 - p)):=by
          intro p hp;rw [dq (by omega),if_pos (by omega)]; congr 1; omega
        have An:at' (Ju (FO st) lo (lo+n) ((lo+n - lo) / 2)) (lo+n)=at' (FO st) (lo+n):=by
          rw [dq (by omega),if_neg (by omega)]
        intro p q hpq hq
        show Le lt (at' (Ju _ _ _ _) _) (at' (Ju _ _ _ _) _)
        by_cases q1:q=n
        · subst q1
          by_cases p1:p=q
          · subst p1; exact L.le_refl _
          · rw [An,A p (by omega)]
            exact L.trans (L.of_lt hlt) (all _ _ (by omega) (by omega))
        · rw [A p (by omega),A q (by omega)]
          exact all _ _ (by omega) (by omega)
    · rw [if_neg c2]
      refine EZ (Kp (G4 ⟨rfl,?_⟩));refine desc _ (Re.refl st lo) ?_;have e1:n=1:=by omega
      subst e1;refine jx.succ L (fun p q hpq hq=>?_) (L.of_lt hlt);have e1:q=0:=by omega
      have e2:p=0:=by omega
      subst e1 e2;exact L.le_refl _
end
end Ts
namespace Ts
open PySem PyProof.Rows
theorem kN {xs:Array B_} {s n j:Nat}:(seg xs s n)[j]?=if j<n then xs[s+j]? else none:=by
 unfold seg;by_cases h:j<n
 ·rw [if_pos h,G9 h,Jr,GC]
 ·rw [if_neg h,List.getElem?_take_eq_none (by omega)]
theorem tK {xs ys:Array B_} {s n:Nat} (h:∀ j,s<=j->j<s+n->ys[j]?=xs[j]?):seg ys s n=seg xs s n:=by
 refine Ii fun j=>?_;rw [kN,kN];by_cases c:j<n
 ·rw [if_pos c,if_pos c,h _ (by omega) (by omega)]
 ·rw [if_neg c,if_neg c]
theorem Up.seg {lt:B_->B_->Bool} {xs:Array B_} {lo n:Nat} (h:Up lt xs lo n) (hn:lo+n<=xs.size):(seg xs lo n).Pairwise (Le lt):=by
 rw [MP];intro i j hi hj hij;have hl:=eX hn
 have e:∀ i (hi:i<(Ts.seg xs lo n).length),(Ts.seg xs lo n)[i]=at' xs (lo+i):=by
  intro i hi;have h1:(Ts.seg xs lo n)[i]?=some (Ts.seg xs lo n)[i]:=Ω hi;rw [kN,if_pos (by omega),nR (by omega)] at h1;exact (Fo h1).symm
 rw [e i hi,e j hj];exact h i j (by omega) (by omega)
def cy (lt:B_->B_->Bool) (xs:Array B_):Nat->List (Nat×Nat)->Nat->Prop
 | i,[],hi=>i=hi
 | i,(s,n)::ps,hi=>s=i/\1<=n/\(seg xs s n).Pairwise (Le lt)/\cy lt xs (i+n) ps hi
noncomputable def kys (p:Array (Nat×Nat×Nat)):List (Nat×Nat):=p.toList.map fun q=>(q.1,q.2.1)
theorem cy.app {lt:B_->B_->Bool} {xs:Array B_}:∀ {l1 l2:List (Nat×Nat)} {i hi:Nat},cy lt xs i (l1++l2) hi↔∃ m,cy lt xs i l1 m/\cy lt xs m l2 hi
 | [],l2,i,hi=>⟨fun h=>⟨i,rfl,h⟩,fun ⟨m,e,h⟩=>by cases e; exact h⟩
 | (s,n)::l1,l2,i,hi=>by
  constructor
  ·rintro ⟨h1,h2,h3,h4⟩;obtain ⟨m,h5,h6⟩:=cy.app.mp h4;exact ⟨m,⟨h1,h2,h3,h5⟩,h6⟩
  ·rintro ⟨m,⟨h1,h2,h3,h5⟩,h6⟩;exact ⟨h1,h2,h3,cy.app.mpr ⟨m,h5,h6⟩⟩
theorem cy.le {lt:B_->B_->Bool} {xs:Array B_}:∀ {l:List (Nat×Nat)} {i hi:Nat},cy lt xs i l hi->i+l.length<=hi
 | [],i,hi,h=>Kh h
 | (s,n)::l,i,hi,⟨h1,h2,h3,h4⟩=>by
  have:=cy.le h4
  rw [EX]; omega
theorem cy.congr {lt:B_->B_->Bool} {xs ys:Array B_}:∀ {l:List (Nat×Nat)} {i hi:Nat},cy lt xs i l hi->(∀ j,i<=j->j<hi->ys[j]?=xs[j]?)->cy lt ys i l hi
 | [],i,hi,h,_=>h
 | (s,n)::l,i,hi,⟨h1,h2,h3,h4⟩,h=>by
  have:=cy.le h4
  refine ⟨h1,h2,?_,cy.congr h4 fun j hj=>h j (by omega)⟩;rw [tK fun j h5 h6=>h j (by omega) (by omega)];exact h3
theorem Chg.get {xs ys:Array B_} {i n:Nat} {m:List B_} (h:Chg xs ys i n m) (hn:i+n<=xs.size) (j:Nat):ys[j]?=if j<i then xs[j]? else if j<i+n then m[j - i]? else xs[j]?:=by
 have hl:m.length=n:=by rw [h.1.length_eq,eX hn]
 rw [<- GC,h.2,E9,NG,Fl,FT,G2 (by omega)];by_cases c:j<i
 ·rw [if_pos c,if_pos c,G9 c,GC]
 ·rw [if_neg c,if_neg c,NG,hl];by_cases c2:j<i+n
  ·rw [if_pos (by omega),if_pos c2]
  ·rw [if_neg (by omega),if_neg c2,Jr,GC]
   congr 1; omega
theorem Chg.seg {xs ys:Array B_} {i n:Nat} {m:List B_} (h:Chg xs ys i n m) (hn:i+n<=xs.size):Ts.seg ys i n=m:=by
 have hl:m.length=n:=by rw [h.1.length_eq,eX hn]
 refine Ii fun j=>?_;rw [kN,h.get hn];by_cases c:j<n
 ·rw [if_pos c,if_neg (by omega),if_pos (by omega),show i+j - i=j by omega]
 ·rw [if_neg c,Ic (by omega)]
theorem Chg.perm {xs ys:Array B_} {i n:Nat} {m:List B_} (h:Chg xs ys i n m):ys.Perm xs:=by
 rw [Gi,h.2]
 conv=>rhs; rw [zZ xs i n]
 exact IE _ (Hq _ h.1)
theorem cy.merge {lt:B_->B_->Bool} {xs ys:Array B_} {l1 l2:List (Nat×Nat)} {sa na sb nb hi:Nat} {m:List B_} (h:cy lt xs 0 (l1++(sa,na)::(sb,nb)::l2) hi) (hz:hi<=xs.size) (c:Chg xs ys sa (na+nb) m) (hm:m.Pairwise (Le lt)):cy lt ys 0 (l1++(sa,na+nb)::l2) hi:=by
 obtain ⟨k,h1,h2,h3,h4,h5,h6,h7,h8⟩:=cy.app.mp h;subst h2 h5;have e1:=cy.le h1;have e2:=cy.le h8;refine cy.app.mpr ⟨sa,cy.congr h1 fun j _ hj=>?_,rfl,by omega,?_,?_⟩
 ·rw [c.get (by omega),if_pos hj]
 ·rw [c.seg (by omega)]; exact hm
 ·rw [<- Nat.add_assoc];refine cy.congr h8 fun j hj _=>?_;rw [c.get (by omega),if_neg (by omega),if_neg (by omega)]
theorem yi {l:List (Nat×Nat×Nat)} {i:Nat} {x y:Nat×Nat×Nat} (h1:l[i]?=some x) (h2:l[i+1]?=some y):l=l.take i++x::y::l.drop (i+2)/\(l.take i).length=i:=by
 have hi:=(C_.mp h1).1;have hi2:=(C_.mp h2).1;refine ⟨?_,by rw [Fl]; omega⟩;have e1:=(C_.mp h1).2;have e2:=(C_.mp h2).2
 conv=>lhs; rw [<- GI i l,F8 hi,F8 hi2,e1,e2]
theorem CD {c:Prop} [Decidable c] {n:Nat} (h:¬ n<=1):(if c then n - 2 - 1 else n - 2)+1<n:=by split<;>omega
section
variable {M:Jo} {A:Fv} {E:χ->AU->Prop} {s:AU}
structure Inv (κ:Gs) (lt:B_->B_->Bool) (a0:Array B_) (st:GA) (lo:Nat):Prop where
 kind:G0 st=κ
 failed:Hi st=none
 perm:(FO st).Perm a0
 runs:cy lt (FO st) 0 (kys (FY st)) lo
theorem Inv.mem {κ:Gs} {lt:B_->B_->Bool} {a0:Array B_} {st:GA} {lo:Nat} {S:B_->Prop} (h:Inv κ lt a0 st lo) (hS:∀ x∈a0.toList,S x):∀ x∈(FO st).toList,S x:=fun x hx=>hS x ((Gi.mp h.perm).mem_iff.mp hx)
theorem iR {κ:Gs} {S:B_->Prop} {lt:B_->B_->Bool} (L:cN lt) (H:iS M A E s κ S lt) {a0:Array B_} {i lo:Nat} {Q:Bool->GA->Prop} {st:GA} (I:Inv κ lt a0 st lo) (hS:∀ x∈a0.toList,S x) (hz:lo<=a0.size) (hi:i+1<(FY st).size)
  (h:∀ st',Inv κ lt a0 st' lo->(FY st').size+1=(FY st).size->(∀ j,lo<=j->(FO st')[j]?=(FO st)[j]?)->Q true st'):MJ M A E s (mergeAt' i) Q st:=by
 have sz:=I.perm.size_eq;obtain ⟨⟨sa,na,w1⟩,h1⟩:∃ x,(FY st)[i]?=some x:=⟨_,getElem?_pos _ i (by omega)⟩
 obtain ⟨⟨sb,nb,w2⟩,h2⟩:∃ x,(FY st)[i+1]?=some x:=⟨_,getElem?_pos _ (i+1) hi⟩
 have g1:(FY st).toList[i]?=some (sa,na,w1):=by rw [GC]; exact h1
 have g2:(FY st).toList[i+1]?=some (sb,nb,w2):=by rw [GC]; exact h2
 obtain ⟨e,le⟩:=yi g1 g2;have r:=I.runs;unfold kys at r;rw [e,GL,Fg,Fg] at r;obtain ⟨k,r1,r2,r3,r4,r5,r6,r7,r8⟩:=cy.app.mp r;dsimp only at r2 r3 r4 r5 r6 r7 r8;subst r2 r5;have l1:=cy.le r1;have l8:=cy.le r8;refine rN L H I.kind I.failed h1 h2 r3 r6 (by omega) r4 r7 (I.mem hS) fun st' m e1 e2 e3 c hm=>?_
 have eP:(FY st').toList=(FY st).toList.take i++(sa,na+nb,w1)::(FY st).toList.drop (i+2):=by
  rw [e3,Array.toList_eraseIdxIfInBounds,L_]
  conv=>lhs; rw [e]
  rw [List.set_append_right _ _ (by omega),le,Kf,List.set_cons_zero,List.eraseIdx_append_of_length_le (by omega),le,show i+1 - i=1 by omega];rfl
 refine h st' ⟨e1,e2,c.perm.trans I.perm,?_⟩ ?_ fun j hj=>?_
 ·unfold kys;rw [eP,GL,Fg];exact cy.merge r (by omega) c hm
 ·rw [<- FT,eP,<- FT (xs:=FY st)]
  conv=>rhs; rw [e]
  simp only [BG,EX];omega
 ·rw [c.get (by omega),if_neg (by omega),if_neg (by omega)]
theorem Inv.push {κ:Gs} {lt:B_->B_->Bool} {a0:Array B_} {st:GA} {lo n:Nat} (I:Inv κ lt a0 st lo) (hs:(seg (FO st) lo n).Pairwise (Le lt)) (hn:1<=n):Inv κ lt a0 (setPending st ((FY st).push (lo,n,0))) (lo+n):=by
 refine ⟨I.kind,I.failed,I.perm,?_⟩
 show cy lt (FO st) 0 (kys ((FY st).push (lo,n,0))) (lo+n)
 unfold kys;rw [Gz,GL];exact cy.app.mpr ⟨lo,I.runs,rfl,hn,hs,rfl⟩
theorem sQ {p:Array (Nat×Nat×Nat)} {k w:Nat}:kys (p.modify k fun x=>(x.1,x.2.1,w))=kys p:=by
 unfold kys;refine Ii fun j=>?_;rw [FE,FE,GC,GC,Array.getElem?_modify];by_cases c:k=j
 ·rw [if_pos c]
  cases p[j]?<;>rfl
 ·rw [if_neg c]
theorem Inv.modif {κ:Gs} {lt:B_->B_->Bool} {a0:Array B_} {st:GA} {lo k w:Nat} (I:Inv κ lt a0 st lo):Inv κ lt a0 (setPending st ((FY st).modify k fun x=>(x.1,x.2.1,w))) lo:=by
 refine ⟨I.kind,I.failed,I.perm,?_⟩
 show cy lt (FO st) 0 (kys ((FY st).modify k fun x=>(x.1,x.2.1,w))) lo
 rw [sQ];exact I.runs
theorem mr {κ:Gs} {S:B_->Prop} {lt:B_->B_->Bool} (L:cN lt) (H:iS M A E s κ S lt) {Q:Unit->GA->Prop} {st:GA} (hk:G0 st=κ) (hf:Hi st=none) (hp:FY st=#[]) (hS:∀ x∈(FO st).toList,S x)
  (h:∀ st',(FO st').Perm (FO st)->Hi st'=none->(FO st').toList.Pairwise (Le lt)->Q () st'):MJ M A E s sortRuns' Q st:=by
 have I0:Inv κ lt (FO st) st 0:=⟨hk,hf,J1 _,by rw [hp]; rfl⟩
 generalize ha:FO st=a0 at hS h I0;unfold sortRuns';refine EZ (JU ?_);have ez:(FO st).size=a0.size:=by rw [ha]
 dsimp only;refine EZ (Hg (GQ (I:=fun x (c:Option Unit×Nat) st'=>c.1=none/\Inv κ lt a0 st' c.2/\x<=c.2/\c.2<=a0.size) (Q:=fun (c:Option Unit×Nat) st'=>c.1=none/\Inv κ lt a0 st' a0.size) ?step ?fin ⟨rfl,I0,BE _,Fi _⟩) ?post)
 case fin =>
  rintro ⟨c,lo⟩ st' ⟨e,I,h1,h2⟩;have h1:max 0 (FO st).size<=lo:=h1;have h2:lo<=a0.size:=h2;have e2:lo=a0.size:=by omega
  subst e2;exact ⟨e,I⟩
 case step =>
  rintro x ⟨c,lo⟩ st1 _ hx ⟨e,I,h1,h2⟩;dsimp only at e I h1 h2 ⊢;generalize hN:(FO st).size=N at hx ez ⊢;have sz:=I.perm.size_eq;refine a7 (fun hd=>?_) (fun hd=>?_)
  ·have e2:lo=a0.size:=by omega
   subst e2;exact E7 ⟨rfl,I⟩
  ·refine EZ (xl L H I.kind (I.mem hS) (by omega) (by omega) fun m st2 m1 m2 r2 u2=>?_);dsimp only;refine a7 (fun hm=>?_) (fun hm=>?_)
   ·have sz2:=r2.keep.size;refine EZ (Kp (G4 ⟨rfl,?_⟩));refine EZ (ub L H (r2.kind.trans I.kind) (r2.keep.mem (I.mem hS)) (by omega) (by omega) u2 fun st3 r3' u3=>?_);rw [if_neg (by simp)];have r3:Re st1 st3 lo:=⟨r3'.kind.trans r2.kind,r3'.failed.trans r2.failed,r3'.pend.trans r2.pend,r2.keep.trans r3'.keep⟩
    have sz3:=r3.keep.size;have sg:=u3.seg (by omega);have I3:Inv κ lt a0 st3 lo:=⟨r3.kind.trans I.kind,r3.failed.trans I.failed,r3.keep.perm.trans I.perm,by rw [r3.pend]; exact cy.congr I.runs fun j _ hj=>r3.keep.low j hj⟩
    refine EZ (JU ?_)
    cases hb:(FY st3).back? with
    | none =>
     dsimp only;refine EZ (Hr ?_);exact E7 ⟨rfl,I3.push sg (by omega),by dsimp only; omega,by dsimp only; omega⟩
    | some t =>
     obtain ⟨s1,n1,w1⟩:=t;dsimp only;refine EZ (Hg (GQ (I:=fun x (c:Option Unit×Unit) st'=>c.1=none/\Inv κ lt a0 st' lo/\∀ j,lo<=j->(FO st')[j]?=(FO st3)[j]?) (Q:=fun (c:Option Unit×Unit) st'=>c.1=none/\Inv κ lt a0 st' lo/\∀ j,lo<=j->(FO st')[j]?=(FO st3)[j]?) ?_ (fun _ _ z=>z) ⟨rfl,I3,fun _ _=>rfl⟩) ?_)
     ·rintro y ⟨c,u⟩ st4 _ _ ⟨e,I4,k4⟩;refine EZ (JU ?_);by_cases hz:(FY st4).size > 1
      ·rw [if_pos hz];obtain ⟨⟨q1,q2,q3⟩,hq⟩:∃ q,(FY st4)[(FY st4).size - 2]?=some q:=⟨_,getElem?_pos _ _ (by omega)⟩
       rw [hq];dsimp only;refine a7 (fun _=>?_) (fun _=>?_)
       ·exact E7 ⟨rfl,I4,k4⟩
       ·refine EZ (iR L H I4 hS (by omega) (by show (FY st4).size - 2+1<(FY st4).size; omega) fun st5 I5 _ k5=>?_);rw [if_neg (by simp)];exact E7 ⟨rfl,I5,fun j hj=>(k5 j hj).trans (k4 j hj)⟩
      ·rw [if_neg hz];exact E7 ⟨rfl,I4,k4⟩
     ·rintro ⟨c,u⟩ st4 ⟨e,I4,k4⟩;dsimp only at e ⊢;subst e;dsimp only;refine EZ (Hr ?_);refine EZ (Hr ?_);have sg4:=sg;rw [<- tK (ys:=FO st4) fun j hj _=>k4 j hj] at sg4;exact E7 ⟨rfl,I4.modif.push sg4 (by omega),by dsimp only; omega,by dsimp only; omega⟩
   ·have r3:=r2;have u3:=u2;have sz3:=r3.keep.size;have sg:=u3.seg (by omega);generalize st2=st3 at r3 u3 sz3 sg ⊢;have I3:Inv κ lt a0 st3 lo:=⟨r3.kind.trans I.kind,r3.failed.trans I.failed,r3.keep.perm.trans I.perm,by rw [r3.pend]; exact cy.congr I.runs fun j _ hj=>r3.keep.low j hj⟩
    refine EZ (JU ?_)
    cases hb:(FY st3).back? with
    | none =>
     dsimp only;refine EZ (Hr ?_);exact E7 ⟨rfl,I3.push sg (by omega),by dsimp only; omega,by dsimp only; omega⟩
    | some t =>
     obtain ⟨s1,n1,w1⟩:=t;dsimp only;refine EZ (Hg (GQ (I:=fun x (c:Option Unit×Unit) st'=>c.1=none/\Inv κ lt a0 st' lo/\∀ j,lo<=j->(FO st')[j]?=(FO st3)[j]?) (Q:=fun (c:Option Unit×Unit) st'=>c.1=none/\Inv κ lt a0 st' lo/\∀ j,lo<=j->(FO st')[j]?=(FO st3)[j]?) ?_ (fun _ _ z=>z) ⟨rfl,I3,fun _ _=>rfl⟩) ?_)
     ·rintro y ⟨c,u⟩ st4 _ _ ⟨e,I4,k4⟩;refine EZ (JU ?_);by_cases hz:(FY st4).size > 1
      ·rw [if_pos hz];obtain ⟨⟨q1,q2,q3⟩,hq⟩:∃ q,(FY st4)[(FY st4).size - 2]?=some q:=⟨_,getElem?_pos _ _ (by omega)⟩
       rw [hq];dsimp only;refine a7 (fun _=>?_) (fun _=>?_)
       ·exact E7 ⟨rfl,I4,k4⟩
       ·refine EZ (iR L H I4 hS (by omega) (by show (FY st4).size - 2+1<(FY st4).size; omega) fun st5 I5 _ k5=>?_);rw [if_neg (by simp)];exact E7 ⟨rfl,I5,fun j hj=>(k5 j hj).trans (k4 j hj)⟩
      ·rw [if_neg hz];exact E7 ⟨rfl,I4,k4⟩
     ·rintro ⟨c,u⟩ st4 ⟨e,I4,k4⟩;dsimp only at e ⊢;subst e;dsimp only;refine EZ (Hr ?_);refine EZ (Hr ?_);have sg4:=sg;rw [<- tK (ys:=FO st4) fun j hj _=>k4 j hj] at sg4;exact E7 ⟨rfl,I4.modif.push sg4 (by omega),by dsimp only; omega,by dsimp only; omega⟩
 case post =>
  rintro ⟨c,lo⟩ st1 ⟨e,I⟩;dsimp only at e ⊢;subst e;dsimp only;have sz:=I.perm.size_eq
  have n0:(FY st1).size<=a0.size:=by
   have:=cy.le I.runs
   unfold kys at this;rw [Θ,FT] at this;omega
  refine EZ (Hg (GQ (I:=fun x (c:Option Unit×Unit) st'=>c.1=none/\Inv κ lt a0 st' a0.size/\((FY st').size+x<=a0.size\/(FY st').size<=1)) (Q:=fun (c:Option Unit×Unit) st'=>c.1=none/\Inv κ lt a0 st' a0.size/\(FY st').size<=1) ?step ?fin ⟨rfl,I,.inl n0⟩) ?post)
  case fin =>
   rintro ⟨c,u⟩ st' ⟨e,I,h1⟩;refine ⟨e,I,?_⟩;have h1:(FY st').size+max 0 (FO st).size<=a0.size\/(FY st').size<=1:=h1;omega
  case step =>
   rintro x ⟨c,u⟩ st2 _ hx ⟨e,I,h1⟩;dsimp only at e h1 ⊢;refine EZ (JU ?_);refine a7 (fun hd=>?_) (fun hd=>?_)
   ·exact E7 ⟨rfl,I,hd⟩
   ·refine EZ (iR L H I hS (BE _) ?_ fun st3 I3 h3 _=>?_)
    ·have hd:¬ (FY st2).size<=1:=hd;exact CD hd
    ·rw [if_neg (by simp)];refine E7 ⟨rfl,I3,?_⟩
     show (FY st3).size+(x+1)<=a0.size\/(FY st3).size<=1
     have hd:¬ (FY st2).size<=1:=hd;omega
  case post =>
   rintro ⟨c,u⟩ st2 ⟨e,I,h1⟩;dsimp only at e h1 ⊢;subst e;have r:=I.runs;have szz:=I.perm.size_eq;refine E7 (h st2 I.perm I.failed ?_)
   match hq:kys (FY st2),r with
   | [],r =>
    have r:0=a0.size:=r;have:(FO st2).toList=[]:=F2 (by rw [FT]; omega)
    rw [this];exact Gq
   | [(s1,n1)],⟨r1,r2,r3,r4⟩ =>
    have r4:0+n1=a0.size:=r4;subst r1;have:seg (FO st2) 0 n1=(FO st2).toList:=by
     unfold seg;rw [IJ,FG (by rw [FT]; omega)]
    rw [this] at r3;exact r3
   | x::y::l,r =>
    have:(kys (FY st2)).length=(FY st2).size:=by unfold kys; rw [Θ,FT]
    rw [hq,EX,EX] at this;omega
end
end Ts
namespace Ts
open PySem PyProof.Rows PySem.W
section
variable {prog:FP} {w:F0} {A:Fv} {E:χ->AU->Prop} {s:AU}
def uf (prog:FP) (w:F0) (s:AU) (a:Δ) (ks:List χ) (κ:Gs) (S:B_->Prop) (lt:B_->B_->Bool):Prop :=
 ∀ (A:Fv) (E:χ->AU->Prop) (h:F6),(∀ b o,b≠a->s.heap.get? b=some o->h.get? b=some o) ->
  (2<=ks.length->∀ Q,Q κ { s with heap:=h }->FD (FQ prog w) A (keyKind' ks.toArray) Q E { s with heap:=h })/\iS (FQ prog w) A E { s with heap:=h } κ S lt
theorem zP {κ:Gs} {S:B_->Prop} {lt:B_->B_->Bool} (L:cN lt) {a:Δ} {vs:List χ} {n:Nat} {P:Fin->AU->Prop} (ho:s.heap.get? a=some (Fx "list" vs.toArray n)) (hz:vs.length<=E4)
  (hs:uf prog w s a vs κ S lt) (hS:∀ x∈(Ho vs).toList,S x)
  (h:∀ out:Array B_,out.Perm (Ho vs)->out.toList.Pairwise (Le lt)->P (.done (.ret .none)) { s with heap:=M1 s.heap a vs (out.map (·.2)) }) :
  FD (FQ prog w) A (KW.«list.sort» ⟨[.ref a],[]⟩) P E s:=by
 rw [list_sort_plain];have ha:a<s.heap.objs.size:=E1 ho;have hsz:vs.toArray.size=vs.length:=by simp
 refine ξ (Lv ho rfl ?_);refine ξ (Hw ho rfl ?_ (by omega) (Fi _));obtain ⟨e1,ho1⟩:∃ e1,(s.heap.update a (FZ fun _=>#[])).get? a=some (Fx "list" #[] e1):=⟨_,Il ho (fun _=>#[])⟩
 refine ξ (JN ho1 rfl ?_);refine ξ (LA ?_ (by first | exact hz | (simp; exact hz)));refine ξ (Jm ?_);refine HW ?_
 show FD (FQ prog w) A _ P E { s with heap:=((s.heap.update a (FZ fun _=>#[])).push (Fx "tuple" vs.toArray 0)).push (Fx "list" #[] 0) }
 generalize hH6:((s.heap.update a (FZ fun _=>#[])).push (Fx "tuple" vs.toArray 0)).push (Fx "list" #[] 0)=h6
 have ho6:h6.get? a=some (Fx "list" #[] e1):=by
  rw [<- hH6,Hf _ _ _ (by rw [JK,Gu]; exact E6 (GV ha)),Hf _ _ _ (by rw [Gu]; exact E6 ha)];exact ho1
 have keep:∀ b o,b≠a->s.heap.get? b=some o->h6.get? b=some o:=fun b o hb q=>by
  rw [<- hH6];exact ς _ (ς _ ((Fy _ _ (Gd hb)).trans q))
 have fin:∀ out:Array B_,out.Perm (Ho vs)->out.toList.Pairwise (Le lt)->P (.done (.ret .none)) { s with heap:=h6.update a (FZ fun _=>out.map (·.2)) }:=by
  intro out hp hs;rw [<- hH6];exact h out hp hs
 dsimp only;obtain ⟨hk,hasks⟩:=hs A E h6 keep;by_cases h2:vs.toArray.size<2
 ·rw [if_pos h2,if_pos h2];refine ξ (D_ ?_);rw [Lb];refine ξ (D_ ?_);dsimp only;refine ξ (JN ho6 rfl ?_);refine ξ (Hw ho6 rfl ?_ (by simp) (by rw [Jq]; show (Ho vs).size<=_; rw [Lu,KR]; omega));simp only [bne_self_eq_false,F_,if_false];refine D_ (fin (vs.toArray.zip vs.toArray) (J1 _) ?_)
  show (Ho vs).toList.Pairwise _
  rw [IV]
  match vs,hsz,h2 with
  | [], _, _ => exact Gq
  | [v], _, _ => exact KC _ _
  | v₁ :: v₂ :: eC, e, h2 => simp at h2; omega
 ·rw [if_neg h2,if_neg h2];refine ξ (hk (by omega) _ ?_);refine ξ (GW (mr (E:=E) (s:={ s with heap:=h6 }) (A:=A) L hasks (st:=Lp κ (vs.toArray.zip vs.toArray) #[] 7 none)
   (Q:=fun _ st'=>(FO st').Perm (Ho vs)/\Hi st'=none/\(FO st').toList.Pairwise (Le lt)) rfl rfl rfl hS fun st' a1 a2 a3=>⟨a1,a2,a3⟩) ?_ fun _ _ e=>e)
  rintro ⟨⟨⟩,st'⟩ s' ⟨rfl,hp,hf,hs⟩;dsimp only;refine ξ (JN ho6 rfl ?_);refine ξ (Hw ho6 rfl ?_ (by simp) (by refine Fe (Kh ((Jq ..).trans (hp.size_eq.trans (Lu _)))) ?_; omega));rw [hf];simp only [bne_self_eq_false,F_,if_false];exact D_ (fin _ hp hs)
theorem mf {κ:Gs} {S:B_->Prop} {lt:B_->B_->Bool} (L:cN lt) {l:Δ} {vs:List χ} {Q:χ->AU->Prop} (hl:s.heap.IsList l vs.toArray) (hz:vs.length<=E4)
  (hs:∀ h,(∀ b o,s.heap.get? b=some o->h.get? b=some o)->uf prog w { s with heap:=h } (s.heap.objs.size+1) vs κ S lt) (hS:∀ x∈(Ho vs).toList,S x)
  (h:∀ out:Array B_,out.Perm (Ho vs)->out.toList.Pairwise (Le lt)->Q (.ref (s.heap.objs.size+1)) { s with heap:=LL s.heap vs (out.map (·.2)) }) :
  FD (FQ prog w) A (call (.builtin "sorted") [.ref l]) Q E s:=by
 refine MG kind_sorted plain_sorted entry_sorted (args_sorted1 _) ?_;unfold KW.«sorted»;refine ξ (m:=checkCount "sorted" 1 1 _) (D_ ?_);refine ξ (collect_list hl ?_ hz);refine ξ (Jm ?_ hz)
 have hsz:((s.heap.push (Fx "list" #[] 0)).update s.heap.objs.size (FZ (·++vs.toArray))).objs.size=s.heap.objs.size+1:=by
  rw [Gu,JK]
 have hoL:(((s.heap.push (Fx "list" #[] 0)).update s.heap.objs.size (FZ (·++vs.toArray))).push (Fx "list" vs.toArray 0)).get? (s.heap.objs.size+1)=some (Fx "list" vs.toArray 0):=by
  rw [<- hsz]; exact E5 _ rfl
 have keep:∀ b o,s.heap.get? b=some o->(((s.heap.push (Fx "list" #[] 0)).update s.heap.objs.size (FZ (·++vs.toArray))).push (Fx "list" vs.toArray 0)).get? b=some o:=fun b o q=>by
  have hlt:b<s.heap.objs.size:=E1 q;rw [Hf _ _ _ (by rw [hsz]; exact E6 (GV hlt)),IF _ _ _ _ (E6 hlt),Hf _ _ _ (E6 hlt)];exact q
 show FD _ _ _ _ _ { s with heap:=((s.heap.push (Fx "list" #[] 0)).update s.heap.objs.size (FZ (·++vs.toArray))).push (Fx "list" vs.toArray 0) }
 rw [hsz];refine ξ (HW (HJ M3 ⟨_,hoL,rfl⟩ Mc (zP L hoL hz (hs _ keep) hS fun out a1 a2=>⟨_,rfl,?_⟩) (args_list_sort _)));exact D_ ⟨_,rfl,h out a1 a2⟩
end
noncomputable def plt (p q:Int×Int):Bool:=decide (p.1<q.1)||(decide (p.1=q.1)&&decide (p.2<q.2))
def ple (p q:Int×Int):Prop:=p.1<q.1\/(p.1=q.1/\p.2<=q.2)
theorem da {p q:Int×Int}:plt p q=false↔ple q p:=by
 unfold plt ple;rw [Bool.or_eq_false_iff,Bool.and_eq_false_iff,decide_eq_false_iff_not,decide_eq_false_iff_not,decide_eq_false_iff_not];omega
theorem lH {p q:Int×Int}:plt p q=true↔p.1<q.1\/(p.1=q.1/\p.2<q.2):=by
 unfold plt;rw [Bool.or_eq_true,GB,decide_eq_true_eq,decide_eq_true_eq,decide_eq_true_eq]
theorem sU (g:χ->Int×Int):cN fun x y=>plt (g x.1) (g y.1):=by
 constructor
 ·intro x y h;have h:=lH.mp h;refine da.mpr ?_;unfold ple;omega
 ·intro x y z h1 h2;have h1:=da.mp h1;have h2:=da.mp h2;refine da.mpr ?_;unfold ple at h1 h2 ⊢;omega
section
variable {prog:FP} {w:F0} {s:AU}
theorem km {M:Jo} {A:Fv} {E:χ->AU->Prop} {s:AU} {κ:Gs} {S:B_->Prop} {lt:B_->B_->Bool} (h:∀ x y,S x->S y->∀ (Q':Bool->AU->Prop) (E':χ->AU->Prop),Q' (lt x y) s->FD M A (keyLt' κ x.1 y.1) Q' E' s):iS M A E s κ S lt:=by
 intro x y st Q hx hy hk q;rw [lt'_eq];refine EZ (JU ?_);rw [hk];refine EZ (Kp (LY (h x y hx hy _ _ ⟨rfl,?_⟩)));exact E7 q
def bD (h:F6) (v:χ) (p:Int×Int):Prop:=∃ b o t u n,v=.ref b/\h.get? b=some o/\o.cls=.type "tuple"/\o.data=.seq #[.int p.1 t,.int p.2 u] n
theorem qR {A:Fv} {E:χ->AU->Prop} {v u:χ} {p q:Int×Int} {Q:Bool->AU->Prop} (hv:bD s.heap v p) (hu:bD s.heap u q) (h:Q (plt p q) s):FD (FQ prog w) A (keyLt' (Kx true) v u) Q E s:=by
 obtain ⟨b,o,t1,t2,n,rfl,h1,_,d1⟩:=hv;obtain ⟨c,o2,t3,t4,m,rfl,h2,_,d2⟩:=hu;refine kat_lt h1 d1 h2 d2 ?_;refine kat_cons (Ji ?_);refine kat_go (fun e=>kat_yes ?_) (fun e=>kat_no ?_)
 ·have e1:p.1=q.1:=by simpa using e
  refine kat_cons (Ji ?_);refine kat_go (fun e=>kat_yes ?_) (fun e=>kat_no ?_)
  ·have e2:p.2=q.2:=by simpa using e
   refine kat_nil ?_;have:plt p q=false:=da.mpr (by unfold ple; omega)
   rw [this] at h;exact h
  ·have e2:¬ p.2=q.2:=by simpa using e
   refine kat_one _ _ (wpAny_lt_int ?_)
   show Q _ _
   have:plt p q=decide (p.2<q.2):=by unfold plt; rw [e1]; simp
   rw [this] at h;exact h
 ·have e1:¬ p.1=q.1:=by simpa using e
  refine oneLt_int ?_;have:plt p q=decide (p.1<q.1):=by unfold plt; simp [e1]
  rw [this] at h;exact h
theorem rC {a:Δ} {vs:List χ} {g:χ->Int×Int} (hv:∀ v∈vs,bD s.heap v (g v)/\v≠.ref a):uf prog w s a vs (Kx true) (fun x=>x∈(Ho vs).toList) (fun x y=>plt (g x.1) (g y.1)):=by
  intro A E h keep
  have hv':∀ v∈vs,bD h v (g v):=by
    intro v hm;obtain ⟨⟨b,o,t,u,n,rfl,h1,h2,h3⟩,hne⟩:=hv v hm;exact ⟨b,o,t,u,n,rfl,keep b o (fun e=>hne (by rw [e])) h1,h2,h3⟩
  refine ⟨fun h2 Q q=>?_,?_⟩
  · have key:∀ (us:List χ),(∀ v∈us,bD h v (g v))->∃ fs,KatTups h us fs/\fs.length=us.length/\∀ f∈fs,∃ i t,f=.int i t:=by
      intro us
      induction us with
      | nil=>intro _; exact ⟨[],Ml,rfl,fun f hf=>nomatch hf⟩
      | cons v us ih =>
        intro hu;obtain ⟨fs,k1,k2,k3⟩:=ih fun v hv=>hu v (Ξ _ hv);obtain ⟨b,o,t,u,n,e,h1,h2,h3⟩:=hu v θ;refine ⟨.int (g v).1 t::fs,?_,by rw [EX,EX,k2],fun f hf=>?_⟩
        · rw [e]
          rw [e] at h3;exact MQ h1 h2 h3 rfl k1
        · rcases BF.mp hf with rfl | hf
          · exact ⟨_,_,rfl⟩
          · exact k3 f hf
    obtain ⟨fs,k1,k2,k3⟩:=key vs hv';refine kat_kind (T:=.type "int") k1 (by omega) (fun f hf=>?_) (by decide) ?_
    · obtain ⟨i,t,rfl⟩:=k3 f hf
      exact Looks.of_pure rfl
    · have:(GZ "int" != GZ "tuple")=true:=by decide
      rw [this];exact q
  · refine km fun x y hx hy Q' E' q=>?_
    rw [IV] at hx hy;exact qR (hv' _ (Ig hx).2) (hv' _ (Ig hy).2) q
theorem vI:cN fun x y=>decide (LC x.1<LC y.1):=by
 constructor
 ·intro x y h;have h:=of_decide_eq_true h;exact decide_eq_false (by omega)
 ·intro x y z h1 h2;have h1:=of_decide_eq_false h1;have h2:=of_decide_eq_false h2;exact decide_eq_false (by omega)
theorem tN {a:Δ} {vs:List χ} {ns:List Int} (hv:Ky vs ns):uf prog w s a vs oneType' (fun x=>x∈(Ho vs).toList) (fun x y=>decide (LC x.1<LC y.1)):=by
 intro A E h keep;refine ⟨fun h2 Q q=>?_,?_⟩
 ·match vs,hv,h2 with
  | v₁ :: v₂ :: eC, hv, _ => rw [keyKind_ints hv]; exact D_ q
  | [], _, h2 => simp at h2
  | [_], _, h2 => simp at h2
 ·refine km fun x y hx hy Q' E' q=>?_;rw [IV] at hx hy;obtain ⟨i,t,e1⟩:=hv.all _ (Ig hx).2;obtain ⟨j,u,e2⟩:=hv.all _ (Ig hy).2;rw [e1,e2] at q ⊢;rw [keyLt'_oneType];exact oneLt_int q
end
end Ts
namespace L2
open PySem PySem.Spec PyProof.Rows
def PtV (H:Hp) (v:V) (p:Int×Int):Prop:=∃ b,v=.ref b/\H b=some (.tup [.int p.1,.int p.2])
def zb (K:W.Frag) (vs:List V) (H:Hp) (Q:VK):Prop:=∃ a xs,vs=[.ref a]/\SqL K H a xs /\
  ((∃ g:V->Int×Int,(∀ v∈xs,PtV H v (g v))/\∀ (l:Δ) (ys:List V),H l=none->ys.Perm xs->ys.Pairwise (fun x y=>Ts.ple (g x) (g y))->Q (.ref l) (upd H l (.lst ys))) \/
   (∃ ns:List Int,xs=ns.map V.int/\∀ (l:Δ) (ms:List Int),H l=none->ms.Perm ns->ms.Pairwise (·<=·)->Q (.ref l) (upd H l (.lst (ms.map V.int)))))
theorem eN {h:F6} {vs:List χ} {out:Array χ} {b:Δ} {o:Hu} (q:h.get? b=some o):(LL h vs out).get? b=some o:=by
 have hlt:b<h.objs.size:=E1 q;have hsz:((h.push (Fx "list" #[] 0)).update h.objs.size (FZ (·++vs.toArray))).objs.size=h.objs.size+1:=by rw [Gu,JK]
 unfold LL M1;rw [IF _ _ _ _ (E6 (GV hlt))];refine ς _ (ς _ ?_);rw [IF _ _ _ _ (E6 (GV hlt))];refine ς _ ?_;rw [IF _ _ _ _ (E6 hlt)];exact ς _ q
theorem fi {h:F6} {vs:List χ} {out:Array χ}:∃ n,(LL h vs out).get? (h.objs.size+1)=some { cls:=.type "list",data:=.seq out n }:=by
 have hsz:((h.push (Fx "list" #[] 0)).update h.objs.size (FZ (·++vs.toArray))).objs.size=h.objs.size+1:=by rw [Gu,JK]
 unfold LL M1;have h1:(((h.push (Fx "list" #[] 0)).update h.objs.size (FZ (·++vs.toArray))).push (Fx "list" vs.toArray 0)).get? (h.objs.size+1)=some (Fx "list" vs.toArray 0):=by rw [<- hsz]; exact E5 _ rfl
 have h2:=Il h1 (fun _=>#[]);exact ⟨_,Il (ς _ (ς _ h2)) (fun _=>out)⟩
theorem Vals.intsAre:∀ {ns:List Int} {us:List χ},Vals (ns.map V.int) us->Ky us ns
 | [],_,.nil=>.nil
 | n::ns,_,.cons ⟨t,e⟩ r=>by subst e; exact .cons n t (Vals.intsAre r)
theorem j8:∀ {ns:List Int} {us:List χ},Ky us ns->Vals (ns.map V.int) us
 | _,_,.nil=>.nil
 | _,_,.cons n t h=>.cons ⟨t,rfl⟩ (j8 h)
noncomputable def toV:χ->V
 | .ref b=>.ref b
 | _=>.non
theorem Vals.refs:∀ {xs:List V} {us:List χ},Vals xs us->(∀ v∈xs,∃ b,v=.ref b)->us.map toV=xs/\∀ u∈us,∃ b,u=.ref b
 | _,_,.nil,_=>⟨rfl,fun u hu=>nomatch hu⟩
 | v::xs,u::us,.cons r rs,h=>by
  obtain ⟨b,rfl⟩:=h v θ;have r:u=Fj b:=r;subst r;obtain ⟨h1,h2⟩:=Vals.refs rs fun v hv=>h v (Ξ _ hv);refine ⟨by rw [Fg,h1]; rfl,fun u hu=>?_⟩;rcases BF.mp hu with rfl | hu
  ·exact ⟨b,rfl⟩
  ·exact h2 u hu
theorem gZ:∀ {us:List χ},(∀ u∈us,∃ b,u=.ref b)->Vals (us.map toV) us
 | [],_=>.nil
 | u::us,h=>by
  obtain ⟨b,rfl⟩:=h u θ;exact .cons rfl (gZ fun u hu=>h u (Ξ _ hu))
theorem rY {X:Cx} (K:W.Frag) (hK:X.K=K):bS X (.builtin "sorted") (zb K):=by
 subst hK;intro pins s σ H xs us Q I hv h;obtain ⟨a,ys,rfl,hl,h⟩:=h
 cases hv with
 | cons r hv =>
 cases hv
 cases r;obtain ⟨its,rv,pl,hz⟩:=I.list hl;have hlen:=rv.length;have hz':its.length<=sizeLine:=by omega
 rcases h with ⟨g,hg,h⟩ | ⟨ns,rfl,h⟩
 ·obtain ⟨em,hr⟩:=rv.refs fun v hv=>let ⟨b,e,_⟩:=hg v hv; ⟨b,e⟩
  have hp:∀ u∈its,∃ b,u=.ref b/\b<s.heap.objs.size/\Ts.bD s.heap u (g (toV u)):=by
   intro u hu;obtain ⟨b,rfl⟩:=hr u hu;have hm:V.ref b∈ys:=by rw [<- em]; exact F1.mpr ⟨_,hu,rfl⟩
   obtain ⟨b',e,hb⟩:=hg _ hm
   cases e;obtain ⟨_,its2,r2,o,ho,hc,n,hd⟩:=I.hok _ _ hb;refine ⟨b,rfl,E1 ho,?_⟩
   cases r2 with
   | cons q1 r2 =>
   obtain ⟨t1,rfl⟩:=q1
   cases r2 with
   | cons q2 r2 =>
   obtain ⟨t2,rfl⟩:=q2
   cases r2;exact ⟨b,o,t1,t2,n,rfl,ho,hc,hd⟩
  refine Ts.mf (κ:=Kx true) (S:=fun x=>x∈(Ho its).toList) (lt:=fun x y=>Ts.plt (g (toV x.1)) (g (toV y.1))) (Ts.sU fun u=>g (toV u)) pl.isList hz' (fun h' keep=>Ts.rC (g:=fun u=>g (toV u)) fun u hu=>?_) (fun x hx=>hx) fun out hperm hs=>?_
  ·obtain ⟨b,rfl,hlt,b',o,t1,t2,n,e,h1,h2,h3⟩:=hp u hu
   cases e;exact ⟨⟨b,o,t1,t2,n,rfl,keep _ _ h1,h2,h3⟩,fun e=>by injection e with e; rw [e] at hlt; exact absurd hlt (LF.mpr (HU _))⟩
  ·have hperm':out.toList.Perm (its.zip its):=by rw [<- IV]; exact Gi.mp hperm
   have hmem:∀ p∈out.toList,p.1=p.2/\p.1∈its:=fun p hp'=>Ig (hperm'.mem_iff.mp hp');have e2:(out.map (·.2)).toList=out.toList.map (·.1):=by rw [J_]; exact Ge fun p hp'=>(hmem p hp').1.symm
   have pm:(out.toList.map (·.1)).Perm its:=by
    have:=hperm'.map MC
    rw [Ld (BE _)] at this;exact this
   have hn:H (s.heap.objs.size+1)=none:=I.hok.fresh (by omega);have q:=h (s.heap.objs.size+1) ((out.toList.map (·.1)).map toV) hn (by rw [<- em]; exact pm.map toV) (by
    rw [GF,Hz];exact hs.imp fun {x y} hxy=>Ts.da.mp hxy)
   obtain ⟨n,hnew⟩:=fi (h:=s.heap) (vs:=its) (out:=out.map (·.2));refine ⟨.ref _,_,I.laid (t':=s.toks) (o:=.lst ((out.toList.map (·.1)).map toV)) (fun b u q=>eN q) (by omega) ?_,rfl,q⟩;refine ⟨by rw [Θ,pm.length_eq]; exact hz',out.toList.map (·.1),n,gZ fun u hu=>hr u (pm.mem_iff.mp hu),?_⟩;rw [hnew,<- e2,Ja]
 ·have hI:=Vals.intsAre rv;refine Ts.mf (κ:=oneType') (S:=fun x=>x∈(Ho its).toList) (lt:=fun x y=>decide (LC x.1<LC y.1)) Ts.vI pl.isList hz' (fun h' keep=>Ts.tN hI) (fun x hx=>hx) fun out hperm hs=>?_;have hperm':out.toList.Perm (its.zip its):=by rw [<- IV]; exact Gi.mp hperm
  have hmem:∀ p∈out.toList,p.1=p.2/\p.1∈its:=fun p hp'=>Ig (hperm'.mem_iff.mp hp');have e2:(out.map (·.2)).toList=out.toList.map (·.1):=by rw [J_]; exact Ge fun p hp'=>(hmem p hp').1.symm
  have pm:(out.toList.map (·.1)).Perm its:=by
   have:=hperm'.map MC
   rw [Ld (BE _)] at this;exact this
  have hn:H (s.heap.objs.size+1)=none:=I.hok.fresh (by omega);have hI2:=intsAre_map (out.toList.map (·.1)) fun v hv=>hI.all v (pm.mem_iff.mp hv);have q:=h (s.heap.objs.size+1) ((out.toList.map (·.1)).map LC) hn (by have:=pm.map LC; rw [hI.nums] at this; exact this) (by
   rw [GF,Hz];exact hs.imp fun {x y} hxy=>by have:¬ LC y.1<LC x.1:=of_decide_eq_false hxy; show LC x.1<=LC y.1; omega)
  obtain ⟨n,hnew⟩:=fi (h:=s.heap) (vs:=its) (out:=out.map (·.2));refine ⟨.ref _,_,I.laid (t':=s.toks) (o:=.lst (((out.toList.map (·.1)).map LC).map V.int)) (fun b u q=>eN q) (by omega) ?_,rfl,q⟩;refine ⟨by rw [Θ,Θ,pm.length_eq]; exact hz',out.toList.map (·.1),n,j8 hI2,?_⟩;rw [hnew,<- e2,Ja]
theorem zy {K:W.Frag} {a:Δ} {xs:List V} {H:Hp} {Q:VK} (g:V->Int×Int) (e:H a=some (.lst xs)) (hg:∀ v∈xs,PtV H v (g v)) (h:∀ (l:Δ) (ys:List V),H l=none->ys.Perm xs->ys.Pairwise (fun x y=>Ts.ple (g x) (g y))->Q (.ref l) (upd H l (.lst ys))):zb K [.ref a] H Q:=⟨a,xs,rfl,SqL.of e,.inl ⟨g,hg,h⟩⟩
end L2
namespace Sm
noncomputable abbrev Pnt:=Int×Int
structure Gr (nb:Pnt->List Pnt):Prop where
 nd:∀ a,(nb a).Nodup
 le2:∀ a,(nb a).length<=2
 sym:∀ {a b},b∈nb a->a∈nb b
 irr:∀ a,a∉nb a
noncomputable def oth (nb:Pnt->List Pnt) (a b:Pnt):List Pnt:=(nb b).filter fun c=>!decide (c=a)
def Go (nb:Pnt->List Pnt):Pnt->Pnt->List Pnt->Prop
 | _,_,[]=>True
 | a,b,c::l=>oth nb a b=[c]/\Go nb b c l
noncomputable def fin:Pnt->Pnt->List Pnt->Pnt×Pnt
 | a,b,[]=>(a,b)
 | _,b,c::l=>fin b c l
section
variable {nb:Pnt->List Pnt}
theorem aP {a b c:Pnt}:c∈oth nb a b↔c∈nb b/\c≠a:=by
 unfold oth;rw [G1,LQ,decide_eq_false_iff_not]
theorem ft:∀ (a b:Pnt) (l:List Pnt) (c:Pnt),fin a b (l++[c])=((fin a b l).2,c)
 | a,b,[],c=>rfl
 | a,b,d::l,c=>ft b d l c
theorem cT:∀ {a b:Pnt} {l:List Pnt} {c:Pnt},Go nb a b (l++[c])↔Go nb a b l/\oth nb (fin a b l).1 (fin a b l).2=[c]
 | a,b,[],c=>⟨fun h=>⟨trivial,h.1⟩,fun h=>⟨h.2,trivial⟩⟩
 | a,b,d::l,c=>⟨fun h=>⟨⟨h.1,(cT.mp h.2).1⟩,(cT.mp h.2).2⟩,fun h=>⟨h.1.1,cT.mpr ⟨h.1.2,h.2⟩⟩⟩
theorem bZ:∀ (a b:Pnt) (l:List Pnt),(fin a b l).2∈b::l/\(fin a b l).1∈a::b::l
 | a,b,[]=>⟨θ,θ⟩
 | a,b,c::l=>⟨Ξ _ (bZ b c l).1,Ξ _ (bZ b c l).2⟩
theorem gp:∀ (a b:Pnt) (l:List Pnt),(a::b::l).getLast?=some (fin a b l).2
 | a,b,[]=>rfl
 | a,b,c::l=>by rw [KD]; exact gp b c l
theorem i6 {a b c:Pnt} {l:List Pnt} (g:Go nb a b (c::l)):c∈nb b/\c≠a:=by
 have:c∈oth nb a b:=by rw [g.1]; exact A_.mpr rfl
 exact aP.mp this
theorem c7 (G:Gr nb):∀ {a b:Pnt} {l:List Pnt},b∈nb a->Go nb a b l->(fin a b l).2∈nb (fin a b l).1
 | a,b,[],h,_=>h
 | a,b,c::l,h,g=>c7 G (l:=l) (i6 g).1 g.2
theorem two_of (G:Gr nb) {a x y z:Pnt} (hx:x∈nb a) (hy:y∈nb a) (hz:z∈nb a) (hxy:x≠y):z=x\/z=y:=by
 have h2:=G.le2 a;have hn:=G.nd a
 match hq:nb a,hx,hy,hz,h2,hn with
 | [],hx,_,_,_,_=>cases hx
 | [p],hx,hy,_,_,_=>exact absurd ((A_.mp hx).trans (A_.mp hy).symm) hxy
 | [p,q],hx,hy,hz,_,_ =>
  simp only [BF,FJ,or_false] at hx hy hz;rcases hx with rfl | rfl<;>rcases hy with rfl | rfl<;>rcases hz with rfl | rfl<;>first | exact .inl rfl | exact .inr rfl | exact absurd rfl hxy
 | p::q::r::l,_,_,_,h2,_=>simp at h2
theorem iD (G:Gr nb) {a b:Pnt} (h:a∈nb b):oth nb a b=[]\/∃ c,oth nb a b=[c]:=by
 have hl:(oth nb a b).length<=1:=by
  match hq:oth nb a b with
  | [] => exact Fi _
  | [c] => exact BE _
  | c :: d :: l =>
   have hn:(oth nb a b).Nodup:=Fd (List.filter_sublist) (G.nd b);have hc:c∈oth nb a b:=by rw [hq]; exact θ
   have hd:d∈oth nb a b:=by rw [hq]; exact Ξ _ θ
   have ne:c≠d:=by
    rw [hq] at hn;intro e;exact (Fb.mp hn).1 (by rw [e]; exact θ)
   rcases two_of G (aP.mp hc).1 (aP.mp hd).1 h ne with e | e
   ·exact absurd e.symm (aP.mp hc).2
   ·exact absurd e.symm (aP.mp hd).2
 match hq:oth nb a b,hl with
 | [],_=>exact .inl rfl
 | [c],_=>exact .inr ⟨c,rfl⟩
 | c::d::l,hl=>simp at hl
theorem oO (G:Gr nb) {a b c:Pnt} (h:a∈nb b) (hc:c∈nb b) (hne:c≠a):oth nb a b=[c]:=by
 rcases iD G h with e | ⟨d,e⟩
 ·have:c∈oth nb a b:=aP.mpr ⟨hc,hne⟩
  rw [e] at this; cases this
 ·have:c∈oth nb a b:=aP.mpr ⟨hc,hne⟩
  rw [e] at this;rw [e,A_.mp this]
theorem yD (G:Gr nb) {a b c:Pnt} (h:a∈nb b) (e:oth nb a b=[c]):oth nb c b=[a]:=by
 have hc:c∈oth nb a b:=by rw [e]; exact A_.mpr rfl
 exact oO G (aP.mp hc).1 h fun z=>(aP.mp hc).2 z.symm
theorem cD (G:Gr nb) {a b:Pnt} (hb:b∈nb a):∀ (l:List Pnt),Go nb a b l->a∉l->(a::b::l).Nodup:=by
 intro l
 induction hl:l.length generalizing l with
 | zero =>
  intro _ _;have:l=[]:=F2 hl
  subst this;exact Fb.mpr ⟨fun h=>G.irr a (by rw [A_.mp h] at hb ⊢; exact hb),Fb.mpr ⟨(fun h=>nomatch h),Io⟩⟩
 | succ n ih =>
  intro g ha;obtain ⟨m,z,rfl⟩:∃ m z,l=m++[z]:=⟨l.dropLast,l.getLast (fun e=>by rw [e] at hl; cases hl),(GN _).symm⟩
  obtain ⟨g1,g2⟩:=cT.mp g;have hm:m.length=n:=by rw [BG] at hl; simpa using hl
  have ham:a∉m:=fun h=>ha (Ff _ h);have nd:=ih m hm g1 ham;have hz:z∈oth nb (fin a b m).1 (fin a b m).2:=by rw [g2]; exact A_.mpr rfl
  have hz1:=(aP.mp hz).1;have hz2:=(aP.mp hz).2;have hza:z≠a:=fun e=>ha (by rw [e]; exact E3 _ (A_.mpr rfl))
  -- z is none of the points before
  have key:∀ (a b:Pnt) (m:List Pnt),b∈nb a->Go nb a b m->(a::b::m).Nodup->z∈nb (fin a b m).2->z≠(fin a b m).1->z≠a->z∉b::m:=by
   intro a b m
   induction m generalizing a b with
   | nil =>
    intro hb _ _ hz1 hz2 hza hm;rw [A_.mp hm] at hz1;exact G.irr b hz1
   | cons c m ih2 =>
    intro hb g nd hz1 hz2 hza hm;have hc:c∈oth nb a b:=by rw [g.1]; exact A_.mpr rfl
    have nd2:=(Fb.mp nd).2;rcases BF.mp hm with e | hm
    ·-- z is b: its neighbours are a and c
     have hy:=G.sym hz1;rw [e] at hy;have hne:a≠c:=fun x=>(aP.mp hc).2 x.symm;rcases two_of G (G.sym hb) (aP.mp hc).1 hy hne with q | q
     ·have:=(bZ b c m).1
      rw [show (fin a b (c::m))=fin b c m from rfl] at q;rw [q] at this;exact (Fb.mp nd).1 (Ξ _ this)
     ·rw [show (fin a b (c::m))=fin b c m from rfl] at q hz2
      match m,q,nd2,hz2 with
      | [],q,_,hz2=>exact hz2 e
      | d::m,q,nd2,_ =>
       have:=(bZ c d m).1
       rw [show fin b c (d::m)=fin c d m from rfl] at q;rw [q] at this;exact (Fb.mp (Fb.mp nd2).2).1 this
    ·by_cases hzb:z=b
     ·rw [hzb] at hm;exact (Fb.mp nd2).1 hm
     ·exact ih2 b c (aP.mp hc).1 g.2 nd2 hz1 hz2 hzb hm
  have hnot:=key a b m hb g1 nd hz1 hz2 hza
  show ((a::b::m)++[z]).Nodup
  rw [HY];refine ⟨nd,Fb.mpr ⟨(fun h=>nomatch h),Io⟩,fun x hx y hy e=>?_⟩;rw [A_.mp hy] at e;rw [e] at hx;rcases BF.mp hx with q | q
  ·exact hza q
  ·exact hnot q
theorem jY:∀ {a b:Pnt} {l l':List Pnt},Go nb a b l->Go nb a b l'->oth nb (fin a b l).1 (fin a b l).2=[]->oth nb (fin a b l').1 (fin a b l').2=[]->l=l'
 | _,_,[],[],_,_,_,_=>rfl
 | a,b,[],c::l',_,g,e,_=>by have h:=g.1; have e:oth nb a b=[]:=e; rw [e] at h; cases h
 | a,b,c::l,[],g,_,_,e=>by have h:=g.1; have e:oth nb a b=[]:=e; rw [e] at h; cases h
 | _,_,c::l,c'::l',g,g',e,e'=>by
  have h:=g.1.symm.trans g'.1
  cases h;rw [jY g.2 g'.2 e e']
theorem i4 {s:Pnt}:∀ {a b:Pnt} {l l':List Pnt},Go nb a b l->Go nb a b l'->s∉l->s∉l'->oth nb (fin a b l).1 (fin a b l).2=[s]->oth nb (fin a b l').1 (fin a b l').2=[s]->l=l'
 | _,_,[],[],_,_,_,_,_,_=>rfl
 | a,b,[],c::l',_,g,_,n,e,_=>by
  have h:=g.1;have e:oth nb a b=[s]:=e;rw [e] at h; cases h;exact absurd θ n
 | a,b,c::l,[],g,_,n,_,_,e=>by
  have h:=g.1;have e:oth nb a b=[s]:=e;rw [e] at h; cases h;exact absurd θ n
 | _,_,c::l,c'::l',g,g',n,n',e,e'=>by
  have h:=g.1.symm.trans g'.1
  cases h;rw [i4 g.2 g'.2 (fun h=>n (Ξ _ h)) (fun h=>n' (Ξ _ h)) e e']
structure ka (nb:Pnt->List Pnt) (a b:Pnt) (l:List Pnt):Prop where
 adj:b∈nb a
 go:Go nb a b l
 one:(nb a).length=1
 stop:oth nb (fin a b l).1 (fin a b l).2=[]
 nd:(a::b::l).Nodup
structure Rnd (nb:Pnt->List Pnt) (a b:Pnt) (l:List Pnt):Prop where
 adj:b∈nb a
 go:Go nb a b l
 stop:oth nb (fin a b l).1 (fin a b l).2=[a]
 nd:(a::b::l).Nodup
def xu (nb:Pnt->List Pnt) (L:List Pnt):Prop:=∀ x∈L,∀ y∈nb x,y∈L
theorem md (G:Gr nb):∀ {a b:Pnt} {l:List Pnt},b∈nb a->Go nb a b l->∀ x∈b::l,x≠(fin a b l).2\/oth nb (fin a b l).1 (fin a b l).2=[]->∀ y∈nb x,y∈a::b::l
 | a,b,[],hb,_,x,hx,h,y,hy=>by
  have e:=A_.mp hx;rcases h with h | h
  ·exact absurd e h
  ·rw [e] at hy;by_cases hya:y=a
   ·rw [hya]; exact θ
   ·have:y∈oth nb a b:=aP.mpr ⟨hy,hya⟩
    rw [show oth nb a b=[] from h] at this; cases this
 | a,b,c::l,hb,g,x,hx,h,y,hy=>by
  have hc:c∈oth nb a b:=by rw [g.1]; exact A_.mpr rfl
  rcases BF.mp hx with e | hx
  ·rw [e] at hy;rcases two_of G (G.sym hb) (aP.mp hc).1 hy (fun x=>(aP.mp hc).2 x.symm) with q | q
   ·rw [q]; exact θ
   ·rw [q]; exact Ξ _ (Ξ _ θ)
  ·exact Ξ _ (md G (aP.mp hc).1 g.2 x hx h y hy)
theorem ka.shut (G:Gr nb) {a b:Pnt} {l:List Pnt} (h:ka nb a b l):xu nb (a::b::l):=by
 intro x hx y hy;rcases BF.mp hx with e | hx
 ·rw [e] at hy;have h1:=h.one
  match hq:nb a,h1 with
  | [c], _ =>
   have e1:=h.adj;rw [hq] at hy e1;rw [A_.mp hy,<- A_.mp e1];exact Ξ _ θ
 ·exact md G h.adj h.go x hx (.inr h.stop) y hy
theorem Rnd.last (G:Gr nb) {a b:Pnt} {l:List Pnt} (h:Rnd nb a b l):(fin a b l).2∈nb a/\(fin a b l).2≠b:=by
 have ha:a∈oth nb (fin a b l).1 (fin a b l).2:=by rw [h.stop]; exact A_.mpr rfl
 refine ⟨G.sym (aP.mp ha).1,fun e=>?_⟩
 match l,h,ha,e with
 | [],h,ha,_=>exact (aP.mp ha).2 rfl
 | c::l,h,_,e =>
  have:=(bZ b c l).1
  rw [show fin a b (c::l)=fin b c l from rfl] at e;rw [e] at this;exact (Fb.mp (Fb.mp h.nd).2).1 this
theorem Rnd.shut (G:Gr nb) {a b:Pnt} {l:List Pnt} (h:Rnd nb a b l):xu nb (a::b::l):=by
 intro x hx y hy;obtain ⟨h1,h2⟩:=h.last G;have hl:(fin a b l).2∈a::b::l:=Ξ _ (bZ a b l).1;rcases BF.mp hx with e | hx
 ·rw [e] at hy;rcases two_of G h.adj h1 hy (Gd h2) with q | q
  ·rw [q]; exact Ξ _ θ
  ·rw [q]; exact hl
 ·by_cases hz:x=(fin a b l).2
  ·rw [hz] at hy;by_cases hyq:y=(fin a b l).1
   ·rw [hyq]; exact (bZ a b l).2
   ·have:y∈oth nb (fin a b l).1 (fin a b l).2:=aP.mpr ⟨hy,hyq⟩
    rw [h.stop] at this;rw [A_.mp this]; exact θ
  ·exact md G h.adj h.go x hx (.inl hz) y hy
theorem i7 (G:Gr nb) {L:List Pnt} (hS:xu nb L):∀ {a b:Pnt} {l:List Pnt},b∈nb a->Go nb a b l->∀ q∈a::b::l,q∈L->∀ x∈a::b::l,x∈L
 | a,b,[],hb,_,q,hq,hqL,x,hx=>by
  have hab:a∈L/\b∈L:=by
   rcases BF.mp hq with e | hq
   ·rw [e] at hqL; exact ⟨hqL,hS a hqL b hb⟩
   ·rw [A_.mp hq] at hqL; exact ⟨hS b hqL a (G.sym hb),hqL⟩
  rcases BF.mp hx with e | hx
  ·rw [e]; exact hab.1
  ·rw [A_.mp hx]; exact hab.2
 | a,b,c::l,hb,g,q,hq,hqL,x,hx=>by
  have hc:c∈oth nb a b:=by rw [g.1]; exact A_.mpr rfl
  have hc:=(aP.mp hc).1;rcases BF.mp hq with e | hq
  ·rw [e] at hqL;have hbL:=hS a hqL b hb;rcases BF.mp hx with e | hx
   ·rw [e]; exact hqL
   ·exact i7 G hS hc g.2 b θ hbL x hx
  ·rcases BF.mp hx with e | hx
   ·have hbL:=i7 G hS hc g.2 q hq hqL b θ;rw [e]; exact hS b hbL a (G.sym hb)
   ·exact i7 G hS hc g.2 q hq hqL x hx
theorem Rnd.two (G:Gr nb) {a b:Pnt} {l:List Pnt} (h:Rnd nb a b l):∀ x∈a::b::l,(nb x).length=2:=by
 have two:∀ {x y z:Pnt},y∈nb x->z∈nb x->y≠z->(nb x).length=2:=by
  intro x y z hy hz hne;have h2:=G.le2 x
  match hq:nb x,hy,hz,h2 with
  | [], hy, _, _ => cases hy
  | [p], hy, hz, _ => exact absurd ((A_.mp hy).trans (A_.mp hz).symm) hne
  | [p, q], _, _, _ => rfl
  | p :: q :: r :: m, _, _, h2 => simp at h2
 obtain ⟨h1,h2⟩:=h.last G
 have mid:∀ {a b:Pnt} {l:List Pnt},b∈nb a->Go nb a b l->∀ x∈b::l,x≠(fin a b l).2->(nb x).length=2:=by
  intro a b l
  induction l generalizing a b with
  | nil => intro _ _ x hx hne; exact absurd (A_.mp hx) hne
  | cons c l ih =>
   intro hb g x hx hne;have hc:c∈oth nb a b:=by rw [g.1]; exact A_.mpr rfl
   rcases BF.mp hx with e | hx
   ·rw [e]; exact two (G.sym hb) (aP.mp hc).1 fun z=>(aP.mp hc).2 z.symm
   ·exact ih (aP.mp hc).1 g.2 x hx hne
 intro x hx;rcases BF.mp hx with e | hx
 ·rw [e]; exact two h.adj h1 (Gd h2)
 ·by_cases hz:x=(fin a b l).2
  ·rw [hz];have ha:a∈oth nb (fin a b l).1 (fin a b l).2:=by rw [h.stop]; exact A_.mpr rfl
   exact two (G.sym (c7 G h.adj h.go)) (aP.mp ha).1 fun z=>(aP.mp ha).2 z.symm
  ·exact mid h.adj h.go x hx hz
end
end Sm
namespace Sm
section
variable {nb:Pnt->List Pnt}
theorem two_len (G:Gr nb) {x y z:Pnt} (hy:y∈nb x) (hz:z∈nb x) (hne:y≠z):(nb x).length=2:=by
 have h2:=G.le2 x
 match hq:nb x,hy,hz,h2 with
 | [],hy,_,_=>cases hy
 | [p],hy,hz,_=>exact absurd ((A_.mp hy).trans (A_.mp hz).symm) hne
 | [p,q],_,_,_=>rfl
 | p::q::r::m,_,_,h2=>simp at h2
theorem CC (G:Gr nb):∀ {a b:Pnt} {l:List Pnt},b∈nb a->Go nb a b l->∀ x∈b::l,x≠(fin a b l).2->(nb x).length=2:=by
 intro a b l
 induction l generalizing a b with
 | nil=>intro _ _ x hx hne; exact absurd (A_.mp hx) hne
 | cons c l ih =>
  intro hb g x hx hne;have hc:=i6 g;rcases BF.mp hx with e | hx
  ·rw [e]; exact two_len G (G.sym hb) hc.1 fun z=>hc.2 z.symm
  ·exact ih hc.1 g.2 x hx hne
theorem ka.lastOne (G:Gr nb) {a b:Pnt} {l:List Pnt} (h:ka nb a b l):nb (fin a b l).2=[(fin a b l).1]:=by
 have h1:=G.sym (c7 G h.adj h.go);have hs:=h.stop;have all:∀ y∈nb (fin a b l).2,y=(fin a b l).1:=fun y hy=>by
  by_cases e:y=(fin a b l).1
  ·exact e
  ·have:y∈oth nb (fin a b l).1 (fin a b l).2:=aP.mpr ⟨hy,e⟩
   rw [hs] at this; cases this
 have hn:=G.nd (fin a b l).2
 match hq:nb (fin a b l).2,h1,all,hn with
 | [],h1,_,_=>cases h1
 | [p],_,all,_=>rw [all p θ]
 | p::q::r,_,all,hn=>exact absurd ((all p θ).trans (all q (Ξ _ θ)).symm) fun e=>(Fb.mp hn).1 (by rw [e]; exact θ)
theorem oW (G:Gr nb):∀ {a b:Pnt} {l:List Pnt},b∈nb a->Go nb a b l->∃ m,(a::b::l).reverse=(fin a b l).2::(fin a b l).1::m/\Go nb (fin a b l).2 (fin a b l).1 m/\fin (fin a b l).2 (fin a b l).1 m=(b,a)
 | a,b,[],hb,_=>⟨[],rfl,trivial,rfl⟩
 | a,b,c::l,hb,g=>by
  have hc:=i6 g;obtain ⟨m,h1,h2,h3⟩:=oW G hc.1 g.2;refine ⟨m++[a],?_,?_,?_⟩
  ·rw [Hy,h1]; rfl
  ·refine cT.mpr ⟨h2,?_⟩;rw [show fin a b (c::l)=fin b c l from rfl,h3];exact yD G (G.sym hb) g.1
  ·rw [ft,show fin a b (c::l)=fin b c l from rfl,h3]
theorem ka.rev (G:Gr nb) {a b:Pnt} {l:List Pnt} (h:ka nb a b l):∃ m,(a::b::l).reverse=(fin a b l).2::(fin a b l).1::m/\ka nb (fin a b l).2 (fin a b l).1 m/\(fin (fin a b l).2 (fin a b l).1 m).2=a:=by
 obtain ⟨m,h1,h2,h3⟩:=oW G h.adj h.go;have h4:=h.lastOne G;refine ⟨m,h1,⟨by rw [h4]; exact A_.mpr rfl,h2,by rw [h4]; rfl,?_,?_⟩,by rw [h3]⟩
 ·rw [h3];have h5:=h.one;have h6:=h.adj
  match hq:nb a,h5,h6 with
  | [c], _, h6 =>
   unfold oth;rw [hq,A_.mp h6];simp
 ·rw [<- h1]; exact (List.reverse_perm _).nodup_iff.mpr h.nd
structure dn (nb:Pnt->List Pnt) (f:Bool) (L:List Pnt):Prop where
 op:f=false->∃ a b l,L=a::b::l/\ka nb a b l/\Ts.plt a (fin a b l).2=true
 rd:f=true->∃ a b l,L=a::b::l/\Rnd nb a b l/\(∀ x∈L,Ts.ple a x)/\b=(a.1+1,a.2)
theorem dn.path {f:Bool} {L:List Pnt} (h:dn nb f L):∃ a b l,L=a::b::l/\b∈nb a/\Go nb a b l/\L.Nodup:=by
 cases f with
 | false=>obtain ⟨a,b,l,e,o,_⟩:=h.op rfl; exact ⟨a,b,l,e,o.adj,o.go,by rw [e]; exact o.nd⟩
 | true=>obtain ⟨a,b,l,e,o,_⟩:=h.rd rfl; exact ⟨a,b,l,e,o.adj,o.go,by rw [e]; exact o.nd⟩
theorem dn.shut (G:Gr nb) {f:Bool} {L:List Pnt} (h:dn nb f L):xu nb L:=by
 cases f with
 | false=>obtain ⟨a,b,l,rfl,o,_⟩:=h.op rfl; exact o.shut G
 | true=>obtain ⟨a,b,l,rfl,o,_⟩:=h.rd rfl; exact o.shut G
theorem dn.sub (G:Gr nb) {f f':Bool} {L L':List Pnt} (h:dn nb f L) (h':dn nb f' L') {q:Pnt} (hq:q∈L) (hq':q∈L'):∀ x∈L',x∈L:=by
 obtain ⟨a,b,l,rfl,hb,g,_⟩:=h'.path;exact i7 G (h.shut G) hb g q hq' hq
theorem yT {p q:Pnt} (h1:Ts.ple p q) (h2:Ts.ple q p):p=q:=by
 unfold Ts.ple at h1 h2;exact G5 (by omega) (by omega)
theorem dn.uniq (G:Gr nb) {f f':Bool} {L L':List Pnt} (h:dn nb f L) (h':dn nb f' L') {q:Pnt} (hq:q∈L) (hq':q∈L'):f=f'/\L=L':=by
 have s1:=h.sub G h' hq hq';have s2:=h'.sub G h hq' hq
 cases f with
 | false =>
  obtain ⟨a,b,l,rfl,o,hlt⟩:=h.op rfl
  have ends:∀ x∈a::b::l,(nb x).length=1->x=a\/x=(fin a b l).2:=by
   intro x hx h1;rcases BF.mp hx with e | hx
   ·exact .inl e
   ·by_cases e:x=(fin a b l).2
    ·exact .inr e
    ·have:=CC G o.adj o.go x hx e
     omega
  cases f' with
  | false =>
   obtain ⟨a',b',l',rfl,o',hlt'⟩:=h'.op rfl;refine ⟨rfl,?_⟩;have hl':(fin a' b' l').2∈a'::b'::l':=Ξ _ (bZ a' b' l').1
   have ea:a'=a:=by
    rcases ends a' (s1 a' θ) o'.one with e | e
    ·exact e
    ·rcases ends (fin a' b' l').2 (s1 _ hl') (by rw [o'.lastOne G]; rfl) with e2 | e2
     ·rw [e2,e] at hlt';have h1:=Ts.lH.mp hlt;have h2:=Ts.lH.mp hlt';omega
     ·rw [<- e] at e2;have:=(bZ a' b' l').1
      rw [e2] at this;exact absurd this (Fb.mp o'.nd).1
   subst ea
   have eb:b'=b:=by
    have h1:=o.one;have h2:=o.adj;have h3:=o'.adj
    match hz:nb a',h1,h2,h3 with
    | [c],_,h2,h3=>rw [A_.mp h2,A_.mp h3]
   subst eb;rw [jY o.go o'.go o.stop o'.stop]
  | true =>
   obtain ⟨a',b',l',rfl,o',_⟩:=h'.rd rfl;have:=o'.two G a (s2 a θ)
   have:=o.one
   omega
 | true =>
  obtain ⟨a,b,l,rfl,o,hmin,hb⟩:=h.rd rfl
  cases f' with
  | false =>
   obtain ⟨a',b',l',rfl,o',hlt'⟩:=h'.op rfl;have:=o.two G a' (s1 a' θ)
   have:=o'.one
   omega
  | true =>
   obtain ⟨a',b',l',rfl,o',hmin',hb'⟩:=h'.rd rfl;refine ⟨rfl,?_⟩;have ea:a'=a:=yT (hmin' a (s2 a θ)) (hmin a' (s1 a' θ));subst ea;subst hb hb';have n1:=Fb.mp o.nd;have n2:=Fb.mp o'.nd;rw [i4 o.go o'.go (fun z=>n1.1 (Ξ _ z)) (fun z=>n2.1 (Ξ _ z)) o.stop o'.stop]
structure Wlk (nb:Pnt->List Pnt) (a b:Pnt) (l:List Pnt):Prop where
 adj:b∈nb a
 go:Go nb a b l
 nd:(a::b::l).Nodup
 stop:oth nb (fin a b l).1 (fin a b l).2=[]\/oth nb (fin a b l).1 (fin a b l).2=[a]
theorem Wlk.open (G:Gr nb) {a b:Pnt} {l:List Pnt} (w:Wlk nb a b l) (h1:(nb a).length=1):ka nb a b l:=by
 refine ⟨w.adj,w.go,h1,?_,w.nd⟩;rcases w.stop with h | h
 ·exact h
 ·have r:Rnd nb a b l:=⟨w.adj,w.go,h,w.nd⟩
  have:=r.two G a θ
  omega
theorem Wlk.round (G:Gr nb) {a b:Pnt} {l:List Pnt} (w:Wlk nb a b l) {L:List Pnt} (hS:xu nb L) (h2:∀ x∈L,(nb x).length=2) (ha:a∈L):Rnd nb a b l:=by
 refine ⟨w.adj,w.go,?_,w.nd⟩;rcases w.stop with h | h
 ·exfalso
  have hl:(fin a b l).2∈L:=i7 G hS w.adj w.go a θ ha _ (Ξ _ (bZ a b l).1);have h3:=h2 _ hl;have h1:=G.sym (c7 G w.adj w.go);have hn:=G.nd (fin a b l).2
  match hq:nb (fin a b l).2,h3,hn with
  | [p, q], _, hn =>
   have ne:p≠q:=fun e=>(Fb.mp hn).1 (by rw [e]; exact θ);have all:∀ y∈nb (fin a b l).2,y=(fin a b l).1:=fun y hy=>by
    by_cases e:y=(fin a b l).1
    ·exact e
    ·have:y∈oth nb (fin a b l).1 (fin a b l).2:=aP.mpr ⟨hy,e⟩
     rw [h] at this; cases this
   exact ne ((all p (by rw [hq]; exact θ)).trans (all q (by rw [hq]; exact Ξ _ θ)).symm)
 ·exact h
theorem Wlk.ended (G:Gr nb) {a b:Pnt} {l:List Pnt} (w:Wlk nb a b l):((nb (fin a b l).2).length=1↔oth nb (fin a b l).1 (fin a b l).2=[]):=by
 have h1:=G.sym (c7 G w.adj w.go);constructor
 ·intro h
  match hq:nb (fin a b l).2,h,h1 with
  | [p], _, h1 =>
   unfold oth;rw [hq,A_.mp h1];simp
 ·intro h;have all:∀ y∈nb (fin a b l).2,y=(fin a b l).1:=fun y hy=>by
   by_cases e:y=(fin a b l).1
   ·exact e
   ·have:y∈oth nb (fin a b l).1 (fin a b l).2:=aP.mpr ⟨hy,e⟩
    rw [h] at this; cases this
  have hn:=G.nd (fin a b l).2
  match hq:nb (fin a b l).2,h1,all,hn with
  | [], h1, _, _ => cases h1
  | [p], _, _, _ => rfl
  | p :: q :: r, _, all, hn => exact absurd ((all p θ).trans (all q (Ξ _ θ)).symm) fun e => (Fb.mp hn).1 (by rw [e]; exact θ)
theorem nJ (G:Gr nb) {a b:Pnt} {l:List Pnt} (o:ka nb a b l):(Ts.plt (fin a b l).2 a=true->dn nb false (a::b::l).reverse)/\(Ts.plt (fin a b l).2 a=false->dn nb false (a::b::l)):=by
 constructor
 ·intro h;obtain ⟨m,e,o2,e2⟩:=o.rev G;refine ⟨fun _=>⟨_,_,m,e,o2,?_⟩,fun e=>by cases e⟩;rw [e2]; exact h
 ·intro h;refine ⟨fun _=>⟨a,b,l,rfl,o,?_⟩,fun e=>by cases e⟩;have hne:(fin a b l).2≠a:=fun e=>(Fb.mp o.nd).1 (by rw [<- e]; exact (bZ a b l).1);have h:=Ts.da.mp h;refine Ts.lH.mpr ?_;unfold Ts.ple at h;rcases h with h | ⟨h,h'⟩
  ·exact .inl h
  ·refine .inr ⟨h,?_⟩;rcases Int.lt_or_eq_of_le h' with q | q
   ·exact q
   ·exact absurd (G5 h q).symm hne
end
end Sm
namespace Ts
open PySem PyProof.Rows PySem.W
section
variable {prog:FP} {w:F0} {A:Fv} {E:χ->AU->Prop} {s:AU}
theorem bD.ty {v:χ} {p:Int×Int} (h:bD s.heap v p):s.TypeIs v "tuple":=by
 obtain ⟨b,o,t,u,n,rfl,h1,h2,_⟩:=h;exact ⟨o,h1,h2⟩
theorem fe {v u:χ} {p q:Int×Int} {Q:χ->AU->Prop} (hu:A.units<Iq) (hv:bD s.heap v p) (hw:bD s.heap u q) (h:Q (.bool (plt p q)) s):FD (FQ prog w) A (richCompare .Lt v u) Q E s:=by
 refine wpAny_richCompare_same_room hv.ty hw.ty F.slot_tuple_lt (HJ F.slot_tuple_lt hv.ty F.entry_tuple_lt ?_ (F.args_tuple_lt_2 _ _)) hu;obtain ⟨b,o,t1,t2,n,rfl,h1,c1,d1⟩:=hv;obtain ⟨c,o2,t3,t4,m,rfl,h2,c2,d2⟩:=hw;unfold KW.«tuple.__lt__»;refine ξ (D_ ?_);dsimp only;refine ξ (MK (T:="tuple") (b:=true) ⟨o2,h2,c2⟩ (by rw [isSubtype_type]; kernel_rfl) ?_);rw [if_neg (by decide)];refine ξ (wpAny_tupleItemsOf h1 d1 (ξ (wpAny_tupleItemsOf h2 d2 ?_)))
 show FD (FQ prog w) A.in1 (forIn [(JQ p.1 t1,JQ q.1 t3),(JQ p.2 t2,JQ q.2 t4)] _ _ >>= _) _ E s
 have nn:∀ b:Bool,K3 b≠Value.notImplemented:=fun b e=>nomatch e
 refine ξ ?_;rw [Jg];refine ξ (ξ (Ji ?_));by_cases e1:p.1=q.1
 ·have e1':(p.1==q.1)=true:=by rw [e1]; exact beq_self_eq_true _
  rw [e1',if_neg (by decide)];refine D_ ?_;dsimp only;rw [Jg];refine ξ (ξ (Ji ?_));by_cases e2:p.2=q.2
  ·have e2':(p.2==q.2)=true:=by rw [e2]; exact beq_self_eq_true _
   rw [e2',if_neg (by decide)];refine D_ ?_;dsimp only;rw [ME];refine D_ ?_;have:plt p q=false:=da.mpr (by unfold ple; omega)
   rw [this] at h;exact D_ ⟨_,rfl,nn _,h⟩
  ·have e2':(p.2==q.2)=false:=by simpa using e2
   rw [e2',if_pos (by decide)];refine ξ (G4 ?_);refine ξ (wpAny_lt_int ?_);refine ξ (D_ (D_ ?_));dsimp only;refine D_ ?_;have:plt p q=decide (p.2<q.2):=by unfold plt; rw [e1]; simp
   rw [this] at h;exact D_ ⟨_,rfl,nn _,h⟩
 ·have e1':(p.1==q.1)=false:=by simpa using e1
  rw [e1',if_pos (by decide)];refine ξ (G4 ?_);refine ξ (wpAny_lt_int ?_);refine ξ (D_ (D_ ?_));dsimp only;refine D_ ?_;have:plt p q=decide (p.1<q.1):=by unfold plt; simp [e1]
  rw [this] at h;exact D_ ⟨_,rfl,nn _,h⟩
def dY (h:F6) (vs:List χ) (g:χ->Int×Int) (I S:Δ):Prop:=∀ v∈vs,bD h v (g v)/\v≠.ref I/\v≠.ref S
theorem dY.keep {h h':F6} {vs:List χ} {g:χ->Int×Int} {I S:Δ} (a:dY h vs g I S) (k:∀ b o,b≠I->b≠S->h.get? b=some o->h'.get? b=some o):dY h' vs g I S:=by
 intro v hv;obtain ⟨⟨b,o,t,u,n,rfl,h1,h2,h3⟩,n1,n2⟩:=a v hv;exact ⟨⟨b,o,t,u,n,rfl,k b o (fun e=>n1 (by rw [e])) (fun e=>n2 (by rw [e])) h1,h2,h3⟩,n1,n2⟩
theorem v5 {p q r:Int×Int} (h:ple p q) (h':ple q r):ple p r:=by unfold ple at *; omega
theorem qV (p:Int×Int):ple p p:=by unfold ple; omega
theorem CO {R:Result->AU->Prop} {I l S:Δ} {vs:List χ} {g:χ->Int×Int} (hu:A.units+8<Iq) (hh:A.in1.handled=none) (hl:l≠I) (hSI:S≠I) (hSl:S≠l) :
  ∀ (k j:Nat) (s:AU) (vb:χ) (c:Nat),vs.length - (j+1)=k->j+1<=vs.length->s.heap.IsListIter I l (j+1)->s.heap.IsList l vs.toArray->dY s.heap vs g I S->vb∈vs->(∀ i v,i<=j->vs[i]?=some v->ple (g vb) (g v)) ->
  s.heap.get? S=some { cls:=.type "list",dict:=none,data:=.seq #[vb,vb] c,slots:=#[] } ->
  (∀ v h' tk,v∈vs->(∀ u∈vs,ple (g v) (g u))->(∀ b o,b≠I->b≠S->s.heap.get? b=some o->h'.get? b=some o)->R (.ok (.ret v)) { s with heap:=h',toks:=tk }) ->
  JV (FQ prog w) A (.builtin "min.loop" ⟨[.ref I,.none,.ref S],[]⟩) R s:=by
 have W:=Lz (prog:=prog) (w:=w) hh I l hl vs.toArray;have nm:(toString "min"++toString ".loop":String)="min.loop":=by decide
 have sz:vs.toArray.size=vs.length:=by simp
 intro k
 induction k with
 | zero =>
  intro j s vb c hk hj hit hls hap hvb hmin hS hR
  (refine Me L7 ?_; rw [Ko IP _]; show FD _ A.in1 (MM (.ref S) >>= _) _ _ s; refine ξ (G3 hS rfl ?_))
  (show FD _ A.in1 (tryCatch (LB (.ref I)) _ >>= _) _ _ s; refine ξ (K_ (W.done s _ _ ⟨by rw [sz,show vs.length=j+1 by omega]; exact hit,hls⟩ fun h' tk hk'=>?_)))
  have hS':=hk' S _ (by simp [hSI]) hS
  (show FD _ A.in1 (updateSeq S (fun _=>#[]) >>= _) _ _ _; refine ξ ?_; refine Kz hS' rfl (ξ (JM (D_ ?_))))
  refine hR vb _ tk hvb (fun u hu'=>?_) fun b o hI hbS e=>(Fy _ _ (Gd hbS)).trans (hk' b o (by simp [hI]) e);obtain ⟨i,hi⟩:=GS.mp hu';exact hmin i u (by have:=(C_.mp hi).1; omega) hi
 | succ k ih =>
  intro j s vb c hk hj hit hls hap hvb hmin hS hR
  (refine Me L7 ?_; rw [Ko IP _]; show FD _ A.in1 (MM (.ref S) >>= _) _ _ s; refine ξ (G3 hS rfl ?_))
  (show FD _ A.in1 (tryCatch (LB (.ref I)) _ >>= _) _ _ s; refine ξ (K_ (W.item (j+1) s _ _ (by omega) ⟨hit,hls⟩ fun v h' tk hP hst' hk'=>?_)))
  have hS':=hk' S _ (by simp [hSI]) hS;have hap':dY h' vs g I S:=hap.keep fun b o hI _ e=>hk' b o (by simp [hI]) e;have hv:vs[j+1]?=some v:=by rw [<- hP]; simp
  have hvm:v∈vs:=FN hv
  (show FD _ A.in1 (tryCatch (Mp [v,v] (richCompare .Lt v vb >>= _)) _ >>= _) _ _ _; refine ξ (K_ (HW (ξ (fe (s:={ s with heap:=h',toks:=tk }) (by show A.units+1<Iq; omega) (hap' v hvm).1 (hap' vb hvb).1 ?_)))))
  (refine ξ (HW (Gp ?_)); refine ξ (JM (D_ ?_)))
  cases hb:plt (g v) (g vb) with
  | true =>
   simp only [if_true]
   (refine ξ ?_; refine Kz hS' rfl (ξ (JM ?_)); rw [nm])
   have kp:∀ b o,b≠S->h'.get? b=some o->(h'.update S (FZ fun _=>#[v,v])).get? b=some o:=fun b o hbS e=>(Fy _ _ (Gd hbS)).trans e;refine D_ ⟨Ka IP _,ih (j+1) _ v _ (by omega) (by omega) (hst'.1.at fun o e=>kp I o (Gd hSI) e) (hst'.2.at fun o e=>kp l o (Gd hSl) e) (hap'.keep fun b o _ hbS e=>kp b o hbS e) hvm (fun i u hi hu'=>?_) (Ie _ hS' rfl) fun v' h'' tk'' hm hmi hk''=>?_⟩
   ·have hlt:=lH.mp hb;have:ple (g v) (g vb):=by unfold ple; omega
    by_cases hij:i<=j
    ·exact v5 this (hmin i u hij hu')
    ·have:i=j+1:=by omega
     subst this;rw [hv] at hu'; cases hu';exact qV _
   ·exact hR v' h'' tk'' hm hmi fun b o hI hbS e=>hk'' b o hI hbS (kp b o hbS (hk' b o (by simp [hI]) e))
  | false =>
   simp only [F_,if_false]
   (refine ξ (JM ?_); rw [nm])
   refine D_ ⟨Ka IP _,ih (j+1) _ vb c (by omega) (by omega) hst'.1 hst'.2 hap' hvb (fun i u hi hu'=>?_) hS' fun v' h'' tk'' hm hmi hk''=>?_⟩
   ·by_cases hij:i<=j
    ·exact hmin i u hij hu'
    ·have:i=j+1:=by omega
     subst this;rw [hv] at hu'; cases hu';exact da.mp hb
   ·exact hR v' h'' tk'' hm hmi fun b o hI hbS e=>hk'' b o hI hbS (hk' b o (by simp [hI]) e)
theorem vL {l:Δ} {vs:List χ} {g:χ->Int×Int} {Q:χ->AU->Prop} (hu:A.units+16<Iq) (hh:A.handled=none) (hl:s.heap.IsList l vs.toArray) (hne:vs≠[]) (hp:∀ v∈vs,bD s.heap v (g v))
  (h:∀ v h' tk,v∈vs->(∀ u∈vs,ple (g v) (g u))->(∀ b o,s.heap.get? b=some o->h'.get? b=some o)->Q v { s with heap:=h',toks:=tk }):FD (FQ prog w) A (call (.builtin "min") [.ref l]) Q E s:=by
 have nm:(toString "min"++toString ".loop":String)="min.loop":=by decide
 have hlt:l<s.heap.objs.size:=by obtain ⟨o,e,_⟩:=hl; exact E1 e
 (refine call_function_tree F.kind_min F.plain_min F.entry_min (F.args_min1 _) ?_; show FD _ A.in1 (Ku "min" ["key","default"] 0 ⟨[],[]⟩ >>= _) _ _ s)
 (refine ξ (wpAny_of_eq (show Ku "min" ["key","default"] 0 ⟨[],[]⟩=pure [none,none] from rfl) ?_); refine ξ (D_ ?_))
 (refine ξ (KP hl ?_); refine ξ (Hj ?_); rw [nm])
 generalize hI:s.heap.objs.size=I;have hS:(s.heap.push { cls:=.type "list_iterator",data:=.fields #[.ref l,.int 0 0] }).objs.size=I+1:=by rw [Gj,hI]
 have kp:∀ b o,s.heap.get? b=some o->((s.heap.push { cls:=.type "list_iterator",data:=.fields #[.ref l,.int 0 0] }).push { cls:=.type "list",data:=.seq #[] }).get? b=some o:=fun b o e=>ς _ (ς _ e);have hSI:I+1≠I:=Nat.succ_ne_self I;have hlI:l≠I:=by rw [<- hI]; exact E6 hlt
 have hSl:I+1≠l:=by rw [<- hI]; exact Kg (GV hlt)
 have hap:dY ((s.heap.push { cls:=.type "list_iterator",data:=.fields #[.ref l,.int 0 0] }).push { cls:=.type "list",data:=.seq #[] }) vs g I (I+1):=by
  intro v hv;obtain ⟨b,o,t,u,n,rfl,h1,h2,h3⟩:=hp v hv;have hb:=E1 h1;rw [hI] at hb;refine ⟨⟨b,o,t,u,n,rfl,kp _ _ h1,h2,h3⟩,(fun e=>?_),(fun e=>?_)⟩
  ·injection e with e; rw [e] at hb; exact G_ _ hb
  ·injection e with e; rw [e] at hb; exact absurd hb (LF.mpr (HU _))
 have it0:((s.heap.push { cls:=.type "list_iterator",data:=.fields #[.ref l,.int 0 0] }).push { cls:=.type "list",data:=.seq #[] }).IsListIter I l 0:=⟨_,ς _ (by rw [<- hI]; exact E5 _ rfl),rfl,rfl⟩
 have hl2:((s.heap.push { cls:=.type "list_iterator",data:=.fields #[.ref l,.int 0 0] }).push { cls:=.type "list",data:=.seq #[] }).IsList l vs.toArray:=hl.at fun o e=>kp l o e;have hS0:((s.heap.push { cls:=.type "list_iterator",data:=.fields #[.ref l,.int 0 0] }).push { cls:=.type "list",data:=.seq #[] }).get? (I+1)=some { cls:=.type "list",dict:=none,data:=.seq #[] 0,slots:=#[] }:=by rw [<- hS]; exact E5 _ rfl
 show FD _ _ (pure (Fin.again (.builtin "min.loop" ⟨[.ref I,.none,.ref (s.heap.push { cls:=.type "list_iterator",data:=.fields #[.ref l,.int 0 0] }).objs.size],[]⟩))) _ _ { s with heap:=(s.heap.push { cls:=.type "list_iterator",data:=.fields #[.ref l,.int 0 0] }).push { cls:=.type "list",data:=.seq #[] } }
 rw [hS];generalize (s.heap.push { cls:=.type "list_iterator",data:=.fields #[.ref l,.int 0 0] }).push { cls:=.type "list",data:=.seq #[] }=h2 at kp hap it0 hl2 hS0 ⊢;have W:=Lz (prog:=prog) (w:=w) (A:=A.in1) hh I l hlI vs.toArray;have sz:vs.toArray.size=vs.length:=by simp
 have pos:0<vs.length:=Jl.mpr hne;refine D_ ⟨Ka IP _,?_⟩
 (refine Me L7 ?_; rw [Ko IP _]; show FD _ A.in1 (MM (.ref (I+1)) >>= _) _ _ _; refine ξ (G3 hS0 rfl ?_))
 (show FD _ A.in1 (tryCatch (LB (.ref I)) _ >>= _) _ _ _; refine ξ (K_ (W.item 0 { s with heap:=h2 } _ _ (by omega) ⟨it0,hl2⟩ fun v h' tk hP hst' hk'=>?_)))
 have hS':=hk' (I+1) _ (by simp) hS0;have hap':dY h' vs g I (I+1):=hap.keep fun b o hI _ e=>hk' b o (by simp [hI]) e;have hv:vs[0]?=some v:=by rw [<- hP]; simp
 (show FD _ A.in1 (updateSeq (I+1) (fun _=>#[v,v]) >>= _) _ _ _; refine ξ ?_; refine Kz hS' rfl ?_; rw [nm])
 have kp2:∀ b o,b≠I+1->h'.get? b=some o->(h'.update (I+1) (FZ fun _=>#[v,v])).get? b=some o:=fun b o hbS e=>(Fy _ _ (Gd hbS)).trans e;refine D_ ⟨Ka IP _,CO (g:=g) (by omega) hh hlI hSI hSl _ 0 _ v _ rfl (by omega) (hst'.1.at fun o e=>kp2 I o (Gd hSI) e) (hst'.2.at fun o e=>kp2 l o (Gd hSl) e) (hap'.keep fun b o _ hbS e=>kp2 b o hbS e) (FN hv) (fun i u hi hu'=>?_) (Ie _ hS' rfl) fun v' h'' tk'' hm hmi hk''=>?_⟩
 ·have:i=0:=by omega
  subst this;rw [hv] at hu'; cases hu';exact qV _
 ·refine h v' h'' tk'' hm hmi fun b o e=>?_;have hb:=E1 e;rw [hI] at hb;have n1:b≠I:=E6 hb;have n2:b≠I+1:=E6 (GV hb);exact hk'' b o n1 n2 (kp2 b o n2 (hk' b o (by simp [n1]) (kp b o e)))
end
end Ts
namespace L2
open PySem PySem.Spec PyProof.Rows
def B3 (K:W.Frag) (vs:List V) (H:Hp) (Q:VK):Prop:=∃ a xs,vs=[.ref a]/\SqL K H a xs/\xs≠[]/\∃ g:V->Int×Int,(∀ v∈xs,PtV H v (g v))/\∀ v∈xs,(∀ u∈xs,Ts.ple (g v) (g u))->Q v H
theorem ji {X:Cx} {pins:List (Δ×Hu)} {σ:St} {H:Hp} {s:AU} (I:Inv X pins σ H s) {v:V} {u:χ} {p:Int×Int} (h:PtV H v p) (r:bj v u):Ts.bD s.heap u p:=by
 obtain ⟨b,rfl,hb⟩:=h;have r:u=.ref b:=r;subst r;obtain ⟨_,its2,r2,o,ho,hc,n,hd⟩:=I.hok _ _ hb
 cases r2 with
 | cons q1 r2 =>
 obtain ⟨t1,rfl⟩:=q1
 cases r2 with
 | cons q2 r2 =>
 obtain ⟨t2,rfl⟩:=q2
 cases r2;exact ⟨b,o,t1,t2,n,rfl,ho,hc,hd⟩
theorem qe {X:Cx} (K:W.Frag) (hK:X.K=K) (hc:X.calm=true) (hu:X.A.units+64<Iq):bS X (.builtin "min") (B3 K):=by
 subst hK;intro pins s σ H xs us Q I hv h;obtain ⟨a,ys,rfl,hl,hne,g,hg,h⟩:=h
 cases hv with
 | cons r hv =>
 cases hv
 cases r;obtain ⟨its,rv,pl,hz⟩:=I.list hl;obtain ⟨em,hr⟩:=rv.refs fun v hv=>let ⟨b,e,_⟩:=hg v hv; ⟨b,e⟩;have hb:∀ u∈its,∃ b,u=Fj b/\V.ref b∈ys:=fun u hu=>by
  obtain ⟨b,rfl⟩:=hr u hu;exact ⟨b,rfl,by rw [<- em]; exact F1.mpr ⟨_,hu,rfl⟩⟩
 refine Ts.vL (g:=fun u=>g (toV u)) (by omega) (I.ok.hd hc) pl.isList (fun e=>hne (by rw [<- em,e]; rfl)) (fun u hu=>?_) fun v h' tk hm hmin hk=>?_
 ·obtain ⟨b,rfl,hm⟩:=hb u hu;exact ji I (hg _ hm) rfl
 ·obtain ⟨b,rfl,hm'⟩:=hb v hm;refine ⟨.ref b,H,I.kept hk,rfl,h _ hm' fun u hu=>?_⟩;rw [<- em] at hu;obtain ⟨w,hw,rfl⟩:=F1.mp hu;exact hmin w hw
theorem uS {K:W.Frag} {a:Δ} {xs:List V} {H:Hp} {Q:VK} (g:V->Int×Int) (e:H a=some (.lst xs)) (hne:xs≠[]) (hg:∀ v∈xs,PtV H v (g v)) (h:∀ v∈xs,(∀ u∈xs,Ts.ple (g v) (g u))->Q v H):B3 K [.ref a] H Q:=⟨a,xs,rfl,SqL.of e,hne,g,hg,h⟩
def D7:R2:=fun x y H Q=>∃ p q,PtV H x p/\PtV H y q/\Q (.bl (Ts.plt p q)) H
theorem yB {X:Cx} (hu:X.A.units+64<Iq):OpR X (Gk .Lt) D7:=by
 intro pins s σ H x y v u Q I rx ry h;obtain ⟨p,q,h1,h2,k⟩:=h;exact Ts.fe (by omega) (ji I h1 rx) (ji I h2 ry) ⟨.bl _,H,I,rfl,k⟩
theorem zm {H:Hp} {Q:VK} {x y:V} {p q:Int×Int} (hx:PtV H x p) (hy:PtV H y q) (k:Q (.bl (Ts.plt p q)) H):D7 x y H Q:=⟨p,q,hx,hy,k⟩
section
variable {K:W.Frag} {σ:St} {H:Hp} {Q:VK} {te:TE} {tt:TT} {cap:List (Option Nat)} {l:Δ}
theorem fE {a:Δ} {xs:List V} (F:V->V) (p:V->Bool) (hs:SqL K H a xs) (hz:xs.length<=5000) (hl:H l=none)
    (test:∀ x o H' (Q':Bool->Hp->Prop),x∈xs->ah H H'->(∀ H5,ah H' H5->Q' (p x) H5)->tt (((dr (none::cap) σ).set 0 o).set 0 (some x)) H' Q')
    (step:∀ x o H' (Q':VK),x∈xs->p x=true->ah H H'->(∀ H5,ah H' H5->Q' (F x) H5)->te (((dr (none::cap) σ).set 0 o).set 0 (some x)) H' Q')
    (fin:∀ H',ah H H'->H' l=some (.lst ((xs.filter p).map F))->Q (.ref l) H'):f6 (Itl K a) (cX 0) tt te (none::cap) l σ H Q:=by
  refine ⟨xs.length,fun i ys σ' H'=>ys=((xs.take i).filter p).map F/\(∃ o,σ'=(dr (none::cap) σ).set 0 o)/\ah H H'/\H' l=some (.lst ys),⟨rfl,⟨none,rfl⟩,ah.new hl,af⟩,?_,?_⟩
  · rintro i ys σ' H' hi ⟨rfl,⟨o,rfl⟩,s,e⟩
    refine ⟨⟨xs,xs[i],s.seq hs,by simp [hi]⟩,fun x H2 y=>?_⟩;obtain ⟨e2,y⟩:=y;subst e2;have hx:=y xs (s.seq hs)
    have tk:((xs.take (i+1)).filter p).map F=((xs.take i).filter p).map F++(if p x=true then [F x] else []):=by
      rw [HX,hx,K9,GL]
      congr 1
      cases hp:p x<;>simp [hp]
    refine b0 (test x o H2 _ (FN hx) s fun H5 s5=>?_);by_cases hp:p x=true
    · rw [if_pos hp]
      rw [if_pos hp] at tk;refine step x o H5 _ (FN hx) hp (s.trans s5) fun H6 s6=>⟨s6 _ _ (s5 _ _ e),?_,?_⟩
      · have:(((xs.take i).filter p).map F).length<=xs.length:=by
          rw [Θ];exact Fe (JS _ _) (by rw [Fl]; omega)
        exact Fz (Fe this hz) (by decide)
      · exact ⟨tk.symm,⟨_,IS ..⟩,((s.trans s5).trans s6).later hl,af⟩
    · rw [if_neg hp]
      rw [if_neg hp,FH] at tk;exact ⟨tk.symm,⟨_,IS ..⟩,s.trans s5,s5 _ _ e⟩
  · rintro ys σ' H' ⟨rfl,_,s,e⟩
    rw [FG (BE _)] at e;exact ⟨⟨xs,s.seq hs,BE _⟩,fin H' s e⟩
end
end L2
namespace Ts
open PySem PyProof.Rows PySem.W
theorem AJ (g:B_->Int×Int):cN fun x y=>plt (g x) (g y):=by
 constructor
 ·intro x y h;have h:=lH.mp h;refine da.mpr ?_;unfold ple;omega
 ·intro x y z h1 h2;have h1:=da.mp h1;have h2:=da.mp h2;refine da.mpr ?_;unfold ple at h1 h2 ⊢;omega
end Ts
namespace L2
open PySem PySem.Spec PyProof.Rows PySem.W
theorem BQ {α β:Type} {R:α×β->α×β->Prop} {a:List α} {b:List β} (h:b.length<2):(a.zip b).Pairwise R:=by
 cases b with
 | nil=>rw [Nc]; exact Gq
 | cons v b =>
  cases b with
  | nil =>
   cases a with
   | nil=>exact Gq
   | cons u a=>rw [List.zip_cons_cons,Nc]; exact KC _ _
  | cons v b => simp at h; omega
section
variable {X:Cx} {pins:List (Δ×Hu)} {σ:St} {H H1 H2:Hp} {s0 s s':AU}
structure f9 (X:Cx) (H:Hp) (s0:AU) (H1:Hp) (s:AU):Prop where
 os:s.os=s0.os
 un:Un (frs X.stack) [] H H1 s0.heap s.heap
 hok:HOk X.prog X.w H1 s.heap
 bare:J2 s.gens
theorem f9.inv (a:f9 X H s0 H1 s) (I:Inv X pins σ H s0):Inv X pins σ H1 s:=I.call' a.os a.un a.hok a.bare (fun b hb=>nomatch hb)
theorem f9.start (I:Inv X pins σ H s0):f9 X H s0 H s0:=⟨rfl,Un.refl,I.hok,I.bare⟩
theorem f9.heap {h':F6} (a:f9 X H s0 H1 s) (k:∀ b o,b<s0.heap.objs.size\/H1 b≠none->s.heap.get? b=some o->h'.get? b=some o):f9 X H s0 H1 { s with heap:=h' }:=by
 have lt:∀ {b o},s0.heap.get? b=some o->b<s0.heap.objs.size:=fun e=>E1 e;refine ⟨a.os,⟨fun b o e n hb hx=>k b o (.inl (lt e)) (a.un.keep b o e n hb hx),fun b o e n hb hx=>?_,a.un.free,fun b o e hx=>?_,a.un.tups,a.un.frzs,a.un.tbls⟩,fun b o e=>?_,a.bare⟩
 ·obtain ⟨sl,q⟩:=a.un.slot b o e n hb hx;exact ⟨sl,k b _ (.inl (lt e)) q⟩
 ·obtain ⟨o',q⟩:=a.un.there b o e hx;exact ⟨o',k b _ (.inl (lt e)) q⟩
 ·refine (a.hok b o e).stay (fun c v hc q=>k c v (.inr ?_) q) (fun _ q=>q) fun _ _ q=>q;rcases hc with z | z
  ·rw [z,e]; exact fun z=>nomatch z
  ·rw [z]; exact fun z=>nomatch z
theorem f9.track {c:Δ} {o:HO} (a:f9 X H s0 H1 s) (hc:s0.heap.objs.size<=c) (hn:H1 c=none) (I:Inv X pins σ H s0) (new:bL X.prog X.w (upd H1 c o) s.heap c o):f9 X H s0 (upd H1 c o) s:=by
 have ne:∀ {b o},s0.heap.get? b=some o->b≠c:=fun e z=>by have:=E1 e; rw [z] at this; exact absurd this (LF.mpr hc)
 have ne1:∀ {b o},H1 b=some o->b≠c:=fun e z=>by rw [z,hn] at e; cases e
 refine ⟨a.os,⟨a.un.keep,a.un.slot,fun b o e n hx=>by rw [ar (ne e)]; exact a.un.free b o e n hx,a.un.there,fun b xs e=>?_,fun b o u e=>?_,fun b ps e=>?_⟩,fun b u e=>?_,a.bare⟩
 ·have:=a.un.tups b xs e
  rw [ar (ne1 this)]; exact this
 ·have:=a.un.frzs b o u e
  rw [ar (ne1 this)]; exact this
 ·obtain ⟨more,q⟩:=a.un.tbls b ps e;exact ⟨more,by rw [ar (ne1 q)]; exact q⟩
 ·by_cases hb:b=c
  ·subst hb; rw [af] at e; cases e; exact new
  ·rw [ar hb] at e;exact (a.hok b u e).stay (fun c v _ q=>q) (fun c q=>by rw [ar (ne1 q)]; exact q) fun c xs q=>by rw [ar (ne1 q)]; exact q
theorem f9.call {A:Fv} {k:Nat} {f:Δ} {fd:GX} {ps:List Str} {sp:Sp} {us:List χ} {vs:List V} {Q:VK} {E:χ->AU->Prop} (a:f9 X H s0 H1 s) (I:Inv X pins σ H s0) (F:aN X.prog X.w X.K X.mg X.base CX0 k f fd ps sp) (hr:b6 k A) (hA:A.frames=X.A.frames)
  (hb:aI X.K fd ps []) (r:Vals vs us) (h:sp vs H1 Q E0) {R:χ->AU->Prop} (q:∀ v u H2 s2,f9 X H s0 H2 s2->bj v u->Q v H2->(∀ b o,s.heap.get? b=some o->H1 b=none->b∉frs X.stack->s2.heap.get? b=some o/\H2 b=none)->R u s2):FD (FQ X.prog X.w) A (KN (.ref f) us) R E s:=by
 have J:=a.inv I;have hl:(us++([]:List χ)).length=ps.length:=by rw [FH,<- r.length]; exact F.len _ _ _ _ h
 have e0:=J.env0;have bt:=hb s us J.kIn hl;rw [FH] at bt;refine M0 (JA (F.run A X.stack s H1 ⟨us,[]⟩ us vs Q E0 hr ⟨hA.trans e0.frames,e0.mod,e0.bs,e0.bsz,e0.funs,e0.frf,e0.hok,e0.bare⟩ bt r h) fun r s2 hq=>?_)
 cases r with
 | error e=>exact GU hq
 | ok fl =>
  cases fl with
  | ret u =>
   obtain ⟨v,H2,os,bare,un,hok,rv,qq⟩:=hq;exact q v u H2 s2 ⟨os.trans a.os,a.un.trans un,hok,bare⟩ rv qq fun b o e n hb=>⟨un.keep b o e n hb (fun z=>nomatch z),un.free b o e n (fun z=>nomatch z)⟩
  | next => exact GU hq
  | brk => exact GU hq
  | cont => exact GU hq
def tm (K:W.Frag) (sp:Sp) (x:V) (H:Hp) (Q:VK):Prop:=∃ (a:Δ) (xs:List V) (g:V->Int×Int),x=.ref a/\SqL K H a xs/\(∀ v∈xs,∃ b,v=.ref b) /\
 (∀ v∈xs,∀ (H1:Hp) (Q1:VK),ah H H1->(∀ u H2,ah H1 H2->PtV H2 u (g v)->Q1 u H2)->sp [v] H1 Q1 E0) /\
 ∀ (l:Δ) (ys:List V) (H':Hp),ah H H'->H l=none->H' l=some (.lst ys)->ys.Perm xs->ys.Pairwise (fun x y=>Ts.ple (g x) (g y))->Q (.ref l) H'
theorem PtV.mono {v:V} {p:Int×Int} (s:ah H H1) (h:PtV H v p):PtV H1 v p:=by
 obtain ⟨b,e,q⟩:=h;exact ⟨b,e,s _ _ q⟩
theorem xk {xs:List V} {us:List χ} {v:V} {u:χ} (h:Vals xs us) (r:bj v u):Vals (xs++[v]) (us++[u]):=h.append (.cons r .nil)
theorem ya {A:Fv} {E:χ->AU->Prop} {h:F6} (us:List χ) (gs:χ->Int×Int) (hv:∀ u∈us,Ts.bD h u (gs u)) (h2:2<=us.length) {M:Jo} {s:AU} (hs:s.heap=h) {Q:Gs->AU->Prop} (q:Q (Kx true) s):FD M A (keyKind' us.toArray) Q E s:=by
 have key:∀ (us:List χ),(∀ v∈us,Ts.bD h v (gs v))->∃ fs,KatTups h us fs/\fs.length=us.length/\∀ f∈fs,∃ i t,f=.int i t:=by
  intro us
  induction us with
  | nil => intro _; exact ⟨[], Ml, rfl, (fun f hf => nomatch hf)⟩
  | cons v us ih =>
   intro hu;obtain ⟨fs,k1,k2,k3⟩:=ih fun v hv=>hu v (Ξ _ hv);obtain ⟨b,o,t,u,n,e,h1,h2,h3⟩:=hu v θ;refine ⟨.int (gs v).1 t::fs,?_,by rw [EX,EX,k2],fun f hf=>?_⟩
   ·rw [e];rw [e] at h3;exact MQ h1 h2 h3 rfl k1
   ·rcases BF.mp hf with rfl | hf
    ·exact ⟨_,_,rfl⟩
    ·exact k3 f hf
 obtain ⟨fs,k1,k2,k3⟩:=key us hv;subst hs;refine kat_kind (T:=.type "int") k1 (by omega) (fun f hf=>?_) (by decide) ?_
 ·obtain ⟨i,t,rfl⟩:=k3 f hf;exact Looks.of_pure rfl
 ·have:(GZ "int" != GZ "tuple")=true:=by decide
  rw [this];exact q
theorem wG {k:Nat} {f:Δ} {fd:GX} {ps:List Str} {sp:Sp} {x:V} {u:χ} {Q:VK} (F:aN X.prog X.w X.K X.mg X.base CX0 k f fd ps sp) (hr:b6 (k+3) X.A) (hb:aI X.K fd ps []) (I:Inv X pins σ H s0) (rx:bj x u) (h:tm X.K sp x H Q) :
    FD (FQ X.prog X.w) X.A (KN (.builtin "sorted") [u] [(IA "key",.ref f)]) (EP X pins σ Q) X.xe s0:=by
  obtain ⟨a,xs,g,rfl,hl,hrf,hkey,hend⟩:=h
  cases rx;obtain ⟨its,rv,pl,hz⟩:=I.list hl;have hlen:=rv.length;have hz':its.length<=sizeLine:=by omega
  obtain ⟨em,hri⟩:=rv.refs hrf;refine call_function_entry_kw kind_sorted plain_sorted entry_sorted (ksk_s1 _ _) ?_;unfold KW.«sorted»;refine ξ (m:=checkCount "sorted" 1 1 _) (D_ ?_);refine ξ (collect_list pl.isList ?_ hz');refine ξ (Jm ?_ hz');generalize hS0:s0.heap.objs.size=n0;have hsz:((s0.heap.push (Fx "list" #[] 0)).update n0 (FZ (·++its.toArray))).objs.size=n0+1:=by rw [Gu,JK,hS0]
  have hoL:(((s0.heap.push (Fx "list" #[] 0)).update n0 (FZ (·++its.toArray))).push (Fx "list" its.toArray 0)).get? (n0+1)=some (Fx "list" its.toArray 0):=by rw [<- hsz]; exact E5 _ rfl
  have keep:∀ b o,s0.heap.get? b=some o->(((s0.heap.push (Fx "list" #[] 0)).update n0 (FZ (·++its.toArray))).push (Fx "list" its.toArray 0)).get? b=some o:=fun b o q=>by
    have hlt:b<n0:=by rw [<- hS0]; exact E1 q
    refine ς _ ?_;rw [IF _ _ _ _ (E6 hlt)];exact ς _ q
  have hs2:(((s0.heap.push (Fx "list" #[] 0)).update n0 (FZ (·++its.toArray))).push (Fx "list" its.toArray 0)).objs.size=n0+2:=by rw [JK,hsz]
  show FD _ _ (Mp [.ref ((s0.heap.push (Fx "list" #[] 0)).update n0 (FZ (·++its.toArray))).objs.size] (KN (.builtin "list.sort") [.ref ((s0.heap.push (Fx "list" #[] 0)).update n0 (FZ (·++its.toArray))).objs.size] [(IA "key",.ref f)]) >>= fun _=>ret (.ref ((s0.heap.push (Fx "list" #[] 0)).update n0 (FZ (·++its.toArray))).objs.size)) _ _ { s0 with heap:=((s0.heap.push (Fx "list" #[] 0)).update n0 (FZ (·++its.toArray))).push (Fx "list" its.toArray 0) }
  rw [hsz];generalize ((s0.heap.push (Fx "list" #[] 0)).update n0 (FZ (·++its.toArray))).push (Fx "list" its.toArray 0)=h1 at hoL keep hs2 ⊢;generalize hD:n0+1=D at hoL ⊢;have am0:f9 X H s0 H { s0 with heap:=h1 }:=(f9.start I).heap fun b o _ q=>keep b o q;refine ξ (HW (wpAny_call_entry_kw M3 ⟨_,hoL,rfl⟩ Mc ?_ (ksk_l1 _ _)))
  show FD (FQ X.prog X.w) X.A.in1.in1 (KW.«list.sort» ⟨[.ref D],[(IA "key",.ref f)]⟩) _ _ _
  rw [ksk_t1];unfold ksk_tree;refine ξ (Lv hoL rfl ?_);refine ξ (Hw hoL rfl ?_ (by rw [E8]; exact hz') (Fi _));obtain ⟨e1,ho1⟩:∃ e1,(h1.update D (FZ fun _=>#[])).get? D=some (Fx "list" #[] e1):=⟨_,Il hoL (fun _=>#[])⟩
  refine ξ (JN ho1 rfl ?_);refine ξ (LA ?_ (by first | exact hz' | (simp; exact hz')));refine ξ (Jm ?_);refine HW ?_
  show FD _ _ (ksk_rest D (.ref f) false its.toArray e1 (.ref ((h1.update D (FZ fun _=>#[])).push (Fx "tuple" its.toArray 0)).objs.size)) _ _ { s0 with heap:=((h1.update D (FZ fun _=>#[])).push (Fx "tuple" its.toArray 0)).push (Fx "list" #[] 0) }
  have hsk:((h1.update D (FZ fun _=>#[])).push (Fx "tuple" its.toArray 0)).objs.size=n0+3:=by rw [JK,Gu,hs2]
  have hK:(((h1.update D (FZ fun _=>#[])).push (Fx "tuple" its.toArray 0)).push (Fx "list" #[] 0)).get? (n0+3)=some (Fx "list" #[] 0):=by rw [<- hsk]; exact E5 _ rfl
  have hDo:(((h1.update D (FZ fun _=>#[])).push (Fx "tuple" its.toArray 0)).push (Fx "list" #[] 0)).get? D=some (Fx "list" #[] e1):=ς _ (ς _ ho1);rw [hsk];have hDn:n0<=D:=by rw [<- hD]; exact HU _
  have am1:f9 X H s0 H { s0 with heap:=((h1.update D (FZ fun _=>#[])).push (Fx "tuple" its.toArray 0)).push (Fx "list" #[] 0) }:=am0.heap (s:={ s0 with heap:=h1 }) fun b o hb q=>by
    have hne:b≠D:=by
      rcases hb with hb | hb
      · rw [hS0] at hb; exact E6 (FI hb hDn)
      · intro e
        exact hb (I.hok.fresh (by rw [hS0,e]; exact hDn))
    exact ς _ (ς _ ((Fy _ _ (Gd hne)).trans q))
  generalize ((h1.update D (FZ fun _=>#[])).push (Fx "tuple" its.toArray 0)).push (Fx "list" #[] 0)=h2 at hK hDo am1 ⊢;generalize hkS:n0+3=kS at hK ⊢;have hKn:n0<=kS:=by rw [<- hkS]; omega
  have hDK:D≠kS:=by rw [<- hD,<- hkS]; exact E6 (by omega)
  have nfr:∀ {c:Δ},n0<=c->c∉frs X.stack:=fun {c} hc hb=>by
    rcases BF.mp (I.stkSub c hb) with e | hb
    · have:=I.lt
      rw [<- e,hS0] at this;exact absurd this (LF.mpr hc)
    · exact I.nofs (by rw [hS0]; exact hc) hb
  unfold ksk_rest;refine ξ (G4 ?_);have roomK:b6 k X.A.in1.in1:=(hr.mono (by omega:k+2<=k+3)).in1.in1;rw [<- Array.forIn_toList,K1];refine ξ (ksk_fold (I:=fun i s=>∃ (H1:Hp) (ks:List χ) (kvs:List V) (c:Nat),f9 X H s0 H1 s/\ah H H1/\s.heap.get? D=some (Fx "list" #[] e1)/\H1 D=none/\s.heap.get? kS=some (Fx "list" ks.toArray c)/\H1 kS=none/\Vals kvs ks/\ks.length=i/\∀ (j:Nat) v u,kvs[j]?=some u->xs[j]?=some v->PtV H1 u (g v))
    its 0 _ ⟨H,[],[],0,am1,ah.refl _,hDo,I.hok.fresh (by rw [hS0]; exact hDn),hK,I.hok.fresh (by rw [hS0]; exact hKn),.nil,rfl,fun j v u e=>by simp at e⟩ ?_ ?_)
  · rintro j x s hx ⟨H1,ks,kvs,c,am,sm,qD,nD,qK,nK,vk,lk,pk⟩
    have hxv:xs[j]?=some (toV x):=by rw [<- em,FE,hx]; rfl
    obtain ⟨b,rfl⟩:=hri x (FN hx);have jlt:j<its.length:=(C_.mp hx).1;refine ξ (LY (am.call (vs:=[.ref b]) I F roomK rfl hb (.cons rfl .nil) (hkey (.ref b) (FN hxv) H1 (fun v H2=>ah H1 H2/\PtV H2 v (g (.ref b))) sm fun u H2 s2 p2=>⟨s2,p2⟩) fun v u H2 s2 am2 ru q2 kp=>?_));obtain ⟨s12,p2⟩:=q2;obtain ⟨qD2,nD2⟩:=kp D _ qD nD (nfr hDn);obtain ⟨qK2,nK2⟩:=kp kS _ qK nK (nfr hKn);dsimp only;refine ξ (Hw qK2 rfl ?_ (by rw [E8]; omega) (by rw [Array.size_push,E8]; omega));have qK3:=Il qK2 (fun x=>x.push u);refine D_ ⟨rfl,H2,ks++[u],kvs++[v],_,am2.heap fun b o hb q=>?_,sm.trans s12,?_,nD2,by rw [qK3]; congr 2; simp,nK2,xk vk ru,by rw [BG,FA]; omega,fun i v' u' hu hv'=>?_⟩
    · have hne:b≠kS:=by
        rcases hb with hb | hb
        · rw [hS0] at hb; exact E6 (FI hb hKn)
        · intro e; rw [e] at hb; exact hb nK2
      exact (Fy _ _ (Gd hne)).trans q
    · exact (Fy _ _ (Gd hDK)).trans qD2
    · have lkv:kvs.length=ks.length:=vk.length
      by_cases hi:i<kvs.length
      · rw [GK hi] at hu
        exact (pk i v' u' hu hv').mono s12
      · rw [F4 (by omega)] at hu
        have hh:=(C_.mp hu).1;rw [FA] at hh;have:i=j:=by omega
        subst this;rw [show i - kvs.length=0 by omega] at hu;simp only [HZ,IL] at hu;rw [hxv] at hv'
        cases hv';rw [<- hu];exact p2
  · rintro s ⟨H1,ks,kvs,c,am,sm,qD,nD,qK,nK,vk,lk,pk⟩
    have lk:ks.length=its.length:=by omega
    refine ξ (Lv qK rfl ?_);unfold ksk_end;dsimp only;rw [if_neg (by decide)];have J:=am.inv I
    -- each key and its item
    have hpair:∀ p∈ks.zip its,Ts.bD s.heap p.1 (g (toV p.2))/\p.2∈its:=by
      intro p hp;obtain ⟨i,hi⟩:=GS.mp hp;have hz2:=Jw.mp hi;have hk1:i<kvs.length:=by rw [vk.length]; exact (C_.mp hz2.1).1
      obtain ⟨u,hu,ru⟩:=vk.get (Ω hk1);rw [hz2.1] at hu
      cases hu;have hx:xs[i]?=some (toV p.2):=by rw [<- em,FE,hz2.2]; rfl
      exact ⟨ji J (pk i _ _ (Ω hk1) hx) ru,FN hz2.2⟩
    have fin:∀ (st:GA),(FO st).toList.Perm (ks.zip its)->Hi st=none->(FO st).toList.Pairwise (Ts.Le fun x y=>Ts.plt (g (toV x.2)) (g (toV y.2))) ->
        FD (FQ X.prog X.w) X.A.in1.in1 (ksk_tail D false e1 (.ref kS) st) (fun fin s'=>∃ v,fin=Fin.done (Flow.ret v)/\FD (FQ X.prog X.w) X.A.in1 (ret (Fj D)) (fun fin s'=>∃ v,fin=Fin.done (Flow.ret v)/\EP X pins σ Q v s') X.xe s') X.xe s:=by
      intro st hp hf hw;unfold ksk_tail;dsimp only;have lst:(FO st).size=its.length:=by rw [<- FT,hp.length_eq,List.length_zip,lk,Nat.min_self]
      refine ξ (Hw qK rfl ?_ (by rw [E8]; omega) (Fi _));refine ξ (JM ?_);have qD2:(s.heap.update kS (FZ fun _=>#[])).get? D=some (Fx "list" #[] e1):=(Fy _ _ (Gd hDK)).trans qD;refine ξ (JN qD2 rfl ?_);refine ξ (Hw qD2 rfl ?_ (by simp) (by rw [if_neg (by decide),Jq,lst]; omega));rw [hf];simp only [bne_self_eq_false,F_,if_false];refine D_ ⟨_,rfl,?_⟩;have am2:f9 X H s0 H1 { s with heap:=(s.heap.update kS (FZ fun _=>#[])).update D (FZ fun _=>(FO st).map (·.2)) }:=am.heap fun b o hb q=>by
        have n1:b≠kS:=by
          rcases hb with hb | hb
          · rw [hS0] at hb; exact E6 (FI hb hKn)
          · intro e; rw [e] at hb; exact hb nK
        have n2:b≠D:=by
          rcases hb with hb | hb
          · rw [hS0] at hb; exact E6 (FI hb hDn)
          · intro e; rw [e] at hb; exact hb nD
        exact (Fy _ _ (Gd n2)).trans ((Fy _ _ (Gd n1)).trans q)
      have qD3:=Il qD2 (fun _=>(FO st).map (·.2))
      have pm:((FO st).toList.map (·.2)).Perm its:=by
        have:=hp.map Prod.snd
        rw [List.map_snd_zip (by omega)] at this;exact this
      have am3:=am2.track (o:=.lst (((FO st).toList.map (·.2)).map toV)) (c:=D) (by rw [hS0]; exact hDn) nD I ⟨by rw [Θ,pm.length_eq]; exact hz',(FO st).toList.map (·.2),_,gZ fun u hu=>hri u (pm.mem_iff.mp hu),by rw [qD3]; congr 2; rw [<- J_,Ja]⟩;refine D_ ⟨_,rfl,.ref D,_,am3.inv I,rfl,?_⟩;have nH:H D=none:=I.hok.fresh (by rw [hS0]; exact hDn);refine hend D _ _ (sm.later nH) nH af (by rw [<- em]; exact pm.map toV) ?_;rw [GF,Hz];exact hw.imp fun {x y} hxy=>Ts.da.mp hxy
    have zsz:(ks.toArray.zip its.toArray).toList=ks.zip its:=by simp
    by_cases h2:its.toArray.size<2
    · rw [if_pos h2,if_pos h2]
      refine ξ (D_ ?_);rw [Lb];refine ξ (D_ ?_);dsimp only;refine fin _ (by show (ks.toArray.zip its.toArray).toList.Perm _; rw [zsz]) rfl ?_
      show (ks.toArray.zip its.toArray).toList.Pairwise _
      rw [zsz];rw [E8] at h2;exact BQ h2
    · rw [if_neg h2,if_neg h2]
      rw [E8] at h2
      have hks:∀ u∈ks,∃ p,Ts.bD s.heap u p:=by
        intro u hu;obtain ⟨i,hi⟩:=GS.mp hu;have hlt:=(C_.mp hi).1;exact ⟨_,(hpair (u,its[i]) (GS.mpr ⟨i,Jw.mpr ⟨hi,Ω (by omega)⟩⟩)).1⟩
      classical
      refine ξ (ya ks (fun u=>if hu:∃ p,Ts.bD s.heap u p then hu.choose else (0,0)) (fun u hu=>by rw [dif_pos (hks u hu)]; exact (hks u hu).choose_spec) (by omega) rfl ?_);have asks:Ts.iS (FQ X.prog X.w) X.A.in1.in1 X.xe s (Kx true) (fun x=>x∈ks.zip its) (fun x y=>Ts.plt (g (toV x.2)) (g (toV y.2))):=Ts.km fun x y hx hy Q' E' q=>Ts.qR (hpair x hx).1 (hpair y hy).1 q;refine ξ (GW (Ts.mr (E:=X.xe) (s:=s) (A:=X.A.in1.in1) (Ts.AJ fun x=>g (toV x.2)) asks (st:=Lp (Kx true) (ks.toArray.zip its.toArray) #[] 7 none)
        (Q:=fun _ st'=>(FO st').Perm (ks.toArray.zip its.toArray)/\Hi st'=none/\(FO st').toList.Pairwise (Ts.Le fun x y=>Ts.plt (g (toV x.2)) (g (toV y.2)))) rfl rfl rfl (fun x hx=>by rw [<- zsz]; exact hx) fun st' a1 a2 a3=>⟨a1,a2,a3⟩) ?_ fun _ _ e=>e)
      rintro ⟨⟨⟩,st'⟩ s' ⟨rfl,hp,hf,hs⟩;dsimp only;exact fin st' (by rw [<- zsz]; exact Gi.mp hp) hf hs
def Ai (K:W.Frag) (sp:Sp) (te:TE):TE:=fun σ H Q=>te σ H fun x H1=>tm K sp x H1 Q
theorem yM {e:GO} {te:TE} {x:Str} {p pk kp pos:Jf} {k:Nat} {f:Δ} {fd:GX} {ps:List Str} {sp:Sp} (K:W.Frag) (hK:X.K=K) (F:aN X.prog X.w X.K X.mg X.base CX0 k f fd ps sp) (hr:b6 (k+3) X.A) (hg:Gl X "sorted") (hm:X.mg "sorted"=none) (hgx:Gl X x) (hmx:X.mg x=some (.ref f)) (hb:aI X.K fd ps []) (ha:PE X e te)
  (hd:(x==("__debug__":Str))=false:=by decide) (he:Ih pos (Fq [e] X.env)=(false,Hs e X.env)::Ih pos (Fq [] X.env):=by rfl) (hpl:(Ih pos (Fq [e] X.env)).any (·.1)=false:=by rfl):PE X (.Call (.Name "sorted" p) [e] [⟨some "key",.Name x pk,kp⟩] pos) (Ai K sp te):=by
 subst hK;intro pins s σ H Q I h;refine HS (fJ I hg hm (by rfl) ?_ (by decide) (by decide));refine callWith_kw ?_ he hpl;rw [he];refine Jp (thn (ha pins s σ H _ I h) fun v s1 ⟨y,H1,I1,r1,q1⟩=>Jx ?_);refine kws_cons (fK I1 hgx hmx ?_ hd);refine kws_nil ?_;exact wG F hr hb I1 r1 q1
theorem wg {K:W.Frag} {sp:Sp} {te:TE} {σ:St} {H:Hp} {Q:VK} (h:te σ H fun x H1=>tm K sp x H1 Q):Ai K sp te σ H Q:=h
end
end L2
namespace Sm
end Sm
namespace L2
open PySem PySem.Spec PyProof.Rows PySem.W
section
variable {X:Cx} (K:W.Frag) (hK:X.K=K) (hc:X.calm=true)
include hK hc
end
end L2
namespace NR
noncomputable def EW (n m:Nat) (F:Int×Int->Int):Int:=sm n fun x=>sm m fun y=>F ((x:Int),(y:Int))
end NR
namespace Sm
end Sm
namespace L2
open PySem PySem.Spec PyProof.Rows PySem.W
end L2
namespace Sm
theorem ot {α:Type} [DecidableEq α] {c:α->Bool} {le:α->α->Prop} {L L':List α} (n:L.Nodup) (n':L'.Nodup) (p:L.Pairwise le) (p':L'.Pairwise le) (as:∀ a∈L,∀ b∈L,le a b->le b a->a=b)
  (h:∀ e,c e=true->(e∈L↔e∈L')):L.filter c=L'.filter c:=by
 have pm:(L.filter c).Perm (L'.filter c):=by
  rw [List.perm_ext_iff_of_nodup (n.filter c) (n'.filter c)];intro e;rw [G1,G1];exact ⟨fun ⟨h1,h2⟩=>⟨(h e h2).mp h1,h2⟩,fun ⟨h1,h2⟩=>⟨(h e h2).mpr h1,h2⟩⟩
 exact pm.eq_of_pairwise (fun a b ha hb h1 h2=>as a (G1.mp ha |>.1) b (G1.mp (pm.mem_iff.mpr hb) |>.1) h1 h2) (p.filter c) (p'.filter c)
end Sm
namespace L2
open PySem PySem.Spec PyProof.Rows
theorem se {K:W.Frag} {σ:St} {H:Hp} {Q:VK} {te:TE} {l a b:Δ} {xs ys:List V} (F:Nat->V) (hx:H a=some (.lst xs)) (hy:H b=some (.lst ys)) (he:xs.length=ys.length) (hz:xs.length<=5000) (hl:H l=none)
  (step:∀ (i:Nat) x y H' (Q':VK),xs[i]?=some x->ys[i]?=some y->ah H H'->(∀ H5,ah H' H5->Q' (F i) H5)->te [some x,some y] H' Q')
  (fin:∀ H',ah H H'->H' l=some (.lst ((F3 xs.length).map F))->Q (.ref l) H'):f6 (Itz K a b) (sq K 2 (ij (cX 0) (ij (cX 1) vy))) iu te [none,none] l σ H Q:=by
 refine ⟨xs.length,fun i zs σ' H'=>zs=(F3 i).map F/\(∃ o o',σ'=[o,o'])/\ah H H'/\H' l=some (.lst zs),⟨rfl,⟨none,none,rfl⟩,ah.new hl,af⟩,?_,?_⟩
 ·rintro i zs σ' H' hi ⟨rfl,⟨o,o',rfl⟩,s,e⟩;refine ⟨⟨xs,ys,xs[i],ys[i]'(by omega),SqL.of (s _ _ hx),SqL.of (s _ _ hy),by simp [hi],by simp⟩,fun v H2 z=>?_⟩;obtain ⟨T,rfl,hT,z⟩:=z;obtain ⟨x,y,ex,ey,rfl⟩:=z xs ys (SqL.of (s _ _ hx)) (SqL.of (s _ _ hy));have sT:=ah.new (o:=HO.tup [x,y]) hT;refine fT af rfl (dg (b0 (dg (b0 (jl (dR (mz ?_)))))));refine step i x y _ _ ex ey (s.trans sT) fun H5 s5=>⟨s5 _ _ (sT _ _ e),?_,?_⟩
  ·rw [Θ,Gg];exact FI (by omega:i<6000) (by decide)
  ·refine ⟨?_,⟨_,_,rfl⟩,((s.trans sT).trans s5).later hl,af⟩;rw [Kl,GL];rfl
 ·rintro zs σ' H' ⟨rfl,_,s,e⟩;exact ⟨⟨xs,ys,SqL.of (s _ _ hx),SqL.of (s _ _ hy),.inl (BE _)⟩,fin H' s e⟩
theorem qo {K:W.Frag} {σ:St} {H:Hp} {Q:VK} {te:TE} {l a b:Δ} {xs ys:List V} (F:Nat->V) (hx:H a=some (.tup xs)) (hy:H b=some (.tup ys)) (he:xs.length=ys.length) (hz:xs.length<=5000) (hl:H l=none)
  (step:∀ (i:Nat) x y H' (Q':VK),xs[i]?=some x->ys[i]?=some y->ah H H'->(∀ H5,ah H' H5->Q' (F i) H5)->te [some x,some y] H' Q')
  (fin:∀ H',ah H H'->H' l=some (.lst ((F3 xs.length).map F))->Q (.ref l) H'):f6 (Ap K a b) (sq K 2 (ij (cX 0) (ij (cX 1) vy))) iu te [none,none] l σ H Q:=by
 refine ⟨xs.length,fun i zs σ' H'=>zs=(F3 i).map F/\(∃ o o',σ'=[o,o'])/\ah H H'/\H' l=some (.lst zs),⟨rfl,⟨none,none,rfl⟩,ah.new hl,af⟩,?_,?_⟩
 ·rintro i zs σ' H' hi ⟨rfl,⟨o,o',rfl⟩,s,e⟩;refine ⟨⟨xs,ys,xs[i],ys[i]'(by omega),SqT.of (s _ _ hx),SqT.of (s _ _ hy),by simp [hi],by simp⟩,fun v H2 z=>?_⟩;obtain ⟨T,rfl,hT,z⟩:=z;obtain ⟨x,y,ex,ey,rfl⟩:=z xs ys (SqT.of (s _ _ hx)) (SqT.of (s _ _ hy));have sT:=ah.new (o:=HO.tup [x,y]) hT;refine fT af rfl (dg (b0 (dg (b0 (jl (dR (mz ?_)))))));refine step i x y _ _ ex ey (s.trans sT) fun H5 s5=>⟨s5 _ _ (sT _ _ e),?_,?_⟩
  ·rw [Θ,Gg];exact FI (by omega:i<6000) (by decide)
  ·refine ⟨?_,⟨_,_,rfl⟩,((s.trans sT).trans s5).later hl,af⟩;rw [Kl,GL];rfl
 ·rintro zs σ' H' ⟨rfl,_,s,e⟩;exact ⟨⟨xs,ys,SqT.of (s _ _ hx),SqT.of (s _ _ hy),BE _⟩,fin H' s e⟩
end L2
namespace Sm
section
variable {nb:Pnt->List Pnt}
theorem Rnd.rot1 (G:Gr nb) {a b:Pnt} {l:List Pnt} (h:Rnd nb a b l):∃ c m,l=c::m/\Rnd nb b c (m++[a]):=by
 cases l with
 | nil=>exact absurd rfl (h.last G).2
 | cons c m =>
  obtain ⟨l1,l2⟩:=h.last G;have hc:=i6 h.go;refine ⟨c,m,rfl,⟨hc.1,?_,?_,?_⟩⟩
  ·rw [cT];exact ⟨h.go.2,h.stop⟩
  ·rw [ft];exact oO G l1 h.adj (fun z=>l2 z.symm)
  ·have:=h.nd
   have e:(b::c::(m++[a]))=(b::c::m)++[a]:=rfl;rw [e,HY];rw [Fb] at this;refine ⟨this.2,by simp,fun x hx y hy z=>?_⟩;rw [A_.mp hy] at z;rw [z] at hx;exact this.1 hx
theorem Rnd.rot (G:Gr nb) {L:List Pnt}:∀ (k:Nat),k<=L.length->(∃ a b l,L=a::b::l/\Rnd nb a b l)->∃ a b l,L.drop k++L.take k=a::b::l/\Rnd nb a b l
 | 0,_,h=>by simpa using h
 | k+1,hk,h=>by
  obtain ⟨a,b,l,e,r⟩:=Rnd.rot G k (by omega) h;obtain ⟨c,m,rfl,r'⟩:=r.rot1 G;refine ⟨b,c,m++[a],?_,r'⟩;have hk':k<L.length:=by omega
  rw [F8 hk',G8] at e;injection e with e1 e2;rw [HX,Ω hk',<- E9,e2,<- e1];rfl
theorem Rnd.rev (G:Gr nb) {a b:Pnt} {l:List Pnt} (h:Rnd nb a b l):∃ m,(a::b::l).reverse=(fin a b l).2::(fin a b l).1::m/\Rnd nb (fin a b l).2 (fin a b l).1 m:=by
 obtain ⟨m,h1,h2,h3⟩:=oW G h.adj h.go;obtain ⟨l1,l2⟩:=h.last G;refine ⟨m,h1,⟨G.sym (c7 G h.adj h.go),h2,?_,?_⟩⟩
 ·rw [h3];exact oO G h.adj l1 l2
 ·rw [<- h1];exact (List.reverse_perm _).nodup_iff.mpr h.nd
theorem Rnd.back (G:Gr nb) {a b:Pnt} {l:List Pnt} (h:Rnd nb a b l):∃ m,a::(b::l).reverse=a::(fin a b l).2::m/\Rnd nb a (fin a b l).2 m:=by
 obtain ⟨m,e,r⟩:=h.rev G;obtain ⟨x,y,k,e2,r2⟩:=Rnd.rot G (L:=(a::b::l).reverse) (l.length+1) (by simp) ⟨_,_,m,e,r⟩;have e3:(a::b::l).reverse=(b::l).reverse++[a]:=by rw [Hy]
 have hl:(b::l).reverse.length=l.length+1:=by simp
 rw [e3,<- hl,List.drop_left,List.take_left] at e2;have hne:b::l≠[]:=by simp
 have e4:(b::l).reverse.head?=some (fin a b l).2:=by
  rw [List.head?_reverse];have:=gp a b l
  rwa [KD] at this
 have e5:a::(b::l).reverse=x::y::k:=e2;injection e5 with e6 e7;rw [e7,List.head?_cons] at e4
 cases Fo e4
 subst e6;exact ⟨k,by rw [e7],r2⟩
theorem nh:∀ {a b:Pnt} {l m:List Pnt},Go nb a b l->Go nb (fin a b l).1 (fin a b l).2 m->Go nb a b (l++m)
 | _,_,[],_,_,h=>h
 | a,b,c::l,m,g,h=>⟨g.1,nh (a:=b) (b:=c) (l:=l) g.2 h⟩
theorem kY:∀ (a b:Pnt) (l m:List Pnt),fin a b (l++m)=fin (fin a b l).1 (fin a b l).2 m
 | _,_,[],_=>rfl
 | a,b,c::l,m=>kY b c l m
theorem uq (G:Gr nb) {a b:Pnt} (h1:(nb a).length=1) (hb:b∈nb a):∀ (n:Nat) (l:List Pnt),l.length=n->Go nb a b l->a∉l
 | 0,l,hl,_=>by rw [F2 hl]; simp
 | n+1,l,hl,g=>by
  have hne:l≠[]:=fun z=>by rw [z] at hl; simp at hl
  obtain ⟨m,x,rfl⟩:∃ m x,l=m++[x]:=⟨l.dropLast,l.getLast hne,(GN hne).symm⟩
  rw [BG,FA] at hl;obtain ⟨g1,g2⟩:=cT.mp g;have ih:=uq G h1 hb n m (by omega) g1;intro hm;rcases E_.mp hm with z | z
  ·exact ih z
  ·have z:=A_.mp z;subst z;have hx:a∈oth nb (fin a b m).1 (fin a b m).2:=by rw [g2]; exact A_.mpr rfl
   obtain ⟨x1,x2⟩:=aP.mp hx;have nd:=cD G hb m g1 ih;have hf:=G.sym x1
   have hfb:(fin a b m).2=b:=by
    match hq:nb a,h1,hb,hf with
    | [p],_,hb,hf=>exact (A_.mp hf).trans (A_.mp hb).symm
   cases m with
   | nil=>exact x2 rfl
   | cons c m =>
    have:=(bZ b c m).1
    have e:(fin a b (c::m)).2=(fin b c m).2:=rfl;rw [<- e,hfb] at this;rw [Fb,Fb] at nd;exact nd.2.1 this
theorem vX (G:Gr nb) {q y y2:Pnt} {m m2:List Pnt} (hy:y∈nb q) (hy2:y2∈nb q) (hne:y≠y2) (g:Go nb q y m) (g2:Go nb q y2 m2) (s1:oth nb (fin q y m).1 (fin q y m).2=[]) (s2:oth nb (fin q y2 m2).1 (fin q y2 m2).2=[]) :
    ∃ a b l,(y2::m2).reverse++q::y::m=a::b::l/\ka nb a b l/\(fin a b l).2=(fin q y m).2:=by
  obtain ⟨k,e,gk,fk⟩:=oW G hy2 g2;have hadj:=G.sym (c7 G hy2 g2);have e2:(y2::m2).reverse++q::y::m=(q::y2::m2).reverse++(y::m):=by rw [Hy (a:=q)]; simp
  have h1:nb (fin q y2 m2).2=[(fin q y2 m2).1]:=by
    rcases iD G hadj with h | ⟨c,h⟩
    · have all:∀ x∈nb (fin q y2 m2).2,x=(fin q y2 m2).1:=fun x hx=>by
        by_cases z:x=(fin q y2 m2).1
        · exact z
        · have:x∈oth nb (fin q y2 m2).1 (fin q y2 m2).2:=aP.mpr ⟨hx,z⟩
          rw [h] at this; cases this
      match hq:nb (fin q y2 m2).2,hadj,all,G.nd (fin q y2 m2).2 with
      | [p],_,all,_=>rw [all p θ]
      | p::r::t,_,all,nd =>
        have a1:=all p θ;have a2:=all r (Ξ _ θ);rw [a1,a2] at nd;simp at nd
    · rw [s2] at h; cases h
  have gg:Go nb (fin q y2 m2).2 (fin q y2 m2).1 (k++y::m):=by
    refine nh gk ?_;rw [fk];exact ⟨oO G hy2 hy hne,g⟩
  have hb:(fin q y2 m2).1∈nb (fin q y2 m2).2:=hadj;have hone:(nb (fin q y2 m2).2).length=1:=by rw [h1]; rfl
  have hf:fin (fin q y2 m2).2 (fin q y2 m2).1 (k++y::m)=fin q y m:=by rw [kY,fk]; rfl
  refine ⟨_,_,k++y::m,by rw [e2,e]; rfl,⟨hb,gg,hone,by rw [hf]; exact s1,cD G hb _ gg (uq G hone hb _ _ rfl gg)⟩,by rw [hf]⟩
end
end Sm
namespace L2
open PySem PySem.Spec PyProof.Rows PySem.W
def A3:V->List V->Hp->VK->Prop:=fun x vs H Q=>∃ (l:Δ) (xs:List V) (ds:List Gm) (d:Gm) (y:V) (j:Nat) (dj:Gm),x=.ref l/\vs=[y]/\H l=some (.lst xs)/\RepL H ds xs/\Rep H d y/\Gx ds=true/\d.canLay0=true/\d.depth<=60 /\
 ds[j]?=some dj/\GH dj d=true/\(∀ m dm,m<j->ds[m]?=some dm->GH dm d=false)/\Q (.int (j:Nat)) H
theorem vO {X:Cx} (hu:X.A.units+64<Iq):MtM X "list.index" A3:=by
 intro pins s σ H x vs v us Q I rx rv h;obtain ⟨l,xs,ds,d,y,j,dj,rfl,rfl,hH,hr,hd,cl,cd,dd,hj,hit,hno,q⟩:=h
 cases rx;obtain ⟨u,rfl,ru⟩:=rv.one;obtain ⟨z,its,n,r,hl,e⟩:=I.lstM hH;obtain ⟨as,r1⟩:=RepL.reads I hr r;obtain ⟨bs,r2⟩:=hd.reads I ru;have em:=SeqAt.readsAll_map ds _ _ cl r1;have at':∀ (m:Nat) (hm:m<its.toArray.size),ds[m]?=some (SeqAt.readOf s.heap its.toArray[m]):=fun m hm=>by
  rw [<- em,FE,Ω (by simpa using hm)];simp
 have hjl:j<its.toArray.size:=by
  have h1:=(C_.mp hj).1;rw [<- em,Θ] at h1
  simpa using h1
 have hz:its.length<=sizeLine:=by omega
 refine J7 F.slot_list_index ⟨_,e,rfl⟩ F.entry_list_index (F.args_list_index_2 _ _) (SeqAt.list_indexAt l its.toArray n none #[] u (fun y=>GH (SeqAt.readOf s.heap y) d) j hjl ?_ ?_ ?_) ⟨e,SeqAt.items_eqAt (by simpa using r1) r2 cl cd ?_,⟨.int (j:Nat),H,I.tok _,⟨_,rfl⟩,q⟩⟩
 ·have h1:j<its.length:=by simpa using hjl
  rw [KR] at hz;omega
 ·have:=at' j hjl
  rw [hj] at this;rw [<- Fo this]; exact hit
 ·intro m hm hlt;exact hno m _ hlt (at' m hm)
 ·have:=Ll (HV ds) d.depth
  omega
theorem xR {α β:Type} {f:α->Option β} {g:α->β}:∀ {l:List α},(∀ k∈l,f k=some (g k))->l.filterMap f=l.map g
 | [],_=>rfl
 | a::l,h=>by rw [ID,h a θ,Fg,xR fun k hk=>h k (Ξ _ hk)]
theorem D0 {items:List χ} (hne:items≠[]):NW items.toArray none (some 0) (some (-1))=(items.drop 1).reverse.toArray:=by
  have hp:0<items.length:=Jl.mpr hne;unfold NW
  have eb:I_ none (some 0) (some (-1)) items.toArray.size=((items.length:Int) - 1,0,-1):=by
    simp only [I_,E8];simp
    omega
  rw [eb]
  have er:sliceRange ((items.length:Int) - 1) 0 (-1)=(F3 (items.length - 1)).map fun k=>items.length - 1 - k:=by
    unfold sliceRange;have h1:¬ ((-1:Int) > 0):=by decide
    by_cases h:(items.length:Int) - 1 > 0
    · have e:((items.length:Int) - 1 - 0 - -1 - 1) / (- -1)=((items.length - 1:Nat):Int):=by
        rw [show (- -1:Int)=1 by decide,Int.ediv_one]; omega
      simp only [h1,if_false,h,if_true,e,F9];refine Ge fun k hk=>?_;have:=Ip.mp hk
      omega
    · have e:items.length - 1=0:=by omega
      rw [e];simp only [h1,if_false,h];rfl
  dsimp only;rw [er,Ng]
  congr 1
  rw [xR (g:=fun k=>items.getD (items.length - 1 - k) .none) (fun k hk=>?_)]
  · refine Lg (by simp) fun k h1 h2=>?_
    rw [Θ,Gg] at h1;rw [List.getElem_map,List.getElem_range,List.getElem_reverse,J0,E2,Ω (by omega)];simp only [JP,Fw]
    congr 1
    omega
  · have hk:=Ip.mp hk
    show items.toArray[items.length - 1 - k]?=_
    rw [List.getElem?_toArray,E2,Ω (by omega)];rfl
def y9 (K:W.Frag) (x:V) (H:Hp) (Q:VK):Prop:=∃ p ys,x=.ref p/\SqL K H p ys/\ys≠[]/\∀ l,H l=none->Q (.ref l) (upd H l (.lst (ys.drop 1).reverse))
def Cj (K:W.Frag) (te:TE) (tu ts:TO):TE:=fun σ H Q=>te σ H fun x H1=>tu σ H1 fun u H2=>ts σ H2 fun k H3=>u=some 0/\k=some (-1)/\y9 K x H3 Q
theorem uU {K:W.Frag} {te:TE} {tu ts:TO} {σ:St} {H:Hp} {Q:VK} (h:te σ H fun x H1=>tu σ H1 fun u H2=>ts σ H2 fun k H3=>u=some 0/\k=some (-1)/\y9 K x H3 Q):Cj K te tu ts σ H Q:=h
theorem uT {K:W.Frag} {a:Δ} {ys:List V} {H:Hp} {Q:VK} (e:H a=some (.lst ys)) (hne:ys≠[]) (h:∀ l,H l=none->Q (.ref l) (upd H l (.lst (ys.drop 1).reverse))):y9 K (.ref a) H Q:=⟨a,ys,rfl,SqL.of e,hne,h⟩
theorem lF {X:Cx} {e:GO} {te:TE} {up st:GO} {tu ts:TO} {p2 pos:Jf} (K:W.Frag) (hK:X.K=K) (he:PE X e te) (hup:PO X (some up) tu) (hst:PO X (some st) ts):PE X (.Subscript e (.Slice none (some up) (some st) p2) pos) (Cj K te tu ts):=by
 subst hK;intro pins s σ H Q I h;refine M5 (thn (he pins s σ H _ I h) fun v s1 ⟨x,H1,I1,r1,q1⟩=>?_);refine wpAny_Slice ?_
 (rw [La]; refine D_ ?_)
 refine thn (hup pins s1 σ H1 _ I1 q1) fun vu s2 ⟨ku,H2,I2,pu,q2⟩=>?_;refine thn (hst pins s2 σ H2 _ I2 q2) fun vs s3 ⟨k,H3,I3,pk,hu,hk,p,ys,hx,hl,hne,q3⟩=>?_;subst hk hx hu
 cases r1;have I4:Inv X pins σ H3 { s3 with heap:=s3.heap.push { cls:=.type "slice",data:=.fields #[.none,vu,vs] } }:=I3.kept (t':=s3.toks) fun b ob q=>ς _ q;obtain ⟨its,r,ht,hz⟩:=I4.list hl;have hlen:=r.length;have hni:its≠[]:=fun z=>hne (F2 (by rw [hlen,z]; rfl))
 show FD (FQ X.prog X.w) X.A (LZ e (.Slice none (some up) (some st) p2) (.ref p) (.ref s3.heap.objs.size)) (EP X pins σ Q) X.xe { s3 with heap:=s3.heap.push { cls:=.type "slice",data:=.fields #[.none,vu,vs] } }
 refine tail_any (ops:=[.ref p,.ref s3.heap.objs.size]) ht.isList.typeIs KQ.lookup ?_ (by with_unfolding_all rfl);refine KY ht.isList (KI ..) .none pu pk (by simp) ?_ (by rw [E8]<;>omega);rw [D0 hni]
 have rv:Vals (ys.drop 1).reverse (its.drop 1).reverse:=by
  refine Vals.rev ?_
  cases r with
  | nil => exact .nil
  | cons _ t => exact t
 refine ⟨.ref _,_,I4.laid (t':=s3.toks) (o:=.lst (ys.drop 1).reverse) (fun b ob q=>ς _ q) (BE _) ?_,rfl,q3 _ (I4.hok.fresh (BE _))⟩;exact ⟨by rw [IC,Fw]; omega,_,0,rv,E5 _ rfl⟩
end L2
namespace Fm
noncomputable abbrev kU:=List L2.Key
noncomputable abbrev Tie:=kU×kU×Int
inductive Con (F:List Tie):kU->kU->Prop
 | refl (a:kU):Con F a a
 | fwd {a b c:kU} {w:Int}:Con F a b->(b,c,w)∈F->Con F a c
 | bwd {a b c:kU} {w:Int}:Con F a b->(c,b,w)∈F->Con F a c
end Fm
namespace L2
open PySem PySem.Spec PyProof.Rows PySem.W
noncomputable def sx (i:Int):List Key:=[.inr "x",.inl i]
noncomputable def sy (i:Int):List Key:=[.inr "y",.inl i]
end L2
namespace L2
open PySem PySem.Spec PyProof.Rows
end L2
namespace L2
open PySem PySem.Spec PyProof.Rows PySem.W
section
variable {K:W.Frag} {H:Hp} {Q:VK}
theorem zw {a:Δ} {xs:List V} {lo hi:Option Int} (h:H a=some (.lst xs)) (q:∀ p H1,ah H H1->H p=none->H1 p=some (.lst (di xs lo hi))->Q (.ref p) H1):A7 K (.ref a) lo hi H Q:=fc h fun p n=>q p _ (ah.new n) n af
end
def uQ:V->List V->Hp->VK->Prop:=fun x vs H Q=>∃ (l:Δ) (ns:List Int) (k:Int),x=.ref l/\vs=[.int k]/\H l=some (.lst (ns.map V.int))/\Q (.int (ns.count k:Nat)) H
theorem vM {X:Cx}:MtM X "list.count" uQ:=by
 intro pins s σ H x vs v us Q I rx rv h;obtain ⟨l,ns,k,rfl,rfl,hH,q⟩:=h
 cases rx;obtain ⟨u,rfl,ru⟩:=rv.one;obtain ⟨t,rfl⟩:=ru;obtain ⟨z,its,n,r,hl,e⟩:=I.lstM hH;refine count_list_ints ⟨_,e,rfl,n,rfl⟩ (su r) ?_;exact ⟨.int _,H,I.tok _,⟨_,rfl⟩,q⟩
theorem wa {H:Hp} {Q:VK} {l:Δ} {ns:List Int} {k:Int} (h:H l=some (.lst (ns.map V.int))) (q:Q (.int (ns.count k:Nat)) H):uQ (.ref l) [.int k] H Q:=⟨l,ns,k,rfl,rfl,h,q⟩
section
variable {K:W.Frag} {σ:St} {H:Hp} {Q:VK} {te:TE} {tt:TT} {cap:List (Option Nat)} {l:Δ}
theorem gi {a:Δ} {xs:List V} (ys:List V) (hy:ys.length=xs.length) (hs:SqL K H a xs) (hz:xs.length<=1000) (hl:H l=none)
  (step:∀ (i:Nat) x y o H' (Q':VK),xs[i]?=some x->ys[i]?=some y->ah H H'->(∀ H5,ah H' H5->Q' y H5)->te (((dr (none::cap) σ).set 0 o).set 0 (some x)) H' Q')
  (fin:∀ H',ah H H'->H' l=some (.lst ys)->Q (.ref l) H'):f6 (Itl K a) (cX 0) iu te (none::cap) l σ H Q:=by
 refine ⟨xs.length,fun i zs σ' H'=>zs=ys.take i/\(∃ o,σ'=(dr (none::cap) σ).set 0 o)/\ah H H'/\H' l=some (.lst zs),⟨rfl,⟨none,rfl⟩,ah.new hl,af⟩,?_,?_⟩
 ·rintro i zs σ' H' hi ⟨rfl,⟨o,rfl⟩,s,e⟩;refine ⟨⟨xs,xs[i],s.seq hs,by simp [hi]⟩,fun x H2 y=>?_⟩;obtain ⟨e2,y⟩:=y;subst e2;have hx:=y xs (s.seq hs);have hyi:i<ys.length:=by omega
  refine b0 (dR (mz ?_));refine step i x ys[i] o H2 _ hx (Ω hyi) s fun H5 s5=>⟨s5 _ _ e,?_,?_⟩
  ·rw [Fl];exact cJ (by omega)
  ·exact ⟨J4 hyi,⟨_,IS ..⟩,(s.trans s5).later hl,af⟩
 ·rintro zs σ' H' ⟨rfl,_,s,e⟩;rw [FG (by omega)] at e;exact ⟨⟨xs,s.seq hs,BE _⟩,fin H' s e⟩
theorem om {n:Nat} (p:Nat->Bool) (R:Nat->V->Hp->Prop) (hz:n<=1000) (hl:H l=none) (mono:∀ i v H1 H2,SameBut l H1 H2->R i v H1->R i v H2)
  (test:∀ i o H' (Q':Bool->Hp->Prop),i<n->ah H H'->(∀ H5,ah H' H5->Q' (p i) H5)->tt (((dr (none::cap) σ).set 0 o).set 0 (some (.int ((0:Int)+(i:Nat))))) H' Q')
  (step:∀ i o H' (Q':VK),i<n->p i=true->ah H H'->(∃ ys,H' l=some (.lst ys))->(∀ v H5,ah H' H5->R i v H5->Q' v H5)->te (((dr (none::cap) σ).set 0 o).set 0 (some (.int ((0:Int)+(i:Nat))))) H' Q')
  (fin:∀ ys H',ah H H'->H' l=some (.lst ys)->ys.length=((F3 n).filter p).length->(∀ (j:Nat) v,ys[j]?=some v->∃ m,((F3 n).filter p)[j]?=some m/\R m v H')->Q (.ref l) H'):f6 (Itr 0 n) (cX 0) tt te (none::cap) l σ H Q:=by
 refine ⟨n,fun i ys σ' H'=>(ys.length=((F3 i).filter p).length/\∀ (j:Nat) v,ys[j]?=some v->∃ m,((F3 i).filter p)[j]?=some m/\R m v H')/\(∃ o,σ'=(dr (none::cap) σ).set 0 o)/\ah H H'/\H' l=some (.lst ys),⟨⟨rfl,fun j v e=>by simp at e⟩,⟨none,rfl⟩,ah.new hl,af⟩,?_,?_⟩
 ·rintro i ys σ' H' hi ⟨⟨ly,hR⟩,⟨o,rfl⟩,s,e⟩;refine ⟨hi,fun x H2 y=>?_⟩;obtain ⟨e2,rfl⟩:=y;subst e2;have fl:((F3 i).filter p).length<=i:=Fe (JS _ _) (by rw [Gg]; exact BE _)
  have rs:(F3 (i+1)).filter p=(F3 i).filter p++(if p i=true then [i] else []):=by
   rw [Kl,K9]
   congr 1
   cases hp:p i<;>simp [hp]
  refine b0 (test i o H2 _ hi s fun H5 s5=>?_);by_cases hp:p i=true
  ·rw [if_pos hp];rw [if_pos hp] at rs;refine step i o H5 _ hi hp (s.trans s5) ⟨ys,s5 _ _ e⟩ fun v H6 s6 r=>⟨s6 _ _ (s5 _ _ e),cJ (by omega),?_⟩
   have sb:SameBut l H6 (upd H6 l (.lst (ys++[v]))):=fun b u eb hb=>by rw [ar hb]; exact eb
   refine ⟨⟨by rw [rs,BG,BG,ly]; rfl,fun j u ej=>?_⟩,⟨_,IS ..⟩,((s.trans s5).trans s6).later hl,af⟩;rw [rs];by_cases hj:j<ys.length
   ·rw [GK hj] at ej;obtain ⟨m,hm,q⟩:=hR j u ej;exact ⟨m,by rw [GK (by omega)]; exact hm,mono m u _ _ sb (mono m u _ _ ((s5.trans s6).but l) q)⟩
   ·rw [F4 (by omega)] at ej;have:j - ys.length=0:=by
     have hh:=(C_.mp ej).1;rw [FA] at hh;omega
    rw [this] at ej
    cases ej;exact ⟨i,by rw [F4 (by omega),<- ly,this]; rfl,mono i _ _ _ sb r⟩
  ·rw [if_neg hp];rw [if_neg hp,FH] at rs;refine ⟨⟨by rw [rs]; exact ly,fun j u ej=>?_⟩,⟨_,IS ..⟩,s.trans s5,s5 _ _ e⟩;obtain ⟨m,hm,q⟩:=hR j u ej;exact ⟨m,by rw [rs]; exact hm,mono m u _ _ (s5.but l) q⟩
 ·rintro ys σ' H' ⟨⟨ly,hR⟩,_,s,e⟩;exact ⟨BE _,fin ys H' s e ly hR⟩
end
end L2
namespace PySem
end PySem
namespace PyProof.Rows
open PySem PySem.Spec
end PyProof.Rows
namespace PySem
open PySem.Spec PyProof.Rows
end PySem
namespace L2
open PySem PySem.Spec PyProof.Rows PySem.W
end L2
namespace L2
open PySem PySem.Spec PyProof.Rows
section
variable {K:W.Frag} {x qual:Str} {st:Jz} {f:Δ} {fd:GX}
theorem Fun.b1 {p0:Str} (F:Fun K x qual st f fd) (h:∀ (kV doc pm:χ) (an:Option Δ) (cdv ct a0:χ),Kr (W.fnOf x qual (dA st) (cS st) (ak st) .none kV doc pm an cdv ct) ⟨[a0],[]⟩=pure [(p0,a0)]):aI K fd [p0] [] :=
 F.binds fun kV doc pm an cdv ct us hl=>by obtain ⟨a0,rfl⟩:=EK hl; exact h kV doc pm an cdv ct a0
theorem Fun.b2 {p0 p1:Str} (F:Fun K x qual st f fd) (h:∀ (kV doc pm:χ) (an:Option Δ) (cdv ct a0 a1:χ),Kr (W.fnOf x qual (dA st) (cS st) (ak st) .none kV doc pm an cdv ct) ⟨[a0,a1],[]⟩=pure [(p0,a0),(p1,a1)]):aI K fd [p0,p1] [] :=
 F.binds fun kV doc pm an cdv ct us hl=>by obtain ⟨a0,a1,rfl⟩:=EL hl; exact h kV doc pm an cdv ct a0 a1
theorem Fun.b3 {p0 p1 p2:Str} (F:Fun K x qual st f fd) (h:∀ (kV doc pm:χ) (an:Option Δ) (cdv ct a0 a1 a2:χ),Kr (W.fnOf x qual (dA st) (cS st) (ak st) .none kV doc pm an cdv ct) ⟨[a0,a1,a2],[]⟩=pure [(p0,a0),(p1,a1),(p2,a2)]):aI K fd [p0,p1,p2] [] :=
 F.binds fun kV doc pm an cdv ct us hl=>by obtain ⟨a0,a1,a2,rfl⟩:=EM hl; exact h kV doc pm an cdv ct a0 a1 a2
theorem Fun.b4 {p0 p1 p2 p3:Str} (F:Fun K x qual st f fd) (h:∀ (kV doc pm:χ) (an:Option Δ) (cdv ct a0 a1 a2 a3:χ),Kr (W.fnOf x qual (dA st) (cS st) (ak st) .none kV doc pm an cdv ct) ⟨[a0,a1,a2,a3],[]⟩=pure [(p0,a0),(p1,a1),(p2,a2),(p3,a3)]):aI K fd [p0,p1,p2,p3] [] :=
 F.binds fun kV doc pm an cdv ct us hl=>by obtain ⟨a0,a1,a2,a3,rfl⟩:=EN hl; exact h kV doc pm an cdv ct a0 a1 a2 a3
theorem Fun.b5 {p0 p1 p2 p3 p4:Str} (F:Fun K x qual st f fd) (h:∀ (kV doc pm:χ) (an:Option Δ) (cdv ct a0 a1 a2 a3 a4:χ),Kr (W.fnOf x qual (dA st) (cS st) (ak st) .none kV doc pm an cdv ct) ⟨[a0,a1,a2,a3,a4],[]⟩=pure [(p0,a0),(p1,a1),(p2,a2),(p3,a3),(p4,a4)]):aI K fd [p0,p1,p2,p3,p4] [] :=
 F.binds fun kV doc pm an cdv ct us hl=>by obtain ⟨a0,a1,a2,a3,a4,rfl⟩:=EO hl; exact h kV doc pm an cdv ct a0 a1 a2 a3 a4
theorem Fun.bl {p:Str} (F:Fun K x qual st f fd) (h:∀ (kV doc pm:χ) (an:Option Δ) (cdv ct a:χ),Kr (W.fnOf x qual (dA st) (cS st) (ak st) .none kV doc pm an cdv ct) ⟨[a],[]⟩=pure [(p,a)]) (s:AU) (v:χ):Mz s fd ⟨[v],[]⟩ [(p,v)]:=by
 obtain ⟨_,_,kV,doc,pm,an,cdv,ct,_,rfl,_,_⟩:=F.ex;exact .of_eq (h kV doc pm an cdv ct v)
end
theorem ay.by {N P:List Str} {sc:KS} (h1:sc.kind=.function:=by rfl) (h2:sc.isCoroutine=false:=by rfl) (h3:sc.isGenerator=false:=by rfl) (h4:N.Nodup:=by decide +kernel) (h5:N.take P.length=P:=by rfl) (h6:∀ x∈P,sc.names.lookup x=some .local\/sc.names.lookup x=some .cell:=by decide +kernel) (h7:∀ y∈sc.names,y.2≠.free:=by decide +kernel):ay N P sc:=⟨h1,h2,h3,h4,h5,h6,h7⟩
end L2
namespace L2
open PySem PySem.Spec PyProof.Rows PySem.W
end L2
namespace Wn
noncomputable abbrev Pnt:=Int×Int
noncomputable def gt (M:List Pnt) (k:Nat):Pnt:=M.getD k (0,0)
noncomputable def pv (n k:Nat):Nat:=if k=0 then n - 1 else k - 1
noncomputable def vw (p q:Pnt):Option Pnt:=if p.1=q.1 then some (p.1,if q.2<p.2 then q.2 else p.2) else none
noncomputable def W (M:List Pnt):List Pnt:=(F3 M.length).filterMap fun k=>vw (gt M (pv M.length k)) (gt M k)
noncomputable def rw (M:List Pnt) (y:Int):List Int:=((W M).filter fun p=>decide (p.2=y)).map (·.1)
noncomputable def ins (M:List Pnt) (q:Pnt):Bool:=decide (((rw M q.2).filter fun x=>decide (x<=q.1)).length%2=1)
noncomputable def DF:List Int->Int->Bool
 | a::b::t,x=>(decide (a<=x)&&decide (x<b))||DF t x
 | _,_=>false
noncomputable def EV (a b:Int) (y:Int):List Pnt:=(F3 (b - a).toNat).map fun i=>(a+((i:Nat):Int),y)
noncomputable def cl (y:Int):List Int->List Pnt
 | a::b::t=>EV a b y++cl y t
 | _=>[]
end Wn
namespace L2
open PySem PySem.Spec PyProof.Rows PySem.W Builtin Builtin.ObjectAttr Builtin.Getset_descriptor
theorem vJ:∀ n:Fin 100,(((n.val:Nat):Int)).natAbs.log2<1920:=by decide +kernel
inductive PEs (X:Cx):List GO->List TE->Prop
 | nil:PEs X [] []
 | cons {e:GO} {es:List GO} {t:TE} {ts:List TE}:PE X e t->PEs X es ts->PEs X (e::es) (t::ts)
end L2
namespace L2
open PySem PySem.Spec PyProof.Rows PySem.W
end L2
namespace L2
open PySem PySem.Spec PyProof.Rows
end L2
namespace Fc
noncomputable def it:Nat->Nat->Nat
 | 0,x=>x
 | n+1,x=>it n (5*x+1)
end Fc
namespace Fc
open PySem PySem.SetTable
noncomputable def st (mask:Nat) (q:Nat×Nat):Probe:={ j:=q.1,more:=runEnd mask q.1 - q.1,i:=q.1,perturb:=q.2,dummy:=none }
noncomputable def pr (t:SetTable) (h:Int):Nat->Probe
 | 0=>t.probeStart h
 | m+1=>t.advance (pr t h m)
end Fc
namespace Fc
open PySem PySem.SetTable PyProof.Rows
section
variable {prog:FP} {w:F0} {A:Fv} {E:χ->AU->Prop} {s:AU}
abbrev TK (prog:FP) (w:F0) (h:F6) (q:List Int) (b:Δ):Prop:=IsTupleKey (intKind prog w) h q b
end
end Fc
namespace Fc
open PySem PySem.SetTable PyProof.Rows
section
variable {prog:FP} {w:F0} {A:Fv} {E:χ->AU->Prop} {s:AU}
def Els (prog:FP) (w:F0) (h:F6) (es:Array (Int×χ)) (ks:List (List Int)):Prop:=∀ e∈es.toList,∃ q∈ks,∃ b,e.2=.ref b/\TK prog w h q b
end
end Fc
namespace Fc
open PySem PySem.SetTable PyProof.Rows
end Fc
namespace Fc
open PySem PySem.SetTable PyProof.Rows
section
variable {prog:FP} {w:F0} {A:Fv} {E:χ->AU->Prop} {s:AU}
def ED (prog:FP) (w:F0) (h:F6) (a:Δ) (ks:List (List Int)):Prop:=∃ o es ep t k,h.get? a=some o/\o.ExactSet/\o.data=.set es ep t/\t.mask+1=2 ^ k/\3<=k/\k<=13/\t.dummies=#[]/\t.place.size=es.size/\es.size=ks.length/\es.size*5<t.mask*3/\Els prog w h es ks
end
end Fc
namespace Fc
open PySem PySem.SetTable PyProof.Rows
end Fc
namespace L2
open PySem PySem.Spec PyProof.Rows PySem.W
theorem oh {K:W.Frag} {σ:St} {H:Hp} {Q:VK} {te:TE} {cap:List (Option Nat)} {l a:Δ} {xs:List V} (ys:List V) (hy:ys.length=xs.length) (hs:SqL K H a xs) (hz:xs.length<=1700) (hl:H l=none)
  (hp:∀ (i:Nat) v,xs[i]?=some v->∃ b u1 u2,v=.ref b/\H b=some (.tup [u1,u2]))
  (step:∀ (i:Nat) b u1 u2 y o1 o2 H' (Q':VK),xs[i]?=some (.ref b)->H b=some (.tup [u1,u2])->ys[i]?=some y->ah H H'->(∀ H5,ah H' H5->Q' y H5)->te (((((dr (none::none::cap) σ).set 0 o1).set 1 o2).set 0 (some u1)).set 1 (some u2)) H' Q')
  (fin:∀ H',ah H H'->H' l=some (.lst ys)->Q (.ref l) H'):f6 (Itl K a) (sq K 2 (ij (cX 0) (ij (cX 1) vy))) iu te (none::none::cap) l σ H Q:=by
 refine ⟨xs.length,fun i zs σ' H'=>zs=ys.take i/\(∃ o1 o2,σ'=((dr (none::none::cap) σ).set 0 o1).set 1 o2)/\ah H H'/\H' l=some (.lst zs),⟨rfl,⟨none,none,rfl⟩,ah.new hl,af⟩,?_,?_⟩
 ·rintro i zs σ' H' hi ⟨rfl,⟨o1,o2,rfl⟩,s,e⟩;refine ⟨⟨xs,xs[i],s.seq hs,by simp [hi]⟩,fun x H2 y=>?_⟩;obtain ⟨e2,y⟩:=y;subst e2;have hx:=y xs (s.seq hs);obtain ⟨b,u1,u2,rfl,hb⟩:=hp i x hx;have hyi:i<ys.length:=by omega
  refine fT (s _ _ hb) rfl ?_;refine dg (b0 (dg (b0 (jl ?_))));refine dR (mz ?_);refine step i b u1 u2 ys[i] o1 o2 H2 _ hx hb (Ω hyi) s fun H5 s5=>⟨s5 _ _ e,?_,?_⟩
  ·rw [Fl];exact FI (show _<2000 by omega) (by decide)
  ·exact ⟨J4 hyi,⟨some u1,some u2,rfl⟩,(s.trans s5).later hl,af⟩
 ·rintro zs σ' H' ⟨rfl,_,s,e⟩;rw [FG (by omega)] at e;exact ⟨⟨xs,s.seq hs,BE _⟩,fin H' s e⟩
noncomputable def sgn (c:Nat):Str:=⟨#[c]⟩
noncomputable def Itx (x:Str):It:=⟨fun i _=>i<x.cps.size,fun i H v H'=>H'=H/\∃ c,x.cps[i]?=some c/\v=.str (sgn c),fun i _=>x.cps.size<=i⟩
theorem xh {P:FP} {w:F0} {K:W.Frag} {tg:GO} {ty:String} (it:Δ) (x:Str) (t:Tok) (hty:ty="str_ascii_iterator"\/ty="str_iterator"):p7 P w K tg (Itx x) [it] it (fun i h=>h.IsStrIter it ty x t i) where
  mem:=by simp
  obj:=fun i h st b hb=>by
    have e:b=it:=by simpa using hb
    subst e;obtain ⟨o,e,c,d⟩:=st;exact ⟨o,e,fun v z=>by rw [d] at z; cases z⟩
  keep:=fun i h h' st k=>let ⟨o,ho,r⟩:=st; ⟨o,k it (by simp) o ho,r⟩
  item:=by
    intro X hP hw hK hc i pins s σ H E I hf st hg;subst hP hw hK;have hg:i<x.cps.size:=hg;obtain ⟨f0,f1,f2,f3,f4,f5⟩:=hf it (by simp);have key:∀ h':F6,h'.IsStrIter it ty x t (i+1)->H_ it s.heap h' ->
        ∃ u,some (J8 ⟨#[x.cps[i]]⟩ s.toks)=some u/\FD (FQ X.prog X.w) X.A (Jv tg (.ref it) u) (fun _ s2=>∃ x_1 H',Inv X pins σ H' s2/\bj x_1 u/\(Itx x).yld i H x_1 H'/\s2.heap.IsStrIter it ty x t (i+1)/\∀ b∈[it],H' b=none) E { s with heap:=h',toks:=s.toks+1 }:=fun h' st' sb=>by
      have I1:Inv X pins σ H { s with heap:=h',toks:=s.toks+1 }:=I.turned (fun b o hb e=>(sb.2 b hb).trans e) f0 f1 f3 f4 f5;obtain ⟨o,e,c,d⟩:=id st';exact ⟨_,rfl,uw (s:={ s with heap:=h',toks:=s.toks+1 }) e c d (by rcases hty with z | z<;>rw [z]<;>decide) ⟨.str (sgn x.cps[i]),H,I1,⟨_,rfl⟩,⟨rfl,_,by simp [hg],rfl⟩,st',fun b hb=>(hf b hb).1⟩⟩
    rcases hty with z | z
    · subst z
      exact wpAny_pyNext_ascii_item st (c:=x.cps[i]) (by simp [hg]) key
    · subst z
      exact wpAny_pyNext_wide_item st (c:=x.cps[i]) (by simp [hg]) key
  done:=by
    intro X hP hw hK hc i pins s σ H E I hf st hg;subst hP hw hK;have hg:x.cps.size<=i:=hg;obtain ⟨f0,f1,f2,f3,f4,f5⟩:=hf it (by simp);have key:∀ h':F6,Heap.ExtBut it s.heap h'->(none:Option χ)=none/\Inv X pins σ H { s with heap:=h' }:=fun h' eb=>⟨rfl,I.turned (t':=s.toks) (fun b o hb e=>eb b o hb e) f0 f1 f3 f4 f5⟩
    rcases hty with z | z
    · subst z
      exact wpAny_pyNext_ascii_end (I.ok.hd hc) st (by simp; omega) key
    · subst z
      exact wpAny_pyNext_wide_end (I.ok.hd hc) st (by simp; omega) key
  self:=fun A i s Q E st h=>by
    rcases hty with z | z
    · subst z; exact wpAny_pyIter_striter_ascii st h
    · subst z; exact wpAny_pyIter_striter_wide st h
def BZ (tl:TE):TI:=fun σ H R=>tl σ H fun v H1=>∃ x:Str,v=.str x/\R (Itx x) H1
theorem rg {tl:TE} {σ:St} {H:Hp} {R:It->Hp->Prop} (h:tl σ H fun v H1=>∃ x:Str,v=.str x/\R (Itx x) H1):BZ tl σ H R:=h
theorem uK {X:Cx} {tg l:GO} {tl:TE} (hl:PE X l tl):PI X tg l (BZ tl):=by
 intro pins s σ H R I h;refine thn (hl pins s σ H _ I h) fun v s1 ⟨x,H1,I1,r1,q1⟩=>?_;obtain ⟨x,rfl,q⟩:=q1;obtain ⟨t,rfl⟩:=r1;have fin:∀ (ty:String),(ty="str_ascii_iterator"\/ty="str_iterator")->PIE X pins σ tg R (.ref s1.heap.objs.size) { s1 with heap:=s1.heap.push { cls:=.type ty,data:=.fields #[.str x t,.int 0 0] } }:=fun ty hty=>by
  refine ⟨s1.heap.objs.size,[s1.heap.objs.size],_,_,H1,rfl,I1.kept (t':=s1.toks) fun b o e=>ς _ e,xh _ x t hty,⟨_,E5 _ rfl,rfl,rfl⟩,fun b hb=>?_,q⟩;have e:b=s1.heap.objs.size:=by simpa using hb
  subst e;exact I1.fpOk (BE _) (I1.hok.fresh (BE _))
 cases ha:x.cps.all (·<128)
 ·exact wpAny_pyIter_wide ha (fin _ (.inr rfl))
 ·exact wpAny_pyIter_ascii ha (fin _ (.inl rfl))
theorem jV {σ:St} {H:Hp} {Q:VK} {te:TE} {cap:List (Option Nat)} {l:Δ} {x:Str} (ys:List V) (hy:ys.length=x.cps.size) (hz:x.cps.size<=1000) (hl:H l=none)
  (step:∀ (i:Nat) c y o H' (Q':VK),x.cps[i]?=some c->ys[i]?=some y->ah H H'->(∀ H5,ah H' H5->Q' y H5)->te (((dr (none::cap) σ).set 0 o).set 0 (some (.str (sgn c)))) H' Q')
  (fin:∀ H',ah H H'->H' l=some (.lst ys)->Q (.ref l) H'):f6 (Itx x) (cX 0) iu te (none::cap) l σ H Q:=by
 refine ⟨x.cps.size,fun i zs σ' H'=>zs=ys.take i/\(∃ o,σ'=(dr (none::cap) σ).set 0 o)/\ah H H'/\H' l=some (.lst zs),⟨rfl,⟨none,rfl⟩,ah.new hl,af⟩,?_,?_⟩
 ·rintro i zs σ' H' hi ⟨rfl,⟨o,rfl⟩,s,e⟩;refine ⟨hi,fun v H2 y=>?_⟩;obtain ⟨e2,c,hc,rfl⟩:=y;subst e2;have hyi:i<ys.length:=by omega
  refine b0 (dR (mz ?_));refine step i c ys[i] o H2 _ hc (Ω hyi) s fun H5 s5=>⟨s5 _ _ e,?_,?_⟩
  ·rw [Fl];exact cJ (by omega)
  ·exact ⟨J4 hyi,⟨_,IS ..⟩,(s.trans s5).later hl,af⟩
 ·rintro zs σ' H' ⟨rfl,_,s,e⟩;rw [FG (by omega)] at e;exact ⟨BE _,fin H' s e⟩
theorem rj:∀ (l:List (Str×Tok)),Vals ((l.map (·.1)).map V.str) (NV l)
 | []=>.nil
 | (x,t)::l=>Paired.cons (show bj (.str x) (.str x t) from ⟨t,rfl⟩) (rj l)
theorem rL:∀ {xs:List Str} {us:List χ},Vals (xs.map V.str) us->∃ l:List (Str×Tok),us=NV l/\l.map (·.1)=xs
 | [],us,h=>by cases h; exact ⟨[],rfl,rfl⟩
 | x::xs,us,h=>by
  cases h with
  | cons h1 h2 =>
   obtain ⟨t,rfl⟩:=(show ∃ t,_=J8 x t from h1)
   obtain ⟨l,rfl,rfl⟩:=rL h2;exact ⟨(x,t)::l,rfl,rfl⟩
theorem wW (x y:Str):(Txt.split x y).length<=x.length+2:=by
 unfold Txt.split
 split
 ·show 1<=_; omega
 ·split
  ·show 1<=_; omega
  ·rw [length_partsBetween];have:=MU x y 0 x.length (x.length+1)
   omega
def C8:V->List V->Hp->VK->Prop:=fun x ys H Q=>∃ a b:Str,x=.str a/\ys=[.str b]/\(b.length==0)=false/\a.length<=5000/\∀ p,H p=none->Q (.ref p) (upd H p (.lst ((Txt.split a b).map V.str)))
theorem yj {X:Cx}:MtR X "str.split" C8:=by
 intro pins s σ H x ys v us Q I rx rv h;obtain ⟨x,y,rfl,rfl,hy,hz,q⟩:=h;obtain ⟨t,rfl⟩:=rx;obtain ⟨u,rfl,ru⟩:=rv.one;obtain ⟨u,rfl⟩:=ru;have hsz:x.length<=sizeLine:=Fe hz (by decide)
 have hsz2:(LX x (Hx x y 0 x.length (x.length+1)) y.length).length<=sizeLine:=by
  rw [length_partsBetween];have:=MU x y 0 x.length (x.length+1)
  exact Fe (show _<=5010 by omega) (by decide)
 have few:=wW x y;have fin:∀ (l:List (Str×Tok)) (k:Nat),l.map (·.1)=Txt.split x y->EP X pins σ Q (.ref s.heap.objs.size) { s with toks:=k,heap:=s.heap.push { cls:=.type "list",data:=.seq (NV l).toArray } }:=fun l k hl=>by
  refine ⟨.ref _,_,I.lnew (t':=k) (ys:=(Txt.split x y).map V.str) (its:=NV l) (by rw [<- hl]; exact rj l) (by rw [Θ]; exact Fe (show _<=5010 by omega) (by decide)),rfl,q _ I.fresh⟩
 cases h1:(decide (x.length<y.length)||decide (MH x<MH y))
 ·cases hf:(Hx x y 0 x.length (x.length+1)).isEmpty
  ·refine J7 L6 (Lj _ _ _) Ln (LW _ _) (meets_str_split_sep x y t u h1 hy hf hsz hsz2) ?_
   show wants (EP X pins σ Q) X.xe _ { s with toks:=_,heap:=s.heap.push { cls:=.type "list",data:=.seq (strsFrom s.toks (LX x (Hx x y 0 x.length (x.length+1)) y.length)).toArray } }
   rw [strsFrom_eq];exact fin (numbered s.toks _) _ ((numbered_texts _ _).trans ((if_neg (ne_true_of_eq_false h1)).trans (if_neg (ne_true_of_eq_false hf))).symm)
  ·exact J7 L6 (Lj _ _ _) Ln (LW _ _) (meets_str_split_not_found x y t u h1 hy hf) (fin [(x,t)] s.toks ((if_neg (ne_true_of_eq_false h1)).trans (if_pos hf)).symm)
 ·exact J7 L6 (Lj _ _ _) Ln (LW _ _) (meets_str_split_cannot_occur x y t u h1) (fin [(x,t)] s.toks (if_pos h1).symm)
def D6:V->List V->Hp->VK->Prop:=fun x ys H Q=>∃ (a:Str) (p:Δ) (ts:List Str),x=.str a/\ys=[.ref p]/\H p=some (.lst (ts.map V.str))/\JoinOk a ts=true/\Q (.str (Txt.join a ts)) H
theorem AL {X:Cx}:MtR X "str.join" D6:=by
 intro pins s σ H x ys v us Q I rx rv h;obtain ⟨x,p,ts,rfl,rfl,hp,hok,q⟩:=h;obtain ⟨t,rfl⟩:=rx;obtain ⟨u,rfl,ru⟩:=rv.one
 cases ru;obtain ⟨z,its,n,r,hl,e⟩:=I.lstM hp;obtain ⟨l,rfl,ht⟩:=rL r;exact SC.join (l:=l) ⟨_,e,rfl,n,rfl⟩ ht hok fun t' k=>⟨.str _,H,I.tok _,⟨_,rfl⟩,q⟩
def D4:List V->Hp->VK->Prop:=fun xs H Q=>∃ (x:Str) (n:Int),xs=[.str x]/\L0 x=some n/\x.length<=640/\Q (.int n) H
theorem uh {X:Cx}:bS X (.type "int") D4:=by
 intro pins s σ H xs us Q I r h;obtain ⟨x,n,rfl,hn,hl,q⟩:=h;obtain ⟨u,rfl,rx⟩:=mn r;obtain ⟨t,rfl⟩:=rx;exact PySem.W.KIN.call_text hn hl ⟨.int n,H,I.tok _,⟨_,rfl⟩,q⟩
def B1:List V->Hp->VK->Prop:=fun xs H Q=>∃ z:Str,xs=[.str z]/\z.length<=E4/\Q (.int z.length) H
theorem Au {X:Cx}:bS X (.builtin "len") B1:=nV
theorem Bj {H:Hp} {Q:VK} {z:Str} (h:z.length<=E4) (q:Q (.int z.length) H):B1 [.str z] H Q:=⟨z,rfl,h,q⟩
end L2
namespace L2
open PySem PySem.Spec PyProof.Rows
open Builtin Builtin.Str
theorem BH {a b:Str} (h:a.cps.toList=b.cps.toList):a=b:=by
 cases a with | mk x=>cases b with | mk y=>congr 1; exact Array.toList_inj.mp h
theorem xF (a b:Str):(a++b).cps.toList=a.cps.toList++b.cps.toList:=EY
theorem x9:∀ cs:List Nat,(Txt.join "" (cs.map sgn)).cps.toList=cs:=by
 intro cs
 show (glued _ _).cps.toList=_
 rw [PySem.StrLaws.glued_eq_join]
 induction cs with
 | nil=>rfl
 | cons c r ih =>
  cases r with
  | nil => rfl
  | cons d r =>
   show ((sgn c++"")++KJ "" ((d::r).map sgn)).cps.toList=_
   rw [xF,xF,ih]; rfl
theorem sv {cs:List Nat} (h:cs.length<=1000):JoinOk "" (cs.map sgn)=true:=by
 unfold JoinOk;rw [List.foldl_toArray];have:∀ (cs:List Nat) (a:Nat),(cs.map sgn).foldl (fun x1 x2=>x1+x2.length+("":Str).length) a=a+cs.length:=by
  intro cs
  induction cs with
  | nil => intro a; rfl
  | cons c r ih =>
   intro a;rw [Fg,List.foldl_cons,ih]
   show a+1+0+r.length=a+(r.length+1)
   omega
 rw [this,Nat.zero_add];unfold tooLong;have:(1000:Nat)<=sizeLine:=by decide
 simp only [LQ,decide_eq_false_iff_not];omega
def B4:R2:=fun x y H Q=>∃ (ds:List Gm) (d:Gm),Rep H (.tuple ds) y/\Rep H d x/\Gx ds=true/\d.canLay0=true/\d.depth<=60/\Q (.bl (!ds.any fun y=>GH y d)) H
theorem AV {X:Cx} (hu:X.A.units+64<Iq):OpR X (Gk .NotIn) B4:=by
 intro pins s σ H x y v u Q I rx ry h;obtain ⟨ds,d,h1,h2,s1,s2,s3,q⟩:=h;obtain ⟨as,r1⟩:=h1.reads I ry;obtain ⟨bs,r2⟩:=h2.reads I rx;exact SeqAt.notIn_tuple_reads r1 r2 s1 s2 (by have:=Ll (HV ds) d.depth; omega) ⟨.bl _,H,I,rfl,q⟩
theorem zq {H:Hp} {Q:VK} {x a b:Str} {p:Δ} (hp:H p=some (.tup [.str a,.str b])) (oa:K6 a=true) (ob:K6 b=true) (ox:K6 x=true) (q:Q (.bl (!(decide (a=x)||decide (b=x)))) H):B4 (.str x) (.ref p) H Q:=by
  refine ⟨[.str a,.str b],.str x,?_,rfl,by simp [Gx,JE,oa,ob],ox,by unfold JD; omega,?_⟩
  · simp only [Rep,RepL]
    exact ⟨p,_,rfl,hp,_,_,rfl,rfl,_,_,rfl,rfl,rfl⟩
  · have e:([PyData.str a,.str b].any fun y=>GH y (.str x))=(decide (a=x)||decide (b=x)):=by
      show ((a==x)||((b==x)||false))=_
      rw [MZ]; rfl
    rw [e]; exact q
theorem AG {x:Str} {c:Nat}:(!(Hx x (sgn c) 0 x.length 1).isEmpty)=decide (c∈x.cps.toList):=StrLaws.found_one x c
end L2
namespace L2
open PySem PySem.Spec PyProof.Rows PySem.W
end L2
namespace L2
open PySem PySem.Spec PyProof.Rows
end L2
namespace L2
open PySem PySem.Spec PyProof.Rows PySem.W
open Builtin Builtin.Str
def Cb (ta:TE):TE:=fun σ H Q=>ta σ H fun v H1=>(∃ n:Nat,v=.int (n:Int)/\n<100/\Q (.str (toString ((n:Nat):Int):String)) H1)\/∃ x:Str,v=.str x/\x.length<=E4/\Q (.str x) H1
theorem oU {ta:TE} {σ:St} {H:Hp} {Q:VK} (h:ta σ H fun v H1=>(∃ n:Nat,v=.int (n:Int)/\n<100/\Q (.str (toString ((n:Nat):Int):String)) H1)\/∃ x:Str,v=.str x/\x.length<=E4/\Q (.str x) H1):Cb ta σ H Q:=h
theorem oP {X:Cx} {e:GO} {ta:TE} {pos:Jf} (h:PE X e ta):PE X (.FormattedValue e (-1) none pos) (Cb ta):=by
 intro pins s σ H Q I q;refine FormattedValue_plain (thn (h pins s σ H _ I q) fun u s1 ⟨v,H1,I1,r,k⟩=>?_);rcases k with ⟨n,ev,hn,k⟩ | ⟨x,ev,hx,k⟩
 ·subst ev;obtain ⟨t,rfl⟩:=r;exact formatField_int_small (vJ ⟨n,hn⟩) ⟨.str (toString ((n:Nat):Int):String),H1,I1.tok _,⟨_,rfl⟩,k⟩
 ·subst ev;obtain ⟨t,rfl⟩:=r;exact wpAny_formatField_str ⟨.str x,H1,I1,⟨_,rfl⟩,k⟩ ⟨.str x,H1,I1.tok _,⟨_,rfl⟩,k⟩ hx
def mR:List TE->Str->St->Hp->VK->Prop
 | [],out,_,H,Q=>Q (.str out) H
 | t::ts,out,σ,H,Q=>t σ H fun v H1=>∃ x:Str,v=.str x/\x.length<=100/\mR ts (out++x) σ H1 Q
def Ae (ts:List TE):TE:=fun σ H Q=>mR ts KL σ H Q
theorem zi {ts:List TE} {σ:St} {H:Hp} {Q:VK} (h:mR ts KL σ H Q):Ae ts σ H Q:=h
theorem x8 {X:Cx} {pins:List (Δ×Hu)} {σ:St} {Q:VK} {es:List GO} {ts:List TE} {s:AU} {H:Hp} {out:Str} (hp:PEs X es ts):out.length+100*es.length<=E4->Inv X pins σ H s ->
  mR ts out σ H Q->FD (FQ X.prog X.w) X.A (joinParts out (evalEach es X.env)) (EP X pins σ Q) X.xe s:=by
 induction hp generalizing s H out with
 | nil=>exact fun hz I h=>joinParts_nil ⟨.str out,H,I.tok _,⟨_,rfl⟩,h⟩ (by simpa using hz)
 | cons he hs ih =>
  intro hz I h;rw [EX] at hz
  show FD _ _ (joinParts out (Hs _ X.env::evalEach _ X.env)) _ _ _
  refine joinParts_cons (thn (he pins s σ H _ I h) fun u s1 ⟨v,H1,I1,r,x,ev,hx,q⟩=>?_);subst ev;obtain ⟨t,rfl⟩:=r;have hl:(out++x).length=out.length+x.length:=strLen_append _ _;exact ⟨by rw [hl]; omega,ih (by rw [hl]; omega) I1 q⟩
theorem yJ {X:Cx} {e1 e2:GO} {es:List GO} {ts:List TE} {pos:Jf} (h:PEs X (e1::e2::es) ts) (hz:es.length<=20):PE X (.JoinedStr (e1::e2::es) pos) (Ae ts):=fun pins s σ H Q I q =>
 JoinedStr_many (x8 (out:=KL) h (by have:(KL).length=0:=rfl; rw [this,EX,EX,KR]; omega) I q)
theorem ni {c:Nat}:∀ {a b x y:List Nat},c∉a->c∉b->a++c::x=b++c::y->a=b/\x=y
 | [],[],x,y,_,_,h=>⟨rfl,by simpa using h⟩
 | [],d::b,x,y,_,hb,h=>by
  injection h with h1 _;exact absurd (h1 ▸ θ) hb
 | d::a,[],x,y,ha,_,h=>by
  injection h with h1 _;exact absurd (h1 ▸ θ) ha
 | d::a,e::b,x,y,ha,hb,h=>by
  injection h with h1 h2;obtain ⟨r1,r2⟩:=ni (fun z=>ha (Ξ _ z)) (fun z=>hb (Ξ _ z)) h2;exact ⟨by rw [h1,r1],r2⟩
theorem fI (s a b:Str) (r:List Str):(KJ s (a::b::r)).cps.toList=a.cps.toList++s.cps.toList++(KJ s (b::r)).cps.toList:=by
 show (a++s++KJ s (b::r)).cps.toList=_
 rw [xF,xF]
theorem nt {c:Nat}:∀ {p q:List Str},p≠[]->q≠[]->(∀ a∈p,c∉a.cps.toList)->(∀ a∈q,c∉a.cps.toList)->KJ ⟨#[c]⟩ p=KJ ⟨#[c]⟩ q->p=q
 | [],_,h,_,_,_,_=>absurd rfl h
 | _::_,[],_,h,_,_,_=>absurd rfl h
 | [a],[b],_,_,_,_,h=>by rw [show a=b from h]
 | [a],b::d::q,_,_,hp,hq,h=>by
  have h:a.cps.toList=_:=(congrArg (fun x:Str=>x.cps.toList) h).trans (fI _ _ _ _);exact absurd (by rw [h]; simp) (hp a θ)
 | a::d::p,[b],_,_,hp,hq,h=>by
  have h:b.cps.toList=_:=(congrArg (fun x:Str=>x.cps.toList) h.symm).trans (fI _ _ _ _);exact absurd (by rw [h]; simp) (hq b θ)
 | a::d::p,b::e::q,_,_,hp,hq,h=>by
  have h:=congrArg (fun x:Str=>x.cps.toList) h;rw [fI,fI,E9,E9] at h;obtain ⟨r1,r2⟩:=ni (c:=c) (hp a θ) (hq b θ) h;have ih:=nt (p:=d::p) (q:=e::q) (by simp) (by simp) (fun x hx=>hp x (Ξ _ hx)) (fun x hx=>hq x (Ξ _ hx)) (BH r2);rw [BH r1,ih]
theorem z9 (x y:Str):Txt.split x y≠[]:=by
 unfold Txt.split
 split
 ·simp
 ·split
  ·simp
  ·obtain ⟨p,r,e⟩:=StrLaws.partsFrom_ne x y.length 0 (occurrences x y 0 x.length (x.length+1));rw [StrLaws.partsBetween_eq,e]; simp
theorem tU {c:Nat} {ps:List Str} (hne:ps≠[]) (h:∀ a∈ps,c∉a.cps.toList):Txt.split (KJ ⟨#[c]⟩ ps) ⟨#[c]⟩=ps :=
 nt (z9 _ _) hne (StrLaws.split_free _ c) h (StrLaws.join_split _ _)
open PySem.NumText
end L2
namespace L2
open PySem PySem.Spec PyProof.Rows
end L2
namespace L2
open PySem PySem.Spec PyProof.Rows PySem.W
noncomputable def nT (n:Nat):Str:=(toString ((n:Nat):Int):String)
end L2
namespace Ts
open PySem PyProof.Rows PySem.W
section
variable {prog:FP} {w:F0} {A:Fv} {E:χ->AU->Prop} {s:AU}
def rW (A:Fv) (prog:FP) (w:F0) (s:AU) (a:Δ) (ks:List χ) (κ:Gs) (S:B_->Prop) (lt:B_->B_->Bool):Prop :=
 ∀ (E:χ->AU->Prop) (h:F6),(∀ b o,b≠a->s.heap.get? b=some o->h.get? b=some o) ->
  (2<=ks.length->∀ Q,Q κ { s with heap:=h }->FD (FQ prog w) A (keyKind' ks.toArray) Q E { s with heap:=h })/\iS (FQ prog w) A E { s with heap:=h } κ S lt
theorem wH {κ:Gs} {S:B_->Prop} {lt:B_->B_->Bool} (L:cN lt) {a:Δ} {vs:List χ} {n:Nat} {P:Fin->AU->Prop} (ho:s.heap.get? a=some (Fx "list" vs.toArray n)) (hz:vs.length<=E4)
  (hs:rW A prog w s a vs κ S lt) (hS:∀ x∈(Ho vs).toList,S x)
  (h:∀ out:Array B_,out.Perm (Ho vs)->out.toList.Pairwise (Le lt)->P (.done (.ret .none)) { s with heap:=M1 s.heap a vs (out.map (·.2)) }) :
  FD (FQ prog w) A (KW.«list.sort» ⟨[.ref a],[]⟩) P E s:=by
 rw [list_sort_plain];have ha:a<s.heap.objs.size:=E1 ho;have hsz:vs.toArray.size=vs.length:=by simp
 refine ξ (Lv ho rfl ?_);refine ξ (Hw ho rfl ?_ (by omega) (Fi _));obtain ⟨e1,ho1⟩:∃ e1,(s.heap.update a (FZ fun _=>#[])).get? a=some (Fx "list" #[] e1):=⟨_,Il ho (fun _=>#[])⟩
 refine ξ (JN ho1 rfl ?_);refine ξ (LA ?_ (by first | exact hz | (simp; exact hz)));refine ξ (Jm ?_);refine HW ?_
 show FD (FQ prog w) A _ P E { s with heap:=((s.heap.update a (FZ fun _=>#[])).push (Fx "tuple" vs.toArray 0)).push (Fx "list" #[] 0) }
 generalize hH6:((s.heap.update a (FZ fun _=>#[])).push (Fx "tuple" vs.toArray 0)).push (Fx "list" #[] 0)=h6
 have ho6:h6.get? a=some (Fx "list" #[] e1):=by
  rw [<- hH6,Hf _ _ _ (by rw [JK,Gu]; exact E6 (GV ha)),Hf _ _ _ (by rw [Gu]; exact E6 ha)];exact ho1
 have keep:∀ b o,b≠a->s.heap.get? b=some o->h6.get? b=some o:=fun b o hb q=>by
  rw [<- hH6];exact ς _ (ς _ ((Fy _ _ (Gd hb)).trans q))
 have fin:∀ out:Array B_,out.Perm (Ho vs)->out.toList.Pairwise (Le lt)->P (.done (.ret .none)) { s with heap:=h6.update a (FZ fun _=>out.map (·.2)) }:=by
  intro out hp hs;rw [<- hH6];exact h out hp hs
 dsimp only;obtain ⟨hk,hasks⟩:=hs E h6 keep;by_cases h2:vs.toArray.size<2
 ·rw [if_pos h2,if_pos h2];refine ξ (D_ ?_);rw [Lb];refine ξ (D_ ?_);dsimp only;refine ξ (JN ho6 rfl ?_);refine ξ (Hw ho6 rfl ?_ (by simp) (by rw [Jq]; show (Ho vs).size<=_; rw [Lu,KR]; omega));simp only [bne_self_eq_false,F_,if_false];refine D_ (fin (vs.toArray.zip vs.toArray) (J1 _) ?_)
  show (Ho vs).toList.Pairwise _
  rw [IV]
  match vs,hsz,h2 with
  | [], _, _ => exact Gq
  | [v], _, _ => exact KC _ _
  | v₁ :: v₂ :: eC, e, h2 => simp at h2; omega
 ·rw [if_neg h2,if_neg h2];refine ξ (hk (by omega) _ ?_);refine ξ (GW (mr (E:=E) (s:={ s with heap:=h6 }) (A:=A) L hasks (st:=Lp κ (vs.toArray.zip vs.toArray) #[] 7 none)
   (Q:=fun _ st'=>(FO st').Perm (Ho vs)/\Hi st'=none/\(FO st').toList.Pairwise (Le lt)) rfl rfl rfl hS fun st' a1 a2 a3=>⟨a1,a2,a3⟩) ?_ fun _ _ e=>e)
  rintro ⟨⟨⟩,st'⟩ s' ⟨rfl,hp,hf,hs⟩;dsimp only;refine ξ (JN ho6 rfl ?_);refine ξ (Hw ho6 rfl ?_ (by simp) (by refine Fe (Kh ((Jq ..).trans (hp.size_eq.trans (Lu _)))) ?_; omega));rw [hf];simp only [bne_self_eq_false,F_,if_false];exact D_ (fin _ hp hs)
theorem rA {κ:Gs} {S:B_->Prop} {lt:B_->B_->Bool} (L:cN lt) {l:Δ} {vs:List χ} {Q:χ->AU->Prop} (hl:s.heap.IsList l vs.toArray) (hz:vs.length<=E4)
  (hs:∀ h,(∀ b o,s.heap.get? b=some o->h.get? b=some o)->rW A.in1.in1 prog w { s with heap:=h } (s.heap.objs.size+1) vs κ S lt) (hS:∀ x∈(Ho vs).toList,S x)
  (h:∀ out:Array B_,out.Perm (Ho vs)->out.toList.Pairwise (Le lt)->Q (.ref (s.heap.objs.size+1)) { s with heap:=LL s.heap vs (out.map (·.2)) }) :
  FD (FQ prog w) A (call (.builtin "sorted") [.ref l]) Q E s:=by
 refine MG kind_sorted plain_sorted entry_sorted (args_sorted1 _) ?_;unfold KW.«sorted»;refine ξ (m:=checkCount "sorted" 1 1 _) (D_ ?_);refine ξ (collect_list hl ?_ hz);refine ξ (Jm ?_ hz)
 have hsz:((s.heap.push (Fx "list" #[] 0)).update s.heap.objs.size (FZ (·++vs.toArray))).objs.size=s.heap.objs.size+1:=by
  rw [Gu,JK]
 have hoL:(((s.heap.push (Fx "list" #[] 0)).update s.heap.objs.size (FZ (·++vs.toArray))).push (Fx "list" vs.toArray 0)).get? (s.heap.objs.size+1)=some (Fx "list" vs.toArray 0):=by
  rw [<- hsz]; exact E5 _ rfl
 have keep:∀ b o,s.heap.get? b=some o->(((s.heap.push (Fx "list" #[] 0)).update s.heap.objs.size (FZ (·++vs.toArray))).push (Fx "list" vs.toArray 0)).get? b=some o:=fun b o q=>by
  have hlt:b<s.heap.objs.size:=E1 q;rw [Hf _ _ _ (by rw [hsz]; exact E6 (GV hlt)),IF _ _ _ _ (E6 hlt),Hf _ _ _ (E6 hlt)];exact q
 show FD _ _ _ _ _ { s with heap:=((s.heap.push (Fx "list" #[] 0)).update s.heap.objs.size (FZ (·++vs.toArray))).push (Fx "list" vs.toArray 0) }
 rw [hsz];refine ξ (HW (HJ M3 ⟨_,hoL,rfl⟩ Mc (wH L hoL hz (hs _ keep) hS fun out a1 a2=>⟨_,rfl,?_⟩) (args_list_sort _)));exact D_ ⟨_,rfl,h out a1 a2⟩
end
def fC {α:Type} (Key:F6->χ->α->Prop) (h:F6) (v:χ) (k:α) (d:Gm):Prop :=
 ∃ b o x y n as,v=.ref b/\h.get? b=some o/\o.cls=.type "tuple"/\o.data=.seq #[x,y] n/\Key h x k/\Reads h y d as/\IM d=true
section
variable {prog:FP} {w:F0} {A:Fv} {E:χ->AU->Prop} {s:AU} {α:Type} [DecidableEq α] {Key:F6->χ->α->Prop} {klt:α->α->Bool} {b:Bool}
structure DH (prog:FP) (w:F0) (A:Fv) (b:Bool) (Key:F6->χ->α->Prop) (klt:α->α->Bool) (s:AU):Prop where
 eq:∀ {x y k l} {Q:Bool->AU->Prop} {E:χ->AU->Prop},Key s.heap x k->Key s.heap y l->Q (decide (k=l)) s->FD (FQ prog w) A (eqBool x y) Q E s
 lt:∀ {x y k l} {Q:Bool->AU->Prop} {E:χ->AU->Prop},Key s.heap x k->Key s.heap y l->Q (klt k l) s->FD (FQ prog w) A (oneLt' b x y) Q E s
theorem xZ {v u:χ} {k l:α} {d e:Gm} {Q:Bool->AU->Prop} (hu:A.units+64<Iq) (ir:∀ k,klt k k=false) (hk:DH prog w A b Key klt s) (hv:fC Key s.heap v k d) (hw:fC Key s.heap u l e) (hd:k=l->GH d e=true) (h:Q (klt k l) s):FD (FQ prog w) A (keyLt' (Kx b) v u) Q E s:=by
 obtain ⟨a1,o1,x1,y1,n1,as,rfl,h1,_,d1,k1,r1,s1⟩:=hv;obtain ⟨a2,o2,x2,y2,n2,bs,rfl,h2,_,d2,k2,r2,s2⟩:=hw;refine kat_lt h1 d1 h2 d2 ?_;refine kat_cons (hk.eq k1 k2 ?_);refine kat_go (fun e1=>kat_yes ?_) (fun e1=>kat_no ?_)
 ·have e1:k=l:=of_decide_eq_true e1;have c1:=NI.mp s1;have c2:=NI.mp s2;refine kat_cons (M6 prog w A _ s y1 y2 d e as bs _ r1 r2 c1.1 c2.1 (by have:=of_decide_eq_true c1.2; omega) ?_);rw [hd e1];refine kat_yes (kat_nil ?_);rw [e1,ir] at h;exact h
 ·rw [show (b&&(0==0))=b by cases b<;>rfl];exact hk.lt k1 k2 h
end
noncomputable def ptD (p:Int×Int):PyData:=.tuple [.int p.1,.int p.2]
theorem bD.reads {h:F6} {v:χ} {p:Int×Int} (hv:bD h v p):∃ as,Reads h v (ptD p) as:=by
 obtain ⟨b,o,t,u,n,rfl,h1,h2,h3⟩:=hv;exact ⟨_,.tuple h1 h2 h3 (.cons (.int _ _) (.cons (.int _ _) .nil))⟩
theorem oR (p:Int×Int):(ptD p).canLay0=true:=by rfl
theorem yW (p:Int×Int):(ptD p).depth<=8:=by show (1:Nat)<=8; omega
theorem uM (p q:Int×Int):GH (ptD p) (ptD q)=decide (p=q):=by
 obtain ⟨a,b⟩:=p;obtain ⟨c,d⟩:=q
 show (a==c&&(b==d&&true))=_
 by_cases h1:a=c
 ·by_cases h2:b=d
  ·simp [h1,h2]
  ·simp [h1,h2]
 ·simp [h1]
noncomputable def ll:List (Int×Int)->List (Int×Int)->Bool
 | [],[]=>false
 | [],_::_=>true
 | _::_,[]=>false
 | p::ps,q::qs=>if p=q then ll ps qs else plt p q
section
open SeqAt MeetsSeq MeetsSeq2 MeetsSeq3
open PySem.AutoSeq1 (wpAny_loadPart')
variable {prog:FP} {w:F0} {A:Fv} {E:χ->AU->Prop} {s:AU}
theorem yE {x y:χ} {p q:Int×Int} {Q:Bool->AU->Prop} (hu:A.units+64<Iq) (hx:bD s.heap x p) (hy:bD s.heap y q) (h:Q (decide (p=q)) s):FD (FQ prog w) A (eqBool x y) Q E s:=by
 obtain ⟨as,r1⟩:=hx.reads;obtain ⟨bs,r2⟩:=hy.reads;refine M6 prog w A _ s x y (ptD p) (ptD q) as bs _ r1 r2 (oR p) (oR q) (by have:=yW p; omega) ?_;rw [uM];exact h
theorem qW:∀ ps qs:List (Int×Int),Gw (ps.map ptD) (qs.map ptD)=decide (ps=qs)
 | [],[]=>rfl
 | [],_::_=>rfl
 | _::_,[]=>rfl
 | p::ps,q::qs=>by
  show (GH (ptD p) (ptD q)&&Gw (ps.map ptD) (qs.map ptD))=_
  rw [uM,qW ps qs];by_cases h1:p=q
  ·by_cases h2:ps=qs<;>simp [h1,h2]
  ·simp [h1]
theorem qX:∀ ps:List (Int×Int),Gx (ps.map ptD)=true
 | []=>rfl
 | p::ps=>by
  show (JE (ptD p)&&Gx (ps.map ptD))=true
  rw [oR,qX ps];rfl
theorem lJ:∀ ps:List (Int×Int),HV (ps.map ptD)<=1
 | []=>Fi _
 | p::ps=>by
  show max (JD (ptD p)) (HV (ps.map ptD))<=1
  exact Nat.max_le.mpr ⟨BE 1,lJ ps⟩
end
end Ts
namespace Ts
open PySem PyProof.Rows PySem.W
theorem bD.keeps {h h':F6} (hk:∀ b o,h.get? b=some o->h'.get? b=some o) {v:χ} {p:Int×Int} (q:bD h v p):bD h' v p:=by
 obtain ⟨b,o,t,u,n,rfl,h1,h2,h3⟩:=q;exact ⟨b,o,t,u,n,rfl,hk _ _ h1,h2,h3⟩
section
variable {prog:FP} {w:F0} {A:Fv} {E:χ->AU->Prop} {s:AU} {α:Type} [DecidableEq α] {Key:F6->χ->α->Prop} {klt:α->α->Bool} {T:String}
structure mV (prog:FP) (w:F0) (A:Fv) (T:String) (Key:F6->χ->α->Prop) (klt:α->α->Bool):Prop where
 tt:(GZ T==GZ T)=true
 keeps:∀ {h h':F6} {x k},(∀ b o,h.get? b=some o->h'.get? b=some o)->Key h x k->Key h' x k
 ty:∀ {h:F6} {x k},Key h x k->Looks (FQ prog w) h (typeOf x) (.type T)
 keys:∀ s,DH prog w A (GZ T != GZ "tuple") Key klt s
 asym:∀ {x y},klt x y=true->klt y x=false
 tr:∀ {x y z},klt y x=false->klt z y=false->klt z x=false
theorem mV.irr (h:mV prog w A T Key klt) (k:α):klt k k=false:=by
 cases e:klt k k with
 | false=>rfl
 | true=>rw [<- e]; exact h.asym e
theorem fC.keeps (ko:mV prog w A T Key klt) {h h':F6} (hk:∀ b o,h.get? b=some o->h'.get? b=some o) {v:χ} {k:α} {d:Gm} (q:fC Key h v k d):fC Key h' v k d:=by
 obtain ⟨b,o,x,y,n,as,rfl,h1,h2,h3,h4,h5,h6⟩:=q;exact ⟨b,o,x,y,n,as,rfl,hk _ _ h1,h2,h3,ko.keeps hk h4,Reads.keeps hk h5,h6⟩
theorem rB {vs:List χ} {g:χ->α} {d:χ->Gm} (ko:mV prog w A T Key klt) (hu:A.units+64<Iq) (hv:∀ v∈vs,fC Key s.heap v (g v) (d v)) (hd:∀ v∈vs,∀ u∈vs,g v=g u->GH (d v) (d u)=true) {h:F6} (hk:∀ b o,s.heap.get? b=some o->h.get? b=some o) :
    rW A prog w { s with heap:=h } (s.heap.objs.size+1) vs (Kx (GZ T != GZ "tuple")) (fun x=>x∈(Ho vs).toList) (fun x y=>klt (g x.1) (g y.1)):=by
  intro E h' keep;have hk':∀ b o,s.heap.get? b=some o->h'.get? b=some o:=fun b o q=>keep b o (E6 (GV (E1 q))) (hk b o q);have hv':∀ v∈vs,fC Key h' v (g v) (d v):=fun v hm=>(hv v hm).keeps ko hk';refine ⟨fun h2 Q q=>?_,?_⟩
  · have key:∀ (us:List χ),(∀ v∈us,fC Key h' v (g v) (d v))->∃ fs,KatTups h' us fs/\fs.length=us.length/\∀ f∈fs,∃ k,Key h' f k:=by
      intro us
      induction us with
      | nil=>intro _; exact ⟨[],Ml,rfl,fun f hf=>nomatch hf⟩
      | cons v us ih =>
        intro hu;obtain ⟨fs,k1,k2,k3⟩:=ih fun v hv=>hu v (Ξ _ hv);obtain ⟨b,o,x,y,n,as,e,h1,h2,h3,h4,h5,h6⟩:=hu v θ;refine ⟨x::fs,?_,by rw [EX,EX,k2],fun f hf=>?_⟩
        · rw [e]
          exact MQ h1 h2 h3 rfl k1
        · rcases BF.mp hf with rfl | hf
          · exact ⟨_,h4⟩
          · exact k3 f hf
    obtain ⟨fs,k1,k2,k3⟩:=key vs hv';exact kat_kind (T:=.type T) (s:={ s with heap:=h' }) k1 (by omega) (fun f hf=>let ⟨k,hk⟩:=k3 f hf; ko.ty hk) ko.tt q
  · refine km fun x y hx hy Q' E' q=>?_
    rw [IV] at hx hy;have mx:=(Ig hx).2;have my:=(Ig hy).2;exact xZ (s:={ s with heap:=h' }) hu ko.irr (ko.keys _) (hv' _ mx) (hv' _ my) (hd _ mx _ my) q
theorem qx (hu:A.units+128<Iq):mV prog w A "tuple" bD plt where
 tt:=by decide
 keeps:=fun hk q=>q.keeps hk
 ty:=fun q=>by
  obtain ⟨b,o,t,u,n,rfl,h1,h2,h3⟩:=q;rw [<- h2];exact (Looks.ld h1).andThen .now
 keys:=fun s=>by
  have e:(GZ "tuple" != GZ "tuple")=false:=by decide
  rw [e];exact ⟨fun hx hy h=>yE (by omega) hx hy h,fun hx hy h=>kat_one _ _ (fe (by omega) hx hy h)⟩
 asym:=fun {x y} h=>da.mpr (by have h:=lH.mp h; unfold ple; omega)
 tr:=fun {x y z} h1 h2=>da.mpr (by have h1:=da.mp h1; have h2:=da.mp h2; unfold ple at *; omega)
end
end Ts
namespace L2
open PySem PySem.Spec PyProof.Rows
def ItV {α:Type} (KV:Hp->V->α->Prop) (H:Hp) (v:V) (k:α) (d:Gm):Prop:=∃ b x y,v=.ref b/\H b=some (.tup [x,y])/\KV H x k/\Rep H d y/\IM d=true
def tq (K:W.Frag) {α:Type} (KV:Hp->V->α->Prop) (klt:α->α->Bool) (vs:List V) (H:Hp) (Q:VK):Prop:=∃ a xs,vs=[.ref a]/\SqL K H a xs /\
 ∃ (g:V->α) (d:V->Gm),(∀ v∈xs,ItV KV H v (g v) (d v))/\(∀ v∈xs,∀ u∈xs,g v=g u->GH (d v) (d u)=true) /\
  ∀ (l:Δ) (ys:List V),H l=none->ys.Perm xs->ys.Pairwise (fun x y=>klt (g y) (g x)=false)->Q (.ref l) (upd H l (.lst ys))
theorem xB {X:Cx} (K:W.Frag) (hK:X.K=K) {α:Type} [DecidableEq α] {KV:Hp->V->α->Prop} {Key:F6->χ->α->Prop} {klt:α->α->Bool} {T:String}
  (ko:∀ {A:Fv} {prog:FP} {w:F0},A.units+128<Iq->Ts.mV prog w A T Key klt)
  (kv:∀ {pins:List (Δ×Hu)} {σ:St} {H:Hp} {s:AU},Inv X pins σ H s->∀ {v:V} {u:χ} {k:α},KV H v k->bj v u->Key s.heap u k)
  (hu:X.A.units+160<Iq):bS X (.builtin "sorted") (tq K KV klt):=by
 subst hK;intro pins s σ H xs us Q I hv h;obtain ⟨a,ys,rfl,hl,g,d,hg,hd,h⟩:=h
 cases hv with
 | cons r hv =>
 cases hv
 cases r;obtain ⟨its,rv,pl,hz⟩:=I.list hl;have hlen:=rv.length;have hz':its.length<=sizeLine:=by omega
 obtain ⟨em,hr⟩:=rv.refs fun v hv=>let ⟨b,_,_,e,_⟩:=hg v hv; ⟨b,e⟩;have hm:∀ u∈its,toV u∈ys:=fun u hu=>by rw [<- em]; exact F1.mpr ⟨_,hu,rfl⟩
 have hp:∀ u∈its,Ts.fC Key s.heap u (g (toV u)) (d (toV u)):=by
  intro u hu;have hm:=hm u hu;obtain ⟨b,rfl⟩:=hr u hu;obtain ⟨b',x,y,e,hb,kx,ry,sy⟩:=hg _ hm
  cases e;obtain ⟨_,its2,r2,o,ho,hc,n,hd⟩:=I.hok _ _ hb
  cases r2 with
  | cons q1 r2 =>
  cases r2 with
  | cons q2 r2 =>
  cases r2;obtain ⟨as,ra⟩:=ry.reads I q2;exact ⟨b,o,_,_,n,as,rfl,ho,hc,hd,kv I kx q1,ra,sy⟩
 have L:Ts.cN fun x y:B_=>klt (g (toV x.1)) (g (toV y.1)):=⟨fun h=>(ko (A:=X.A) (prog:=X.prog) (w:=X.w) (by omega)).asym h,fun h1 h2=>(ko (A:=X.A) (prog:=X.prog) (w:=X.w) (by omega)).tr h1 h2⟩
 refine Ts.rA (κ:=Kx (GZ T != GZ "tuple")) (S:=fun x=>x∈(Ho its).toList) L pl.isList hz' (fun h' keep=>Ts.rB (g:=fun u=>g (toV u)) (d:=fun u=>d (toV u)) (ko ?_) ?_ hp (fun v hv u hu=>hd _ (hm v hv) _ (hm u hu)) keep) (fun x hx=>hx) fun out hperm hs=>?_
 ·show X.A.units+1+1+128<Iq
  omega
 ·show X.A.units+1+1+64<Iq
  omega
 ·have hperm':out.toList.Perm (its.zip its):=by rw [<- IV]; exact Gi.mp hperm
  have hmem:∀ p∈out.toList,p.1=p.2/\p.1∈its:=fun p hp'=>Ig (hperm'.mem_iff.mp hp');have e2:(out.map (·.2)).toList=out.toList.map (·.1):=by rw [J_]; exact Ge fun p hp'=>(hmem p hp').1.symm
  have pm:(out.toList.map (·.1)).Perm its:=by
   have:=hperm'.map MC
   rw [Ld (BE _)] at this;exact this
  have hn:H (s.heap.objs.size+1)=none:=I.hok.fresh (by omega);have q:=h (s.heap.objs.size+1) ((out.toList.map (·.1)).map toV) hn (by rw [<- em]; exact pm.map toV) (by
   rw [GF,Hz];exact hs.imp fun {x y} hxy=>hxy)
  obtain ⟨n,hnew⟩:=fi (h:=s.heap) (vs:=its) (out:=out.map (·.2));refine ⟨.ref _,_,I.laid (t':=s.toks) (o:=.lst ((out.toList.map (·.1)).map toV)) (fun b u q=>eN q) (by omega) ?_,rfl,q⟩;refine ⟨by rw [Θ,pm.length_eq]; exact hz',out.toList.map (·.1),n,gZ fun u hu=>hr u (pm.mem_iff.mp hu),?_⟩;rw [hnew,<- e2,Ja]
theorem vm {X:Cx} (K:W.Frag) (hK:X.K=K) (hu:X.A.units+160<Iq):bS X (.builtin "sorted") (tq K PtV Ts.plt) :=
 xB K hK Ts.qx (fun I _ _ _ h r=>ji I h r) hu
theorem zz {K:W.Frag} {α:Type} {KV:Hp->V->α->Prop} {klt:α->α->Bool} {a:Δ} {xs:List V} {H:Hp} {Q:VK} (g:V->α) (d:V->Gm) (e:H a=some (.lst xs)) (hg:∀ v∈xs,ItV KV H v (g v) (d v)) (hd:∀ v∈xs,∀ u∈xs,g v=g u->GH (d v) (d u)=true)
  (h:∀ (l:Δ) (ys:List V),H l=none->ys.Perm xs->ys.Pairwise (fun x y=>klt (g y) (g x)=false)->Q (.ref l) (upd H l (.lst ys))):tq K KV klt [.ref a] H Q:=⟨a,xs,rfl,SqL.of e,g,d,hg,hd,h⟩
theorem b6.u160 {k:Nat} {A:Fv} (r:b6 k A):A.units+160<cLine:=by have:=r.un; omega
theorem rmo {j k:Nat} {A:Fv} (r:b6 k A) (h:j<=k:=by first | decide | omega):b6 j A:=r.mono h
section
variable {X:Cx}
theorem aM (i:Nat) {x:Str} {e:GO} {te:TE} {pos pos':Jf} (hN:X.N.Nodup) (he:PE X e te) (hi:X.N[i]?=some x:=by rfl) (hx:Loc X.env.scope x:=by exact GJ rfl) (hs:LK e (some (.Name x pos')) pos.line X.env=pure false:=by rfl) (hf:X.fn x=true\/X.env.scope.names.lookup x=some .local:=by first | exact .inl rfl | exact .inr rfl | assumption) :
  PS X (.Assign [.Name x pos'] e pos) (Aa te (cX i)):=gw hN hi hx he hs hf
theorem aD {r:R2} {a b:GO} {ta tb:TE} {pos:Jf} (hr:IxR X r) (ha:PE X a ta) (hb:PE X b tb) (hs:ue b:=by exact fun _ _=>rfl):PE X (.Subscript a b pos) (tOp r ta tb):=DZ hr ha hb hs
theorem gu {op:M9} {r:R2} {a b:GO} {ta tb:TE} {pos:Jf} (ho:OpR X (Gk op) r) (ha:PE X a ta) (hb:PE X b tb) (hm:JF op b=false:=by first | exact yn _ | rfl):PE X (.Compare a [op] [b] pos) (tOp r ta tb):=uH ho ha hb hm
theorem aW {op:M9} {r:R2} {a b:GO} {ta tb:TE} {pos:Jf} (ho:OpR X (Gk op) r) (ha:PE X a ta) (hb:PE X b tb) (hm:JF op b=false:=by first | exact yn _ | rfl):PT X (.Compare a [op] [b] pos) (u9 (tOp r ta tb)):=uN ho ha hb hm
end
section
variable {σ:L2.St} {H:Hp} {Q:VK}
abbrev NwT (xs:List V) (H:Hp) (Q:VK):Prop:=xs.length<=E4/\∀ p,H p=none->Q (.ref p) (upd H p (.tup xs))
abbrev NwL (xs:List V) (H:Hp) (Q:VK):Prop:=xs.length<=E4/\∀ p,H p=none->Q (.ref p) (upd H p (.lst xs))
theorem Bv {t:TA} (h:t σ H fun xs H1=>NwT xs H1 Q):Eu t σ H Q:=h
theorem Bk {t:TA} (h:t σ H fun xs H1=>NwL xs H1 Q):Eo t σ H Q:=h
theorem xQ {xs:List V} (z:(xs.drop 99).isEmpty=true):xs.length<=sizeLine:=by
 have:xs.drop 99=[]:=List.isEmpty_iff.mp z
 have:=List.drop_eq_nil_iff.mp this
 exact Fe this (by decide)
theorem nwT {xs:List V} (q:∀ p H1,ah H H1->H p=none->H1 p=some (.tup xs)->Q (.ref p) H1) (z:(xs.drop 99).isEmpty=true:=by rfl):NwT xs H Q:=⟨xQ z,fun p n=>q p _ (ah.new n) n af⟩
theorem nwL {xs:List V} (q:∀ p H1,ah H H1->H p=none->H1 p=some (.lst xs)->Q (.ref p) H1) (z:(xs.drop 99).isEmpty=true:=by rfl):NwL xs H Q:=⟨xQ z,fun p n=>q p _ (ah.new n) n af⟩
theorem aS {p:Prop} [d:Decidable p] (h:p):decide p=true:=decide_eq_true h
theorem bA {p:Prop} [d:Decidable p] (h:¬ p):decide p=false:=decide_eq_false h
end
end L2
namespace My
open PySem PySem.Spec PyProof.Rows L2
noncomputable def top (i:Nat):Stmt:=PySem.Challenge.pw_sashiko_k08_all_seams.main.body.getD i (.Pass ⟨0,0,0,0⟩)
noncomputable abbrev s_aI:Stmt:=(top 13)
noncomputable abbrev s_ao:Stmt:=(top 14)
noncomputable abbrev s_a9:Stmt:=(top 15)
noncomputable abbrev s_aE:Stmt:=(top 16)
noncomputable abbrev s_aF:Stmt:=(top 17)
noncomputable abbrev s_aJ:Stmt:=(top 18)
noncomputable abbrev s_as:Stmt:=(top 20)
noncomputable abbrev s_aV:Stmt:=(top 21)
noncomputable abbrev s_av:Stmt:=(top 22)
noncomputable abbrev s_a7:Stmt:=(top 23)
noncomputable abbrev s_ay:Stmt:=(top 24)
noncomputable abbrev s_aG:Stmt:=(top 25)
noncomputable abbrev s_bh:Stmt:=(top 26)
noncomputable abbrev s_at:Stmt:=(top 27)
noncomputable abbrev s_aK:Stmt:=(top 28)
noncomputable abbrev s_aP:Stmt:=(top 29)
noncomputable abbrev s_aA:Stmt:=(c8 (top 31) 0)
noncomputable abbrev s_ak:Stmt:=(c8 (top 32) 0)
noncomputable abbrev s_ad:Stmt:=(c8 (top 32) 1)
noncomputable abbrev s_ah:Stmt:=(c8 (top 31) 3)
noncomputable abbrev s_ae:Stmt:=(c8 (top 31) 4)
noncomputable abbrev s_ac:Stmt:=(c8 (top 31) 1)
noncomputable abbrev s_ai:Stmt:=(c8 (top 31) 2)
noncomputable abbrev s_ag:Stmt:=(c8 (top 31) 5)
noncomputable abbrev s_ap:Stmt:=(c8 (top 31) 6)
noncomputable abbrev s_ab:Stmt:=(c8 (top 31) 7)
noncomputable abbrev s_af:Stmt:=(c8 (top 32) 2)
noncomputable abbrev s_a5:Stmt:=(top 33)
noncomputable abbrev s_al:Stmt:=(top 35)
noncomputable abbrev s_aS:Stmt:=(top 36)
noncomputable abbrev s_ax:Stmt:=(top 37)
noncomputable abbrev s_a0:Stmt:=(top 38)
noncomputable abbrev s_aq:Stmt:=(top 39)
noncomputable abbrev s_aW:Stmt:=(top 40)
noncomputable abbrev s_aM:Stmt:=(top 41)
noncomputable abbrev s_az:Stmt:=(top 43)
noncomputable abbrev s_aj:Stmt:=(top 44)
noncomputable abbrev s_aU:Stmt:=(top 45)
noncomputable abbrev s_aw:Stmt:=(top 46)
noncomputable abbrev s_aZ:Stmt:=(top 47)
noncomputable abbrev s_an:Stmt:=(top 48)
noncomputable abbrev s_am:Stmt:=(top 49)
noncomputable abbrev s_aB:Stmt:=(top 51)
noncomputable abbrev s_au:Stmt:=(top 52)
noncomputable abbrev s_aH:Stmt:=(top 53)
noncomputable abbrev s_aC:Stmt:=(top 54)
noncomputable abbrev s_ar:Stmt:=(top 55)
noncomputable abbrev s_aO:Stmt:=(top 57)
noncomputable abbrev s_ba:Stmt:=(top 58)
noncomputable abbrev s_a8:Stmt:=(top 59)
noncomputable abbrev s_bc:Stmt:=(top 60)
noncomputable abbrev s_bf:Stmt:=(top 61)
noncomputable abbrev s_a4:Stmt:=(top 62)
noncomputable abbrev s_aQ:Stmt:=(top 63)
noncomputable abbrev s_aX:Stmt:=(top 64)
noncomputable abbrev s_a3:Stmt:=(top 65)
noncomputable abbrev s_aR:Stmt:=(top 66)
noncomputable abbrev s_aD:Stmt:=(top 67)
noncomputable abbrev s_aL:Stmt:=(top 68)
noncomputable abbrev zJ:Stmt:=(top 69)
theorem sc_aI:ay ["value"] ["value"] (ak s_aI):=.by
theorem sc_ao:ay ["value","bound"] ["value","bound"] (ak s_ao):=.by
theorem sc_a9:ay ["value"] ["value"] (ak s_a9):=.by
theorem sc_aE:ay ["values"] ["values"] (ak s_aE):=.by
theorem sc_aF:ay ["count"] ["count"] (ak s_aF):=.by
theorem sc_aJ:ay ["board","x","y"] ["board","x","y"] (ak s_aJ):=.by
theorem sc_as:ay ["cloth","x","y"] ["cloth","x","y"] (ak s_as):=.by
theorem sc_aV:ay ["cloth","x","y"] ["cloth","x","y"] (ak s_aV):=.by
theorem sc_av:ay ["cloth","point","x","y","found"] ["cloth","point"] (ak s_av):=.by
theorem sc_a7:ay ["cloth","start","onward","line","here","behind","ways"] ["cloth","start","onward"] (ak s_a7):=.by
theorem sc_ay:ay ["cloth","line","least"] ["cloth","line"] (ak s_ay):=.by
theorem sc_aG:ay ["cloth","end","line"] ["cloth","end"] (ak s_aG):=.by
theorem sc_bh:ay ["cloth","point","ways","line"] ["cloth","point"] (ak s_bh):=.by
theorem sc_at:ay ["told"] ["told"] (ak s_at):=.by
theorem sc_aK:ay ["cloth","found","seen","x","y","told","point"] ["cloth"] (ak s_aK):=.by
theorem sc_aP:ay ["cloth"] ["cloth"] (ak s_aP):=.by
theorem sc_aA:ay ["self","wide","tall","cols","rows"] ["self","wide","tall","cols","rows"] (ak s_aA):=.by
theorem sc_ak:ay ["self","shade","cols","rows"] ["self","shade","cols","rows"] (ak s_ak):=.by
theorem sc_ad:ay ["self"] ["self"] (ak s_ad):=.by
theorem sc_ah:ay ["self"] ["self"] (ak s_ah):=.by
theorem sc_ae:ay ["self"] ["self"] (ak s_ae):=.by
theorem sc_ac:ay ["self"] ["self"] (ak s_ac):=.by
theorem sc_ai:ay ["self"] ["self"] (ak s_ai):=.by
theorem sc_ag:ay ["self","way"] ["self","way"] (ak s_ag):=.by
theorem sc_ap:ay ["self","way","k","bits"] ["self","way","k"] (ak s_ap):=.by
theorem sc_ab:ay ["self","way","k","step","line_bit","steps"] ["self","way","k","step"] (ak s_ab):=.by
theorem sc_af:ay ["self","x","y","stitches"] ["self","x","y"] (ak s_af):=.by
theorem sc_a5:ay ["one","other"] ["one","other"] (ak s_a5):=.by
theorem sc_al:ay ["cloth","y"] ["cloth","y"] (ak s_al):=.by
theorem sc_aS:ay ["cloth"] ["cloth"] (ak s_aS):=.by
theorem sc_ax:ay ["table","lengths"] ["table"] (ak s_ax):=.by
theorem sc_a0:ay ["table","x","y"] ["table","x","y"] (ak s_a0):=.by
theorem sc_aq:ay ["table","found","y"] ["table"] (ak s_aq):=.by
theorem sc_aW:ay ["numbers"] ["numbers"] (ak s_aW):=.by
theorem sc_aM:ay ["table","blocks","first"] ["table"] (ak s_aM):=.by
theorem sc_az:ay ["bits","steps"] ["bits","steps"] (ak s_az):=.by
theorem sc_aj:ay ["cloth"] ["cloth"] (ak s_aj):=.by
theorem sc_aU:ay ["cloth"] ["cloth"] (ak s_aU):=.by
theorem sc_aw:ay ["cloth","k","behind","left","right"] ["cloth","k"] (ak s_aw):=.by
theorem sc_aZ:ay ["cloth","way","k","parts"] ["cloth","way","k"] (ak s_aZ):=.by
theorem sc_an:ay ["one","other","coming","k","bit","between"] ["one","other"] (ak s_an):=.by
theorem sc_am:ay ["one","other","way"] ["one","other","way"] (ak s_am):=.by
theorem sc_aB:ay ["bits"] ["bits"] (ak s_aB):=.by
theorem sc_au:ay ["cloth","shade","cols","rows"] ["cloth"] (ak s_au):=.by
theorem sc_aH:ay ["word","signs"] ["word","signs"] (ak s_aH):=.by
theorem sc_aC:ay ["word"] ["word"] (ak s_aC):=.by
theorem sc_ar:ay ["text","words","shade","cols","rows","refusal"] ["text"] (ak s_ar):=.by
theorem sc_aO:ay ["_law_script","_law_many","_law_rows","_law_mix","_law_cell","_law_rest"] ["_law_script","_law_many"] (ak s_aO):=.by
theorem sc_ba:ay ["_law_number","_law_many","_law_row_here","_law_k"] ["_law_number","_law_many"] (ak s_ba):=.by
theorem sc_a8:ay ["_law_some","_law_many","_law_raw","_law_row_here"] ["_law_some","_law_many"] (ak s_a8):=.by
theorem sc_bc:ay ["_law_some","_law_wide","_law_tall"] ["_law_some"] (ak s_bc):=.by
theorem sc_bf:ay ["_law_plan_here"] ["_law_plan_here"] (ak s_bf):=.by
theorem sc_a4:ay ["_law_plan_here","_law_way","_law_k","_law_step","_law_bits_here"] ["_law_plan_here","_law_way","_law_k","_law_step"] (ak s_a4):=.by
theorem sc_aQ:ay ["_law_plan_here","_law_x","_law_y","_law_wide","_law_tall","_law_found","_law_step"] ["_law_plan_here","_law_x","_law_y"] (ak s_aQ):=.by
theorem sc_aX:ay ["_law_line","_law_at"] ["_law_line"] (ak s_aX):=.by
theorem sc_a3:ay ["_law_plan_here","_law_point","_law_near_here","_law_line","_law_ahead","_law_back"] ["_law_plan_here","_law_point"] (ak s_a3):=.by
theorem sc_aR:ay ["_law_plan_here","_law_rows","_law_seen","_law_x","_law_y","_law_one","_law_point"] ["_law_plan_here"] (ak s_aR):=.by
theorem sc_aD:ay ["_law_told","_law_due"] ["_law_told","_law_due"] (ak s_aD):=.by
theorem sc_aL:ay ["_law_cloth","_law_plan_here","_law_way","_law_first","_law_second"] ["_law_cloth","_law_plan_here","_law_way"] (ak s_aL):=.by
theorem dN:ay ["_law_script","_law_some","_law_plan_here","_law_cloth","_law_due","_law_found","_law_comes_back","_law_line","_law_lines","_law_made_here"] ["_law_script"] (ak zJ):=.by
abbrev QNs (K:W.Frag) (x:Str) (C:Δ):Prop:=W.nsIn K Hh x=some (some (.ref C))
abbrev QNn (K:W.Frag) (x:Str):Prop:=W.nsIn K Hh x=some none
abbrev QFi (K:W.Frag) (C:Δ) (x:Str) (f:Δ):Prop:=W.findIn K (.ref C) x=some (some (.ref f))
abbrev QFn (K:W.Frag) (C:Δ) (x:Str):Prop:=W.findIn K (.ref C) x=some none
abbrev QIf (K:W.Frag) (f:Δ):Prop:=W.isFn K (.ref f)=true
abbrev QXc (K:W.Frag) (C:Δ):Prop:=W.excIn K C [.type "ValueError",.type "Exception",.type "BaseException",.type "object"] "ValueError.__new__"=true
abbrev QXg (K:W.Frag) (C:Δ):Prop:=W.findIn K (.ref C) "__getattribute__"=some (some (.builtin "BaseException.__getattribute__"))/\W.findIn K (.ref C) "__getattr__"=some none/\W.findIn K (.ref C) "__class__"=some (some (.builtin "object.__class__"))/\W.mroIn K C (.type "object")=some true/\W.mroIn K C (.type "BaseException")=some true
set_option genInjectivity false in
set_option genSizeOf false in
structure Ad where
 (a_bj a_aa f_aI f_ao f_a9 f_aE f_aF f_aJ f_as f_aV f_av f_a7:Δ)
 (f_ay f_aG f_bh f_at f_aK f_aP f_aA f_ak f_ad f_ah f_ae f_ac:Δ)
 (f_ai f_ag f_ap f_ab f_af f_a5 f_al f_aS f_ax f_a0 f_aq f_aW:Δ)
 (f_aM f_az f_aj f_aU f_aw f_aZ f_an f_am f_aB f_au f_aH f_aC:Δ)
 (f_ar f_aO f_ba f_a8 f_bc f_bf f_a4 f_aQ f_aX f_a3 f_aR f_aD:Δ)
 (f_aL f_law a_be a_aY a_a2 a_bb a_a6 a_bd a_a1:Δ)
 (d_aI d_ao d_a9 d_aE d_aF d_aJ d_as d_aV d_av d_a7 d_ay d_aG:GX)
 (d_bh d_at d_aK d_aP d_aA d_ak d_ad d_ah d_ae d_ac d_ai d_ag:GX)
 (d_ap d_ab d_af d_a5 d_al d_aS d_ax d_a0 d_aq d_aW d_aM d_az:GX)
 (d_aj d_aU d_aw d_aZ d_an d_am d_aB d_au d_aH d_aC d_ar d_aO:GX)
 (d_ba d_a8 d_bc d_bf d_a4 d_aQ d_aX d_a3 d_aR d_aD d_aL d_law:GX)
 (tk_LONGEST_SIDE:Tok)
structure Txt (K:W.Frag) (mg:Str->Option χ) (t:Ad):Prop where
 mg_bj:mg "Board"=some (.ref t.a_bj)
 mg_aa:mg "Cloth"=some (.ref t.a_aa)
 cl_aa:Cls K t.a_aa
 mk_aa:Mk K t.a_aa t.f_ak
 na_columns_count:cU K t.a_aa "columns_count"
 na_rows_count:cU K t.a_aa "rows_count"
 na_col_bits:cU K t.a_aa "col_bits"
 na_row_bits:cU K t.a_aa "row_bits"
 na_first_colour:cU K t.a_aa "first_colour"
 F_aI:Fun K "is_number" "is_number" s_aI t.f_aI t.d_aI
 b_aI:aI K t.d_aI ["value"] []
 mg_aI:mg "is_number"=some (.ref t.f_aI)
 F_ao:Fun K "is_below" "is_below" s_ao t.f_ao t.d_ao
 b_ao:aI K t.d_ao ["value","bound"] []
 mg_ao:mg "is_below"=some (.ref t.f_ao)
 F_a9:Fun K "is_bit" "is_bit" s_a9 t.f_a9 t.d_a9
 b_a9:aI K t.d_a9 ["value"] []
 mg_a9:mg "is_bit"=some (.ref t.f_a9)
 F_aE:Fun K "all_bits" "all_bits" s_aE t.f_aE t.d_aE
 b_aE:aI K t.d_aE ["values"] []
 mg_aE:mg "all_bits"=some (.ref t.f_aE)
 F_aF:Fun K "is_side" "is_side" s_aF t.f_aF t.d_aF
 b_aF:aI K t.d_aF ["count"] []
 mg_aF:mg "is_side"=some (.ref t.f_aF)
 F_aJ:Fun K "need_cell" "need_cell" s_aJ t.f_aJ t.d_aJ
 b_aJ:aI K t.d_aJ ["board","x","y"] []
 mg_aJ:mg "need_cell"=some (.ref t.f_aJ)
 F_as:Fun K "sewn_right" "sewn_right" s_as t.f_as t.d_as
 b_as:aI K t.d_as ["cloth","x","y"] []
 mg_as:mg "sewn_right"=some (.ref t.f_as)
 F_aV:Fun K "sewn_up" "sewn_up" s_aV t.f_aV t.d_aV
 b_aV:aI K t.d_aV ["cloth","x","y"] []
 mg_aV:mg "sewn_up"=some (.ref t.f_aV)
 F_av:Fun K "joined" "joined" s_av t.f_av t.d_av
 b_av:aI K t.d_av ["cloth","point"] []
 mg_av:mg "joined"=some (.ref t.f_av)
 F_a7:Fun K "walk" "walk" s_a7 t.f_a7 t.d_a7
 b_a7:aI K t.d_a7 ["cloth","start","onward"] []
 mg_a7:mg "walk"=some (.ref t.f_a7)
 F_ay:Fun K "told_round" "told_round" s_ay t.f_ay t.d_ay
 b_ay:aI K t.d_ay ["cloth","line"] []
 mg_ay:mg "told_round"=some (.ref t.f_ay)
 F_aG:Fun K "told_open" "told_open" s_aG t.f_aG t.d_aG
 b_aG:aI K t.d_aG ["cloth","end"] []
 mg_aG:mg "told_open"=some (.ref t.f_aG)
 F_bh:Fun K "seam" "seam" s_bh t.f_bh t.d_bh
 b_bh:aI K t.d_bh ["cloth","point"] []
 mg_bh:mg "seam"=some (.ref t.f_bh)
 F_at:Fun K "first_point" "first_point" s_at t.f_at t.d_at
 b_at:aI K t.d_at ["told"] []
 mg_at:mg "first_point"=some (.ref t.f_at)
 F_aK:Fun K "seams" "seams" s_aK t.f_aK t.d_aK
 b_aK:aI K t.d_aK ["cloth"] []
 mg_aK:mg "seams"=some (.ref t.f_aK)
 F_aP:Fun K "rounds" "rounds" s_aP t.f_aP t.d_aP
 b_aP:aI K t.d_aP ["cloth"] []
 mg_aP:mg "rounds"=some (.ref t.f_aP)
 F_aA:Fun K "__init__" "Board.__init__" s_aA t.f_aA t.d_aA
 b_aA:aI K t.d_aA ["self","wide","tall","cols","rows"] []
 cf_aA:BR K t.a_bj "__init__" t.f_aA
 F_ak:Fun K "__init__" "Cloth.__init__" s_ak t.f_ak t.d_ak
 b_ak:aI K t.d_ak ["self","shade","cols","rows"] []
 F_ad:Fun K "shade" "Cloth.shade" s_ad t.f_ad t.d_ad
 b_ad:aI K t.d_ad ["self"] []
 m_ad:j9 K t.a_aa "shade" t.f_ad
 F_ah:Fun K "cols" "Board.cols" s_ah t.f_ah t.d_ah
 b_ah:aI K t.d_ah ["self"] []
 m_ah:j9 K t.a_aa "cols" t.f_ah
 F_ae:Fun K "rows" "Board.rows" s_ae t.f_ae t.d_ae
 b_ae:aI K t.d_ae ["self"] []
 m_ae:j9 K t.a_aa "rows" t.f_ae
 F_ac:Fun K "wide" "Board.wide" s_ac t.f_ac t.d_ac
 b_ac:aI K t.d_ac ["self"] []
 m_ac:j9 K t.a_aa "wide" t.f_ac
 F_ai:Fun K "tall" "Board.tall" s_ai t.f_ai t.d_ai
 b_ai:aI K t.d_ai ["self"] []
 m_ai:j9 K t.a_aa "tall" t.f_ai
 F_ag:Fun K "bits_along" "Board.bits_along" s_ag t.f_ag t.d_ag
 b_ag:aI K t.d_ag ["self","way"] []
 m_ag:j9 K t.a_aa "bits_along" t.f_ag
 F_ap:Fun K "bit" "Board.bit" s_ap t.f_ap t.d_ap
 b_ap:aI K t.d_ap ["self","way","k"] []
 m_ap:j9 K t.a_aa "bit" t.f_ap
 F_ab:Fun K "stitched" "Board.stitched" s_ab t.f_ab t.d_ab
 b_ab:aI K t.d_ab ["self","way","k","step"] []
 m_ab:j9 K t.a_aa "stitched" t.f_ab
 F_af:Fun K "colour" "Cloth.colour" s_af t.f_af t.d_af
 b_af:aI K t.d_af ["self","x","y"] []
 m_af:j9 K t.a_aa "colour" t.f_af
 F_a5:Fun K "alike" "alike" s_a5 t.f_a5 t.d_a5
 b_a5:aI K t.d_a5 ["one","other"] []
 mg_a5:mg "alike"=some (.ref t.f_a5)
 F_al:Fun K "colours_across" "colours_across" s_al t.f_al t.d_al
 b_al:aI K t.d_al ["cloth","y"] []
 mg_al:mg "colours_across"=some (.ref t.f_al)
 F_aS:Fun K "picture" "picture" s_aS t.f_aS t.d_aS
 b_aS:aI K t.d_aS ["cloth"] []
 mg_aS:mg "picture"=some (.ref t.f_aS)
 F_ax:Fun K "need_table" "need_table" s_ax t.f_ax t.d_ax
 b_ax:aI K t.d_ax ["table"] []
 mg_ax:mg "need_table"=some (.ref t.f_ax)
 F_a0:Fun K "is_even" "is_even" s_a0 t.f_a0 t.d_a0
 b_a0:aI K t.d_a0 ["table","x","y"] []
 mg_a0:mg "is_even"=some (.ref t.f_a0)
 F_aq:Fun K "even_blocks" "even_blocks" s_aq t.f_aq t.d_aq
 b_aq:aI K t.d_aq ["table"] []
 mg_aq:mg "even_blocks"=some (.ref t.f_aq)
 F_aW:Fun K "unlike" "unlike" s_aW t.f_aW t.d_aW
 b_aW:aI K t.d_aW ["numbers"] []
 mg_aW:mg "unlike"=some (.ref t.f_aW)
 F_aM:Fun K "cloth_of" "cloth_of" s_aM t.f_aM t.d_aM
 b_aM:aI K t.d_aM ["table"] []
 mg_aM:mg "cloth_of"=some (.ref t.f_aM)
 F_az:Fun K "shifted" "shifted" s_az t.f_az t.d_az
 b_az:aI K t.d_az ["bits","steps"] []
 mg_az:mg "shifted"=some (.ref t.f_az)
 F_aj:Fun K "transposed" "transposed" s_aj t.f_aj t.d_aj
 b_aj:aI K t.d_aj ["cloth"] []
 mg_aj:mg "transposed"=some (.ref t.f_aj)
 F_aU:Fun K "backed" "backed" s_aU t.f_aU t.d_aU
 b_aU:aI K t.d_aU ["cloth"] []
 mg_aU:mg "backed"=some (.ref t.f_aU)
 F_aw:Fun K "parted_up" "parted_up" s_aw t.f_aw t.d_aw
 b_aw:aI K t.d_aw ["cloth","k"] []
 mg_aw:mg "parted_up"=some (.ref t.f_aw)
 F_aZ:Fun K "parted" "parted" s_aZ t.f_aZ t.d_aZ
 b_aZ:aI K t.d_aZ ["cloth","way","k"] []
 mg_aZ:mg "parted"=some (.ref t.f_aZ)
 F_an:Fun K "sewn_beside" "sewn_beside" s_an t.f_an t.d_an
 b_an:aI K t.d_an ["one","other"] []
 mg_an:mg "sewn_beside"=some (.ref t.f_an)
 F_am:Fun K "sewn_together" "sewn_together" s_am t.f_am t.d_am
 b_am:aI K t.d_am ["one","other","way"] []
 mg_am:mg "sewn_together"=some (.ref t.f_am)
 F_aB:Fun K "bits_text" "bits_text" s_aB t.f_aB t.d_aB
 b_aB:aI K t.d_aB ["bits"] []
 mg_aB:mg "bits_text"=some (.ref t.f_aB)
 F_au:Fun K "cloth_text" "cloth_text" s_au t.f_au t.d_au
 b_au:aI K t.d_au ["cloth"] []
 mg_au:mg "cloth_text"=some (.ref t.f_au)
 F_aH:Fun K "has_signs" "has_signs" s_aH t.f_aH t.d_aH
 b_aH:aI K t.d_aH ["word","signs"] []
 mg_aH:mg "has_signs"=some (.ref t.f_aH)
 F_aC:Fun K "read_bits" "read_bits" s_aC t.f_aC t.d_aC
 b_aC:aI K t.d_aC ["word"] []
 mg_aC:mg "read_bits"=some (.ref t.f_aC)
 F_ar:Fun K "read_cloth" "read_cloth" s_ar t.f_ar t.d_ar
 b_ar:aI K t.d_ar ["text"] []
 mg_ar:mg "read_cloth"=some (.ref t.f_ar)
 F_aO:Fun K "_law_draws" "_law_draws" s_aO t.f_aO t.d_aO
 b_aO:aI K t.d_aO ["_law_script","_law_many"] []
 mg_aO:mg "_law_draws"=some (.ref t.f_aO)
 F_ba:Fun K "_law_bits" "_law_bits" s_ba t.f_ba t.d_ba
 b_ba:aI K t.d_ba ["_law_number","_law_many"] []
 mg_ba:mg "_law_bits"=some (.ref t.f_ba)
 F_a8:Fun K "_law_row" "_law_row" s_a8 t.f_a8 t.d_a8
 b_a8:aI K t.d_a8 ["_law_some","_law_many"] []
 mg_a8:mg "_law_row"=some (.ref t.f_a8)
 F_bc:Fun K "_law_plan" "_law_plan" s_bc t.f_bc t.d_bc
 b_bc:aI K t.d_bc ["_law_some"] []
 mg_bc:mg "_law_plan"=some (.ref t.f_bc)
 F_bf:Fun K "_law_made" "_law_made" s_bf t.f_bf t.d_bf
 b_bf:aI K t.d_bf ["_law_plan_here"] []
 mg_bf:mg "_law_made"=some (.ref t.f_bf)
 F_a4:Fun K "_law_sewn" "_law_sewn" s_a4 t.f_a4 t.d_a4
 b_a4:aI K t.d_a4 ["_law_plan_here","_law_way","_law_k","_law_step"] []
 mg_a4:mg "_law_sewn"=some (.ref t.f_a4)
 F_aQ:Fun K "_law_near" "_law_near" s_aQ t.f_aQ t.d_aQ
 b_aQ:aI K t.d_aQ ["_law_plan_here","_law_x","_law_y"] []
 mg_aQ:mg "_law_near"=some (.ref t.f_aQ)
 F_aX:Fun K "_law_round" "_law_round" s_aX t.f_aX t.d_aX
 b_aX:aI K t.d_aX ["_law_line"] []
 mg_aX:mg "_law_round"=some (.ref t.f_aX)
 F_a3:Fun K "_law_seam" "_law_seam" s_a3 t.f_a3 t.d_a3
 b_a3:aI K t.d_a3 ["_law_plan_here","_law_point"] []
 mg_a3:mg "_law_seam"=some (.ref t.f_a3)
 F_aR:Fun K "_law_seams" "_law_seams" s_aR t.f_aR t.d_aR
 b_aR:aI K t.d_aR ["_law_plan_here"] []
 mg_aR:mg "_law_seams"=some (.ref t.f_aR)
 F_aD:Fun K "_law_same" "_law_same" s_aD t.f_aD t.d_aD
 b_aD:aI K t.d_aD ["_law_told","_law_due"] []
 mg_aD:mg "_law_same"=some (.ref t.f_aD)
 F_aL:Fun K "_law_remade" "_law_remade" s_aL t.f_aL t.d_aL
 b_aL:aI K t.d_aL ["_law_cloth","_law_plan_here","_law_way"] []
 mg_aL:mg "_law_remade"=some (.ref t.f_aL)
 F_law:Fun K "law" "law" zJ t.f_law t.d_law
 b_law:aI K t.d_law ["_law_script"] []
 mg_law:mg "law"=some (.ref t.f_law)
 mg_be:mg "SewError"=some (.ref t.a_be)
 mg_aY:mg "BadSize"=some (.ref t.a_aY)
 mg_a2:mg "BadBit"=some (.ref t.a_a2)
 mg_bb:mg "NoCell"=some (.ref t.a_bb)
 mg_a6:mg "NoLine"=some (.ref t.a_a6)
 mg_bd:mg "NoStep"=some (.ref t.a_bd)
 mg_a1:mg "NoPoint"=some (.ref t.a_a1)
 x_aY:QXc K t.a_aY
 xi_aY:mU K t.a_aY
 cat_aY:W.exmOne K (.ref t.a_aY) (.ref t.a_be)=some true
 x_a2:QXc K t.a_a2
 xi_a2:mU K t.a_a2
 cat_a2:W.exmOne K (.ref t.a_a2) (.ref t.a_be)=some true
 x_bb:QXc K t.a_bb
 xi_bb:mU K t.a_bb
 cat_bb:W.exmOne K (.ref t.a_bb) (.ref t.a_be)=some true
 x_a6:QXc K t.a_a6
 xi_a6:mU K t.a_a6
 cat_a6:W.exmOne K (.ref t.a_a6) (.ref t.a_be)=some true
 x_bd:QXc K t.a_bd
 xi_bd:mU K t.a_bd
 cat_bd:W.exmOne K (.ref t.a_bd) (.ref t.a_be)=some true
 x_a1:QXc K t.a_a1
 xi_a1:mU K t.a_a1
 cat_a1:W.exmOne K (.ref t.a_a1) (.ref t.a_be)=some true
 mg_LONGEST_SIDE:mg "LONGEST_SIDE"=some (.int 40 t.tk_LONGEST_SIDE)
 no_bg:mg "isinstance"=none
 no_int:mg "int"=none
 no_bool:mg "bool"=none
 no_all:mg "all"=none
 no_len:mg "len"=none
 no_aN:mg "tuple"=none
 no_list:mg "list"=none
 no_aT:mg "range"=none
 no_abs:mg "abs"=none
 no_str:mg "str"=none
 no_zip:mg "zip"=none
 no_bi:mg "ValueError"=none
 no_sorted:mg "sorted"=none
 no_min:mg "min"=none
 no_max:mg "max"=none
 no_sum:mg "sum"=none
 no_bk:mg "enumerate"=none
 no_reversed:mg "reversed"=none
theorem txt_mk {K:W.Frag} {h:F6} {mg:Str->Option χ} (X:K.In h) (G:h.Ns Hh mg) {C_bj C_aa f_aI f_ao f_a9 f_aE f_aF f_aJ f_as f_aV f_av f_a7:Δ} {f_ay f_aG f_bh f_at f_aK f_aP f_aA f_ak f_ad f_ah f_ae f_ac:Δ} {f_ai f_ag f_ap f_ab f_af f_a5 f_al f_aS f_ax f_a0 f_aq f_aW:Δ} {f_aM f_az f_aj f_aU f_aw f_aZ f_an f_am f_aB f_au f_aH f_aC:Δ} {f_ar f_aO f_ba f_a8 f_bc f_bf f_a4 f_aQ f_aX f_a3 f_aR f_aD:Δ} {f_aL f_law C_be C_aY C_a2 C_bb C_a6 C_bd C_a1:Δ} {d_aI d_ao d_a9 d_aE d_aF d_aJ d_as d_aV d_av d_a7 d_ay d_aG:GX} {d_bh d_at d_aK d_aP d_aA d_ak d_ad d_ah d_ae d_ac d_ai d_ag:GX} {d_ap d_ab d_af d_a5 d_al d_aS d_ax d_a0 d_aq d_aW d_aM d_az:GX} {d_aj d_aU d_aw d_aZ d_an d_am d_aB d_au d_aH d_aC d_ar d_aO:GX} {d_ba d_a8 d_bc d_bf d_a4 d_aQ d_aX d_a3 d_aR d_aD d_aL d_law:GX} {tk_LONGEST_SIDE:Tok}
  (aC_bj:QNs K "Board" C_bj)
  (ga_bj:W.specialIn K (.ref C_bj) "__getattribute__"=some (some (.builtin "type.__getattribute__")))
  (rd_bj:W.readsIn K C_bj (.type "type")=true)
  (aC_aa:QNs K "Cloth" C_aa)
  (pg_aa:W.plainGet K C_aa KL=true)
  (hd_aa:W.hasDictIn K C_aa=true)
  (po_aa:W.plainOver K C_aa=true)
  (sa_aa:W.findIn K (.ref C_aa) "__setattr__"=some (some (.builtin "object.__setattr__")))
  (mk_aa:W.makesIn K C_aa=true)
  (kc_aa:W.keepIn K (.ref C_aa)=true)
  (na_columns_count:QFn K C_aa "columns_count")
  (na_rows_count:QFn K C_aa "rows_count")
  (na_col_bits:QFn K C_aa "col_bits")
  (na_row_bits:QFn K C_aa "row_bits")
  (na_first_colour:QFn K C_aa "first_colour")
  (a_aI:QNs K "is_number" f_aI)
  (F_aI:Fun K "is_number" "is_number" s_aI f_aI d_aI)
  (a_ao:QNs K "is_below" f_ao)
  (F_ao:Fun K "is_below" "is_below" s_ao f_ao d_ao)
  (a_a9:QNs K "is_bit" f_a9)
  (F_a9:Fun K "is_bit" "is_bit" s_a9 f_a9 d_a9)
  (a_aE:QNs K "all_bits" f_aE)
  (F_aE:Fun K "all_bits" "all_bits" s_aE f_aE d_aE)
  (a_aF:QNs K "is_side" f_aF)
  (F_aF:Fun K "is_side" "is_side" s_aF f_aF d_aF)
  (a_aJ:QNs K "need_cell" f_aJ)
  (F_aJ:Fun K "need_cell" "need_cell" s_aJ f_aJ d_aJ)
  (a_as:QNs K "sewn_right" f_as)
  (F_as:Fun K "sewn_right" "sewn_right" s_as f_as d_as)
  (a_aV:QNs K "sewn_up" f_aV)
  (F_aV:Fun K "sewn_up" "sewn_up" s_aV f_aV d_aV)
  (a_av:QNs K "joined" f_av)
  (F_av:Fun K "joined" "joined" s_av f_av d_av)
  (a_a7:QNs K "walk" f_a7)
  (F_a7:Fun K "walk" "walk" s_a7 f_a7 d_a7)
  (a_ay:QNs K "told_round" f_ay)
  (F_ay:Fun K "told_round" "told_round" s_ay f_ay d_ay)
  (a_aG:QNs K "told_open" f_aG)
  (F_aG:Fun K "told_open" "told_open" s_aG f_aG d_aG)
  (a_bh:QNs K "seam" f_bh)
  (F_bh:Fun K "seam" "seam" s_bh f_bh d_bh)
  (a_at:QNs K "first_point" f_at)
  (F_at:Fun K "first_point" "first_point" s_at f_at d_at)
  (a_aK:QNs K "seams" f_aK)
  (F_aK:Fun K "seams" "seams" s_aK f_aK d_aK)
  (a_aP:QNs K "rounds" f_aP)
  (F_aP:Fun K "rounds" "rounds" s_aP f_aP d_aP)
  (fc_aA:W.findCls K (.ref C_bj) (.type "type") "__init__"=some (.val (.ref f_aA)))
  (F_aA:Fun K "__init__" "Board.__init__" s_aA f_aA d_aA)
  (a_ak:QFi K C_aa "__init__" f_ak)
  (i_ak:QIf K f_ak)
  (F_ak:Fun K "__init__" "Cloth.__init__" s_ak f_ak d_ak)
  (a_ad:QFi K C_aa "shade" f_ad)
  (i_ad:QIf K f_ad)
  (F_ad:Fun K "shade" "Cloth.shade" s_ad f_ad d_ad)
  (a_ah:QFi K C_aa "cols" f_ah)
  (i_ah:QIf K f_ah)
  (F_ah:Fun K "cols" "Board.cols" s_ah f_ah d_ah)
  (a_ae:QFi K C_aa "rows" f_ae)
  (i_ae:QIf K f_ae)
  (F_ae:Fun K "rows" "Board.rows" s_ae f_ae d_ae)
  (a_ac:QFi K C_aa "wide" f_ac)
  (i_ac:QIf K f_ac)
  (F_ac:Fun K "wide" "Board.wide" s_ac f_ac d_ac)
  (a_ai:QFi K C_aa "tall" f_ai)
  (i_ai:QIf K f_ai)
  (F_ai:Fun K "tall" "Board.tall" s_ai f_ai d_ai)
  (a_ag:QFi K C_aa "bits_along" f_ag)
  (i_ag:QIf K f_ag)
  (F_ag:Fun K "bits_along" "Board.bits_along" s_ag f_ag d_ag)
  (a_ap:QFi K C_aa "bit" f_ap)
  (i_ap:QIf K f_ap)
  (F_ap:Fun K "bit" "Board.bit" s_ap f_ap d_ap)
  (a_ab:QFi K C_aa "stitched" f_ab)
  (i_ab:QIf K f_ab)
  (F_ab:Fun K "stitched" "Board.stitched" s_ab f_ab d_ab)
  (a_af:QFi K C_aa "colour" f_af)
  (i_af:QIf K f_af)
  (F_af:Fun K "colour" "Cloth.colour" s_af f_af d_af)
  (a_a5:QNs K "alike" f_a5)
  (F_a5:Fun K "alike" "alike" s_a5 f_a5 d_a5)
  (a_al:QNs K "colours_across" f_al)
  (F_al:Fun K "colours_across" "colours_across" s_al f_al d_al)
  (a_aS:QNs K "picture" f_aS)
  (F_aS:Fun K "picture" "picture" s_aS f_aS d_aS)
  (a_ax:QNs K "need_table" f_ax)
  (F_ax:Fun K "need_table" "need_table" s_ax f_ax d_ax)
  (a_a0:QNs K "is_even" f_a0)
  (F_a0:Fun K "is_even" "is_even" s_a0 f_a0 d_a0)
  (a_aq:QNs K "even_blocks" f_aq)
  (F_aq:Fun K "even_blocks" "even_blocks" s_aq f_aq d_aq)
  (a_aW:QNs K "unlike" f_aW)
  (F_aW:Fun K "unlike" "unlike" s_aW f_aW d_aW)
  (a_aM:QNs K "cloth_of" f_aM)
  (F_aM:Fun K "cloth_of" "cloth_of" s_aM f_aM d_aM)
  (a_az:QNs K "shifted" f_az)
  (F_az:Fun K "shifted" "shifted" s_az f_az d_az)
  (a_aj:QNs K "transposed" f_aj)
  (F_aj:Fun K "transposed" "transposed" s_aj f_aj d_aj)
  (a_aU:QNs K "backed" f_aU)
  (F_aU:Fun K "backed" "backed" s_aU f_aU d_aU)
  (a_aw:QNs K "parted_up" f_aw)
  (F_aw:Fun K "parted_up" "parted_up" s_aw f_aw d_aw)
  (a_aZ:QNs K "parted" f_aZ)
  (F_aZ:Fun K "parted" "parted" s_aZ f_aZ d_aZ)
  (a_an:QNs K "sewn_beside" f_an)
  (F_an:Fun K "sewn_beside" "sewn_beside" s_an f_an d_an)
  (a_am:QNs K "sewn_together" f_am)
  (F_am:Fun K "sewn_together" "sewn_together" s_am f_am d_am)
  (a_aB:QNs K "bits_text" f_aB)
  (F_aB:Fun K "bits_text" "bits_text" s_aB f_aB d_aB)
  (a_au:QNs K "cloth_text" f_au)
  (F_au:Fun K "cloth_text" "cloth_text" s_au f_au d_au)
  (a_aH:QNs K "has_signs" f_aH)
  (F_aH:Fun K "has_signs" "has_signs" s_aH f_aH d_aH)
  (a_aC:QNs K "read_bits" f_aC)
  (F_aC:Fun K "read_bits" "read_bits" s_aC f_aC d_aC)
  (a_ar:QNs K "read_cloth" f_ar)
  (F_ar:Fun K "read_cloth" "read_cloth" s_ar f_ar d_ar)
  (a_aO:QNs K "_law_draws" f_aO)
  (F_aO:Fun K "_law_draws" "_law_draws" s_aO f_aO d_aO)
  (a_ba:QNs K "_law_bits" f_ba)
  (F_ba:Fun K "_law_bits" "_law_bits" s_ba f_ba d_ba)
  (a_a8:QNs K "_law_row" f_a8)
  (F_a8:Fun K "_law_row" "_law_row" s_a8 f_a8 d_a8)
  (a_bc:QNs K "_law_plan" f_bc)
  (F_bc:Fun K "_law_plan" "_law_plan" s_bc f_bc d_bc)
  (a_bf:QNs K "_law_made" f_bf)
  (F_bf:Fun K "_law_made" "_law_made" s_bf f_bf d_bf)
  (a_a4:QNs K "_law_sewn" f_a4)
  (F_a4:Fun K "_law_sewn" "_law_sewn" s_a4 f_a4 d_a4)
  (a_aQ:QNs K "_law_near" f_aQ)
  (F_aQ:Fun K "_law_near" "_law_near" s_aQ f_aQ d_aQ)
  (a_aX:QNs K "_law_round" f_aX)
  (F_aX:Fun K "_law_round" "_law_round" s_aX f_aX d_aX)
  (a_a3:QNs K "_law_seam" f_a3)
  (F_a3:Fun K "_law_seam" "_law_seam" s_a3 f_a3 d_a3)
  (a_aR:QNs K "_law_seams" f_aR)
  (F_aR:Fun K "_law_seams" "_law_seams" s_aR f_aR d_aR)
  (a_aD:QNs K "_law_same" f_aD)
  (F_aD:Fun K "_law_same" "_law_same" s_aD f_aD d_aD)
  (a_aL:QNs K "_law_remade" f_aL)
  (F_aL:Fun K "_law_remade" "_law_remade" s_aL f_aL d_aL)
  (a_law:QNs K "law" f_law)
  (F_law:Fun K "law" "law" zJ f_law d_law)
  (aX_be:QNs K "SewError" C_be)
  (aX_aY:QNs K "BadSize" C_aY)
  (aX_a2:QNs K "BadBit" C_a2)
  (aX_bb:QNs K "NoCell" C_bb)
  (aX_a6:QNs K "NoLine" C_a6)
  (aX_bd:QNs K "NoStep" C_bd)
  (aX_a1:QNs K "NoPoint" C_a1)
  (bb:W.subIn K (.ref C_be) (.type "BaseException")=some true)
  (bm:W.mroIn K C_be (.type "object")=some true)
  (bt:W.typeIn K (.ref C_be)=some (.type "type"))
  (ogs:W.specialIn K (.builtin "object.__class__") "__get__"=some (some (.builtin "getset_descriptor.__get__")))
  (otk:W.takesIn K (.builtin "object.__class__")=some true)
  (x_aY:QXc K C_aY)
  (xg_BadSize:QXg K C_aY)
  (sb_aY:W.subIn K (.ref C_aY) (.ref C_be)=some true)
  (x_a2:QXc K C_a2)
  (xg_BadBit:QXg K C_a2)
  (sb_a2:W.subIn K (.ref C_a2) (.ref C_be)=some true)
  (x_bb:QXc K C_bb)
  (xg_NoCell:QXg K C_bb)
  (sb_bb:W.subIn K (.ref C_bb) (.ref C_be)=some true)
  (x_a6:QXc K C_a6)
  (xg_NoLine:QXg K C_a6)
  (sb_a6:W.subIn K (.ref C_a6) (.ref C_be)=some true)
  (x_bd:QXc K C_bd)
  (xg_NoStep:QXg K C_bd)
  (sb_bd:W.subIn K (.ref C_bd) (.ref C_be)=some true)
  (x_a1:QXc K C_a1)
  (xg_NoPoint:QXg K C_a1)
  (sb_a1:W.subIn K (.ref C_a1) (.ref C_be)=some true)
  (v_LONGEST_SIDE:W.nsIn K Hh "LONGEST_SIDE"=some (some (.int 40 tk_LONGEST_SIDE)))
  (z_bg:QNn K "isinstance")
  (z_int:QNn K "int")
  (z_bool:QNn K "bool")
  (z_all:QNn K "all")
  (z_len:QNn K "len")
  (z_aN:QNn K "tuple")
  (z_list:QNn K "list")
  (z_aT:QNn K "range")
  (z_abs:QNn K "abs")
  (z_str:QNn K "str")
  (z_zip:QNn K "zip")
  (z_bi:QNn K "ValueError")
  (z_sorted:QNn K "sorted")
  (z_min:QNn K "min")
  (z_max:QNn K "max")
  (z_sum:QNn K "sum")
  (z_bk:QNn K "enumerate")
  (z_reversed:QNn K "reversed"):∃ t:Ad,Txt K mg t :=
 ⟨{ a_bj:=C_bj,a_aa:=C_aa,f_aI:=f_aI,d_aI:=d_aI,f_ao:=f_ao,d_ao:=d_ao,f_a9:=f_a9,d_a9:=d_a9,f_aE:=f_aE,d_aE:=d_aE,f_aF:=f_aF,d_aF:=d_aF,f_aJ:=f_aJ,d_aJ:=d_aJ,f_as:=f_as,d_as:=d_as,f_aV:=f_aV,d_aV:=d_aV,f_av:=f_av,d_av:=d_av,f_a7:=f_a7,d_a7:=d_a7,f_ay:=f_ay,d_ay:=d_ay,f_aG:=f_aG,d_aG:=d_aG,f_bh:=f_bh,d_bh:=d_bh,f_at:=f_at,d_at:=d_at,f_aK:=f_aK,d_aK:=d_aK,f_aP:=f_aP,d_aP:=d_aP,f_aA:=f_aA,d_aA:=d_aA,f_ak:=f_ak,d_ak:=d_ak,f_ad:=f_ad,d_ad:=d_ad,f_ah:=f_ah,d_ah:=d_ah,f_ae:=f_ae,d_ae:=d_ae,f_ac:=f_ac,d_ac:=d_ac,f_ai:=f_ai,d_ai:=d_ai,f_ag:=f_ag,d_ag:=d_ag,f_ap:=f_ap,d_ap:=d_ap,f_ab:=f_ab,d_ab:=d_ab,f_af:=f_af,d_af:=d_af,f_a5:=f_a5,d_a5:=d_a5,f_al:=f_al,d_al:=d_al,f_aS:=f_aS,d_aS:=d_aS,f_ax:=f_ax,d_ax:=d_ax,f_a0:=f_a0,d_a0:=d_a0,f_aq:=f_aq,d_aq:=d_aq,f_aW:=f_aW,d_aW:=d_aW,f_aM:=f_aM,d_aM:=d_aM,f_az:=f_az,d_az:=d_az,f_aj:=f_aj,d_aj:=d_aj,f_aU:=f_aU,d_aU:=d_aU,f_aw:=f_aw,d_aw:=d_aw,f_aZ:=f_aZ,d_aZ:=d_aZ,f_an:=f_an,d_an:=d_an,f_am:=f_am,d_am:=d_am,f_aB:=f_aB,d_aB:=d_aB,f_au:=f_au,d_au:=d_au,f_aH:=f_aH,d_aH:=d_aH,f_aC:=f_aC,d_aC:=d_aC,f_ar:=f_ar,d_ar:=d_ar,f_aO:=f_aO,d_aO:=d_aO,f_ba:=f_ba,d_ba:=d_ba,f_a8:=f_a8,d_a8:=d_a8,f_bc:=f_bc,d_bc:=d_bc,f_bf:=f_bf,d_bf:=d_bf,f_a4:=f_a4,d_a4:=d_a4,f_aQ:=f_aQ,d_aQ:=d_aQ,f_aX:=f_aX,d_aX:=d_aX,f_a3:=f_a3,d_a3:=d_a3,f_aR:=f_aR,d_aR:=d_aR,f_aD:=f_aD,d_aD:=d_aD,f_aL:=f_aL,d_aL:=d_aL,f_law:=f_law,d_law:=d_law,a_be:=C_be,a_aY:=C_aY,a_a2:=C_a2,a_bb:=C_bb,a_a6:=C_a6,a_bd:=C_bd,a_a1:=C_a1,tk_LONGEST_SIDE:=tk_LONGEST_SIDE },⟨W.mg_of X G aC_bj,W.mg_of X G aC_aa,⟨pg_aa,hd_aa,po_aa,sa_aa⟩,⟨mk_aa,a_ak,i_ak,kc_aa⟩,na_columns_count,na_rows_count,na_col_bits,na_row_bits,na_first_colour,F_aI,F_aI.b1 fun _ _ _ _ _ _ _=>rfl,W.mg_of X G a_aI,F_ao,F_ao.b2 fun _ _ _ _ _ _ _ _=>rfl,W.mg_of X G a_ao,F_a9,F_a9.b1 fun _ _ _ _ _ _ _=>rfl,W.mg_of X G a_a9,F_aE,F_aE.b1 fun _ _ _ _ _ _ _=>rfl,W.mg_of X G a_aE,F_aF,F_aF.b1 fun _ _ _ _ _ _ _=>rfl,W.mg_of X G a_aF,F_aJ,F_aJ.b3 fun _ _ _ _ _ _ _ _ _=>rfl,W.mg_of X G a_aJ,F_as,F_as.b3 fun _ _ _ _ _ _ _ _ _=>rfl,W.mg_of X G a_as,F_aV,F_aV.b3 fun _ _ _ _ _ _ _ _ _=>rfl,W.mg_of X G a_aV,F_av,F_av.b2 fun _ _ _ _ _ _ _ _=>rfl,W.mg_of X G a_av,F_a7,F_a7.b3 fun _ _ _ _ _ _ _ _ _=>rfl,W.mg_of X G a_a7,F_ay,F_ay.b2 fun _ _ _ _ _ _ _ _=>rfl,W.mg_of X G a_ay,F_aG,F_aG.b2 fun _ _ _ _ _ _ _ _=>rfl,W.mg_of X G a_aG,F_bh,F_bh.b2 fun _ _ _ _ _ _ _ _=>rfl,W.mg_of X G a_bh,F_at,F_at.b1 fun _ _ _ _ _ _ _=>rfl,W.mg_of X G a_at,F_aK,F_aK.b1 fun _ _ _ _ _ _ _=>rfl,W.mg_of X G a_aK,F_aP,F_aP.b1 fun _ _ _ _ _ _ _=>rfl,W.mg_of X G a_aP,F_aA,F_aA.b5 fun _ _ _ _ _ _ _ _ _ _ _=>rfl,⟨ga_bj,rd_bj,fc_aA,F_aA.kp⟩,F_ak,F_ak.b4 fun _ _ _ _ _ _ _ _ _ _=>rfl,F_ad,F_ad.b1 fun _ _ _ _ _ _ _=>rfl,⟨a_ad,i_ad,F_ad.kp⟩,F_ah,F_ah.b1 fun _ _ _ _ _ _ _=>rfl,⟨a_ah,i_ah,F_ah.kp⟩,F_ae,F_ae.b1 fun _ _ _ _ _ _ _=>rfl,⟨a_ae,i_ae,F_ae.kp⟩,F_ac,F_ac.b1 fun _ _ _ _ _ _ _=>rfl,⟨a_ac,i_ac,F_ac.kp⟩,F_ai,F_ai.b1 fun _ _ _ _ _ _ _=>rfl,⟨a_ai,i_ai,F_ai.kp⟩,F_ag,F_ag.b2 fun _ _ _ _ _ _ _ _=>rfl,⟨a_ag,i_ag,F_ag.kp⟩,F_ap,F_ap.b3 fun _ _ _ _ _ _ _ _ _=>rfl,⟨a_ap,i_ap,F_ap.kp⟩,F_ab,F_ab.b4 fun _ _ _ _ _ _ _ _ _ _=>rfl,⟨a_ab,i_ab,F_ab.kp⟩,F_af,F_af.b3 fun _ _ _ _ _ _ _ _ _=>rfl,⟨a_af,i_af,F_af.kp⟩,F_a5,F_a5.b2 fun _ _ _ _ _ _ _ _=>rfl,W.mg_of X G a_a5,F_al,F_al.b2 fun _ _ _ _ _ _ _ _=>rfl,W.mg_of X G a_al,F_aS,F_aS.b1 fun _ _ _ _ _ _ _=>rfl,W.mg_of X G a_aS,F_ax,F_ax.b1 fun _ _ _ _ _ _ _=>rfl,W.mg_of X G a_ax,F_a0,F_a0.b3 fun _ _ _ _ _ _ _ _ _=>rfl,W.mg_of X G a_a0,F_aq,F_aq.b1 fun _ _ _ _ _ _ _=>rfl,W.mg_of X G a_aq,F_aW,F_aW.b1 fun _ _ _ _ _ _ _=>rfl,W.mg_of X G a_aW,F_aM,F_aM.b1 fun _ _ _ _ _ _ _=>rfl,W.mg_of X G a_aM,F_az,F_az.b2 fun _ _ _ _ _ _ _ _=>rfl,W.mg_of X G a_az,F_aj,F_aj.b1 fun _ _ _ _ _ _ _=>rfl,W.mg_of X G a_aj,F_aU,F_aU.b1 fun _ _ _ _ _ _ _=>rfl,W.mg_of X G a_aU,F_aw,F_aw.b2 fun _ _ _ _ _ _ _ _=>rfl,W.mg_of X G a_aw,F_aZ,F_aZ.b3 fun _ _ _ _ _ _ _ _ _=>rfl,W.mg_of X G a_aZ,F_an,F_an.b2 fun _ _ _ _ _ _ _ _=>rfl,W.mg_of X G a_an,F_am,F_am.b3 fun _ _ _ _ _ _ _ _ _=>rfl,W.mg_of X G a_am,F_aB,F_aB.b1 fun _ _ _ _ _ _ _=>rfl,W.mg_of X G a_aB,F_au,F_au.b1 fun _ _ _ _ _ _ _=>rfl,W.mg_of X G a_au,F_aH,F_aH.b2 fun _ _ _ _ _ _ _ _=>rfl,W.mg_of X G a_aH,F_aC,F_aC.b1 fun _ _ _ _ _ _ _=>rfl,W.mg_of X G a_aC,F_ar,F_ar.b1 fun _ _ _ _ _ _ _=>rfl,W.mg_of X G a_ar,F_aO,F_aO.b2 fun _ _ _ _ _ _ _ _=>rfl,W.mg_of X G a_aO,F_ba,F_ba.b2 fun _ _ _ _ _ _ _ _=>rfl,W.mg_of X G a_ba,F_a8,F_a8.b2 fun _ _ _ _ _ _ _ _=>rfl,W.mg_of X G a_a8,F_bc,F_bc.b1 fun _ _ _ _ _ _ _=>rfl,W.mg_of X G a_bc,F_bf,F_bf.b1 fun _ _ _ _ _ _ _=>rfl,W.mg_of X G a_bf,F_a4,F_a4.b4 fun _ _ _ _ _ _ _ _ _ _=>rfl,W.mg_of X G a_a4,F_aQ,F_aQ.b3 fun _ _ _ _ _ _ _ _ _=>rfl,W.mg_of X G a_aQ,F_aX,F_aX.b1 fun _ _ _ _ _ _ _=>rfl,W.mg_of X G a_aX,F_a3,F_a3.b2 fun _ _ _ _ _ _ _ _=>rfl,W.mg_of X G a_a3,F_aR,F_aR.b1 fun _ _ _ _ _ _ _=>rfl,W.mg_of X G a_aR,F_aD,F_aD.b2 fun _ _ _ _ _ _ _ _=>rfl,W.mg_of X G a_aD,F_aL,F_aL.b3 fun _ _ _ _ _ _ _ _ _=>rfl,W.mg_of X G a_aL,F_law,F_law.b1 fun _ _ _ _ _ _ _=>rfl,W.mg_of X G a_law,W.mg_of X G aX_be,W.mg_of X G aX_aY,W.mg_of X G aX_a2,W.mg_of X G aX_bb,W.mg_of X G aX_a6,W.mg_of X G aX_bd,W.mg_of X G aX_a1,x_aY,⟨xg_BadSize.1,xg_BadSize.2.1,xg_BadSize.2.2.1,ogs,otk,xg_BadSize.2.2.2.1,xg_BadSize.2.2.2.2⟩,jz bb bm bt sb_aY,x_a2,⟨xg_BadBit.1,xg_BadBit.2.1,xg_BadBit.2.2.1,ogs,otk,xg_BadBit.2.2.2.1,xg_BadBit.2.2.2.2⟩,jz bb bm bt sb_a2,x_bb,⟨xg_NoCell.1,xg_NoCell.2.1,xg_NoCell.2.2.1,ogs,otk,xg_NoCell.2.2.2.1,xg_NoCell.2.2.2.2⟩,jz bb bm bt sb_bb,x_a6,⟨xg_NoLine.1,xg_NoLine.2.1,xg_NoLine.2.2.1,ogs,otk,xg_NoLine.2.2.2.1,xg_NoLine.2.2.2.2⟩,jz bb bm bt sb_a6,x_bd,⟨xg_NoStep.1,xg_NoStep.2.1,xg_NoStep.2.2.1,ogs,otk,xg_NoStep.2.2.2.1,xg_NoStep.2.2.2.2⟩,jz bb bm bt sb_bd,x_a1,⟨xg_NoPoint.1,xg_NoPoint.2.1,xg_NoPoint.2.2.1,ogs,otk,xg_NoPoint.2.2.2.1,xg_NoPoint.2.2.2.2⟩,jz bb bm bt sb_a1,W.mg_of X G v_LONGEST_SIDE,W.mg_none_of X G z_bg,W.mg_none_of X G z_int,W.mg_none_of X G z_bool,W.mg_none_of X G z_all,W.mg_none_of X G z_len,W.mg_none_of X G z_aN,W.mg_none_of X G z_list,W.mg_none_of X G z_aT,W.mg_none_of X G z_abs,W.mg_none_of X G z_str,W.mg_none_of X G z_zip,W.mg_none_of X G z_bi,W.mg_none_of X G z_sorted,W.mg_none_of X G z_min,W.mg_none_of X G z_max,W.mg_none_of X G z_sum,W.mg_none_of X G z_bk,W.mg_none_of X G z_reversed⟩⟩
local macro_rules | `(tactic| walk_at "rd1") => `(tactic| first
  | ((with_reducible refine' Dw (v:=?kv) ?ke ?kh); (case ke=>exact rfl)) | (with_reducible refine Bs fun _ _=>?_) | (with_reducible refine Dd ?_) | (with_reducible refine b0 ?_) | (with_reducible refine Du ?_) | (with_reducible refine Be ?_) | (with_reducible refine Dp ?_) | (with_reducible refine Ef ?_) | (with_reducible refine zA ?_) | (with_reducible refine Bf ?_) | (with_reducible refine EU ?_) | (with_reducible refine Ec ?_) | (with_reducible refine Eg ?_) | (with_reducible refine A9 ?_) | (with_reducible refine Bo ?_) | (with_reducible refine Dc ?_) | (with_reducible refine Ed ?_) | (with_reducible refine Dt ?_) | (with_reducible refine dR ?_) | (with_reducible refine D9 ?_) | (with_reducible refine ES ?_) | (with_reducible refine Dj ?_) | (with_reducible refine Dr ?_) | (with_reducible refine Dl ?_) | (with_reducible refine Di ?_) | (with_reducible refine Dq ?_) | (with_reducible refine ze ?_) | (with_reducible refine Ba ?_) | (with_reducible refine Ds ?_) | (with_reducible refine Bc ?_) | (with_reducible refine D8 ?_) | (with_reducible refine Bv ?_) | (with_reducible refine Bk ?_) | (with_reducible refine Bn ?_) | (with_reducible refine dg ?_) | (with_reducible refine jl ?_) | (with_reducible refine Bt ?_) | (with_reducible refine zB ?_) | (with_reducible refine Bb ?_) | (with_reducible refine Dm ?_) | (with_reducible refine Bm ?_) | (with_reducible refine Bl ?_) | (with_reducible refine zt ?_) | (with_reducible refine Dv ?_) | (with_reducible refine zp ?_) | (with_reducible refine Ea ?_) | (with_reducible refine De ?_) | (with_reducible refine Ee ?_) | (with_reducible refine we ?_) | (with_reducible refine Bp ?_) | (with_reducible refine zg ?_) | (with_reducible refine zh ?_) | (with_reducible refine Eb ?_) | (with_reducible refine Bd ?_) | (with_reducible refine Dg ?_) | (with_reducible refine wb ?_) | (with_reducible refine zf ?_) | (with_reducible refine zj ?_) | (with_reducible refine C9 ?_) | (with_reducible refine Dn ?_) | (with_reducible refine Br ?_) | (with_reducible refine zk ?_) | (with_reducible refine Bg ?_) | (with_reducible refine zl ?_) | (with_reducible refine mz ?_) | (with_reducible refine EH ?_) | (with_reducible refine DU ?_) | (with_reducible refine DV ?_) | ((with_reducible refine' Df (r:=?kr) ?ke ?kh); (case ke=>assumption)) | (dsimp only))
local macro_rules | `(tactic| walk_at "") => `(tactic| repeat walk_at "rd1")
local macro_rules | `(tactic| walk_at "l") => `(tactic| ((intro vs H Q E h); (iterate 40 (try (obtain ⟨_, h⟩ := h))); (all_goals (subst_vars; rfl))))
local macro_rules | `(tactic| symm at $h:ident) => `(tactic| simp only [List.mem_cons,List.not_mem_nil,or_false] at $h:ident)
local macro_rules | `(tactic| left) => `(tactic| walk_at "")
local macro_rules | `(tactic| apply $e) => `(tactic| (walk_at ""; refine $e))
section
variable {P:FP} {w:F0} {K:W.Frag} {mg:Str->Option χ} {base:F6} {t:Ad}
noncomputable def c9 (i:Int):Bool:=decide (0<=i)&&decide (i<2)
def sp_aI:Sp:=fun vs H Q _=>∃ i,vs=[.int i]/\Q (.bl true) H
theorem ok_aI (T:Txt K mg t):aN P w K mg base CX0 1 t.f_aI t.d_aI ["value"] sp_aI:=by
 refine T.F_aI.ok sc_aI (by walk_at "l") (fun _ _ _ s H vs Q E hr h=>?_)
 ·obtain ⟨i,rfl,k⟩:=h;refine ⟨_,(ai (aA (gr (aw (bo K rfl) rfl T.no_bg (by rfl) (aa (pv 0) (aa (cu (v:=.ty "int") rfl T.no_int (by rfl:GD "int"=some (.type "int")) rfl) ae))) (iE (CZ (aw (bo K rfl) rfl T.no_bg (by rfl) (aa (pv 0) (aa (cu (v:=.ty "bool") rfl T.no_bool (by rfl:GD "bool"=some (.type "bool")) rfl) ae)))))))),?_⟩;apply cW (.int i) CM ?_;apply cW (.int i) CL ?_;left;exact k
def sp_ao:Sp:=fun vs H Q _=>∃ i b,vs=[.int i,.int b]/\Q (.bl (decide (0<=i)&&decide (i<b))) H
theorem ok_ao (T:Txt K mg t):aN P w K mg base CX0 2 t.f_ao t.d_ao ["value","bound"] sp_ao:=by
 refine T.F_ao.ok sc_ao (by walk_at "l") (fun _ _ _ s H vs Q E hr h=>?_)
 ·obtain ⟨i,b,rfl,k⟩:=h;refine ⟨_,(ai (aA (gr (aj (ok_aI T) (rmo hr) rfl T.mg_aI T.F_aI.kp T.b_aI .nil ao (aa (pv 0) ae)) (iE (yI qQ dP ag (pv 0) (pv 1)))))),?_⟩;apply ⟨i,rfl,?_⟩;apply jC (fun h0=>?_) (fun h0=>?_)
  ·left;rw [h0] at k;exact k
  ·rw [Li] at h0;rw [h0] at k;exact k
def sp_a9:Sp:=fun vs H Q _=>∃ i,vs=[.int i]/\Q (.bl (c9 i)) H
theorem ok_a9 (T:Txt K mg t):aN P w K mg base CX0 3 t.f_a9 t.d_a9 ["value"] sp_a9:=by
 refine T.F_a9.ok sc_a9 (by walk_at "l") (fun _ _ _ s H vs Q E hr h=>?_)
 ·obtain ⟨i,rfl,k⟩:=h;refine ⟨_,(ai (aA (aj (ok_ao T) (rmo hr) rfl T.mg_ao T.F_ao.kp T.b_ao .nil ao (aa (pv 0) (aa ag ae))))),?_⟩;left;exact ⟨i,2,rfl,k⟩
noncomputable def d8 (n:Int):Bool:=decide (0<n)&&decide (n<41)
def sp_aF:Sp:=fun vs H Q _=>∃ i,vs=[.int i]/\Q (.bl (d8 i)) H
theorem ok_aF (T:Txt K mg t):aN P w K mg base CX0 3 t.f_aF t.d_aF ["count"] sp_aF:=by
  refine T.F_aF.ok sc_aF (fun vs H Q E h=>?_) (fun cdv A outer s H vs Q E hr h=>?_)
  · obtain ⟨i,rfl,_⟩:=h; rfl
  · obtain ⟨i,rfl,k⟩:=h
    refine ⟨_,(ai (aA (gr (aj (ok_ao T) (rmo hr) rfl T.mg_ao T.F_ao.kp T.b_ao .nil ao (aa (pv 0) (aa (aB aR (uI (v:=.int 40) rfl T.mg_LONGEST_SIDE ⟨_,rfl⟩) ag) ae))) (iE (gu uF (pv 0) ag))))),?_⟩;apply ⟨i,_,rfl,?_⟩;apply jC (fun h0=>?_) (fun h0=>?_)
    · left
      have e:d8 i=decide (0<i):=by
        rw [GB,decide_eq_true_eq,decide_eq_true_eq] at h0;unfold d8;rw [aS (by omega:i<41),Ma]
      rw [e] at k;exact k
    · have e:d8 i=false:=by
        rw [GB,decide_eq_true_eq,decide_eq_true_eq] at h0;unfold d8;by_cases hi:0<i
        · rw [bA (by omega:¬ i<41),MI]
        · rw [bA hi,Bool.false_and]
      rw [e] at k;exact k
theorem rz {n:Nat}:d8 ((n:Int)+1)=decide (n<=39):=by
 unfold d8;rw [aS (by omega:(0:Int)<(n:Int)+1),Bool.true_and];exact decide_eq_decide.mpr (by omega)
def sp_aE:Sp:=fun vs H Q _=>∃ (p:Δ) (ns:List Int),vs=[.ref p]/\H p=some (.lst (ns.map V.int))/\ns.length<=1000/\∀ H',ah H H'->Q (.bl (ns.all c9)) H'
theorem ok_aE (T:Txt K mg t):aN P w K mg base CX0 4 t.f_aE t.d_aE ["values"] sp_aE:=by
 refine T.F_aE.ok sc_aE (by walk_at "l") (fun _ _ _ s H vs Q E hr h=>?_)
 ·obtain ⟨p,ns,rfl,hp,hl,k⟩:=h;refine ⟨_,(ai (aA (aw (kA K rfl rfl) rfl T.no_all (by rfl) (aa (bP (N:=["value"]) (cap:=[none]) rfl ⟨rfl,rfl,rfl,rfl,rfl,rfl⟩ (bQ (pv 0)) (fun _ _ _=>(aK (i:=0) (show (["value"]:List Str).Nodup by decide +kernel) rfl (GJ rfl))) (fun _ _ _=>cw) (fun _ _ _=>(aj (ok_a9 T) (rmo hr) rfl T.mg_a9 T.F_a9.kp T.b_a9 .nil ao (aa (pv 0) ae)))) ae)))),?_⟩;apply ⟨⟨_,SqL.of hp⟩,fun l hn=>?_⟩;refine iA (fun v=>match v with | .int i=>.bl (c9 i) | _=>.non) (SqL.of hp) (by rw [Θ]; exact hl) hn (fun x o H' Q' hx s1 q=>?_) (fun H' s1 e=>?_)
  ·obtain ⟨i,_,rfl⟩:=F1.mp hx;left;exact ⟨i,rfl,q H' (ah.refl _)⟩
  ·left;have e':H' l=some (.lst ((ns.map c9).map V.bl)):=by rw [e,GF,GF]; rfl
   refine lK e' ?_;rw [List.all_map];exact k H' s1
noncomputable def bfl (a b:Δ) (w h:Int):List (Str×V):=eg "row_bits" (.ref b) (eg "col_bits" (.ref a) (eg "rows_count" (.int h) (eg "columns_count" (.int w) [])))
noncomputable def cfl (s:Int) (a b:Δ) (w h:Int):List (Str×V):=eg "first_colour" (.int s) (bfl a b w h)
abbrev NoF (m:Str):Prop:=((¬ m="first_colour")/\¬ m="col_bits")/\(¬ m="row_bits")/\(¬ m="columns_count")/\¬ m="rows_count"
theorem DM {w h:Int} (a b:Δ):(bfl a b w h).lookup ("columns_count":Str)=some (.int w):=by
 unfold bfl; rw [aL,if_neg (by decide +kernel),aL,if_neg (by decide +kernel),aL,if_neg (by decide +kernel),aL,if_pos rfl]
theorem DK {w h:Int} (a b:Δ):(bfl a b w h).lookup ("rows_count":Str)=some (.int h):=by
 unfold bfl; rw [aL,if_neg (by decide +kernel),aL,if_neg (by decide +kernel),aL,if_pos rfl]
theorem DJ {w h:Int} (a b:Δ):(bfl a b w h).lookup ("col_bits":Str)=some (.ref a):=by
 unfold bfl; rw [aL,if_neg (by decide +kernel),aL,if_pos rfl]
theorem DL {w h:Int} (a b:Δ):(bfl a b w h).lookup ("row_bits":Str)=some (.ref b):=by
 unfold bfl; rw [aL,if_pos rfl]
theorem Cq {w h:Int} (a b:Δ) {m:Str} (n:NoF m):(bfl a b w h).lookup m=none:=by
 obtain ⟨⟨n1,n2⟩,n3,n4,n5⟩:=n;unfold bfl; rw [aL,if_neg n3,aL,if_neg n2,aL,if_neg n5,aL,if_neg n4]; rfl
theorem BU {w h:Int} (s:Int) (a b:Δ):(cfl s a b w h).lookup ("first_colour":Str)=some (.int s):=by
 unfold cfl; rw [aL,if_pos rfl]
theorem DO {w h:Int} (s:Int) (a b:Δ):(cfl s a b w h).lookup ("columns_count":Str)=some (.int w):=by
 unfold cfl; rw [aL,if_neg (by decide +kernel),DM]
theorem DN {w h:Int} (s:Int) (a b:Δ):(cfl s a b w h).lookup ("rows_count":Str)=some (.int h):=by
 unfold cfl; rw [aL,if_neg (by decide +kernel),DK]
theorem xG {w h:Int} (s:Int) (a b:Δ):(cfl s a b w h).lookup ("col_bits":Str)=some (.ref a):=by
 unfold cfl; rw [aL,if_neg (by decide +kernel),DJ]
theorem xH {w h:Int} (s:Int) (a b:Δ):(cfl s a b w h).lookup ("row_bits":Str)=some (.ref b):=by
 unfold cfl; rw [aL,if_neg (by decide +kernel),DL]
theorem bM {w h:Int} (s:Int) (a b:Δ) {m:Str} (n:NoF m):(cfl s a b w h).lookup m=none:=by
 unfold cfl; rw [aL,if_neg n.1.1,Cq _ _ n]
structure ud (C:Δ) (H:Hp) (p:Δ) (w h:Int) (cs rs:List Int):Prop where
 ob:∃ dx a b,H p=some (.ins C dx (bfl a b w h))/\H a=some (.tup (cs.map V.int))/\H b=some (.tup (rs.map V.int))
structure aF (C:Δ) (H:Hp) (p:Δ) (s:Int) (cs rs:List Int):Prop where
 ob:∃ dx a b,H p=some (.ins C dx (cfl s a b ((cs.length:Int)+1) ((rs.length:Int)+1)))/\H a=some (.tup (cs.map V.int))/\H b=some (.tup (rs.map V.int))
theorem aF.mono {C:Δ} {H H':Hp} {p:Δ} {s:Int} {cs rs:List Int} (e:ah H H') (c:aF C H p s cs rs):aF C H' p s cs rs:=by
 obtain ⟨dx,a,b,h1,h2,h3⟩:=c.ob;exact ⟨dx,a,b,e _ _ h1,e _ _ h2,e _ _ h3⟩
def bC (l:List Int):Prop:=l.length<=39/\∀ z∈l,z=0\/z=1
theorem bC.all {l:List Int} (h:bC l):l.all c9=true:=by
 rw [Ht];intro z hz;rcases h.2 z hz with rfl | rfl<;>rfl
def kT (H:Hp) (p:Δ) (H':Hp):Prop:=∀ b o,H b=some o->b≠p->H' b=some o
noncomputable def fb (s:Int) (cs rs:List Int):Bool:=c9 s&&(cs.all c9&&rs.all c9)
theorem bC.ok {s:Int} {cs rs:List Int} (hs:s=0\/s=1) (bc:bC cs) (br:bC rs):fb s cs rs=true:=by
 unfold fb;rw [bc.all,br.all];rcases hs with rfl | rfl<;>rfl
def mP (C BB:Δ):Sp:=fun vs H Q E=>∃ (p dx c r:Δ) (w h:Int) (cs rs:List Int),vs=[.ref p,.int w,.int h,.ref c,.ref r]/\H p=some (.ins C dx [])/\H c=some (.lst (cs.map V.int))/\H r=some (.lst (rs.map V.int)) /\
 cs.length<=1000/\rs.length<=1000/\(((cs.all c9&&rs.all c9)=false/\∀ H',ah H H'->E (.ref BB) none H') \/
  ((cs.all c9&&rs.all c9)=true/\∀ H',kT H p H'->ud C H' p w h cs rs->Q .non H'))
theorem okx_aA (T:Txt K mg t):aN P w K mg base (CX1 P w) 5 t.f_aA t.d_aA ["self","wide","tall","cols","rows"] (mP t.a_aa t.a_a2):=by
 refine T.F_aA.ok1 sc_aA (by walk_at "l") (fun _ _ _ s H vs Q E hr h=>?_)
 ·obtain ⟨p,dx,c,r,wd,ht,cs,rs,rfl,hp,hc,hr',lc,lr,k⟩:=h;refine aJ (aO (bX (PW.pt (fS (aZ (aj (ok_aE T).up (rmo hr) rfl T.mg_aE T.F_aE.kp T.b_aE .nil ck (aa (pv 3) ae))) (dQ (aZ (aj (ok_aE T).up (rmo hr) rfl T.mg_aE T.F_aE.kp T.b_aE .nil ck (aa (pv 4) ae))))))) (ai (cY T.mg_a2 T.x_a2 GR rfl rfl (fun _ _ _ _ _ _ _ _ I m q=>gP I m q) (aa bh ae))) aC) fun _ _=>aJ (lI (pv 0) (pv 1) rfl) fun _ _=>aJ (lI (pv 0) (pv 2) rfl) fun _ _=>aJ (lI (pv 0) (cF (ng K rfl) rfl T.no_aN (by rfl) (aa (pv 3) ae)) rfl) fun _ _=>cM (lI (pv 0) (cF (ng K rfl) rfl T.no_aN (by rfl) (aa (pv 4) ae)) rfl) fun _ _=>?_;apply ⟨c,cs,rfl,hc,lc,fun H1 s1=>?_⟩
  cases b2:cs.all c9 with
  | false =>
   apply ⟨by show 1<=E4; decide,?_⟩;rcases k with ⟨_,e⟩ | ⟨y,_⟩
   ·exact e _ s1
   ·rw [b2] at y; cases y
  | true =>
   apply ⟨r,rs,rfl,s1 _ _ hr',lr,fun H2 s2=>?_⟩;have s12:=s1.trans s2
   cases b3:rs.all c9 with
   | false =>
    apply ⟨by show 1<=E4; decide,?_⟩;rcases k with ⟨_,e⟩ | ⟨y,_⟩
    ·exact e _ s12
    ·rw [b2,b3] at y; cases y
   | true =>
    left
    have k:∀ H',kT H p H'->ud t.a_aa H' p wd ht cs rs->Q .non H':=by
     rcases k with ⟨y,_⟩ | ⟨_,z⟩
     ·rw [b2,b3] at y; cases y
     ·exact z
    have npc:c≠p:=cA hc hp (by intro z; cases z);have npr:r≠p:=cA hr' hp (by intro z; cases z);refine gz (s12 _ _ hp) T.cl_aa T.na_columns_count (by show 0<1000; decide) ?_;apply gz af T.cl_aa T.na_rows_count (Fz (bq _ _ _) (by show 1<1000; decide)) ?_;rw [BK];apply nF (by rw [ar npc]; exact s12 _ _ hc) fun a ha=>?_;have pa:p≠a:=by intro z; subst z; rw [af] at ha; cases ha
    apply gz (by rw [ar pa,af]) T.cl_aa T.na_col_bits (Fz (bq _ _ _) (Fz (Gv (bq _ _ _)) (by show 2<1000; decide))) ?_;left;have ra:r≠a:=by intro z; subst z; rw [ar npr,s12 _ _ hr'] at ha; cases ha
    refine nF (by rw [ar npr,ar ra,ar npr]; exact s12 _ _ hr') fun b hb=>?_;have pb:p≠b:=by intro z; subst z; rw [af] at hb; cases hb
    have ab:a≠b:=by intro z; subst z; rw [ar pa.symm,af] at hb; cases hb
    apply gz (by rw [ar pb,af]) T.cl_aa T.na_row_bits (Fz (bq _ _ _) (Fz (Gv (bq _ _ _)) (Fz (Gv (Gv (bq _ _ _))) (by show 3<1000; decide)))) ?_;apply k _ (fun x o e hx=>?_) ⟨⟨dx,a,b,af,?_,?_⟩⟩
    ·have e2:=s12 _ _ e;have xa:x≠a:=by intro z; subst z; rw [ar hx,e2] at ha; cases ha
     have xb:x≠b:=by intro z; subst z; rw [ar hx,ar xa,ar hx,e2] at hb; cases hb
     rw [ar hx,ar xb,ar hx,ar xa,ar hx];exact e2
    ·rw [ar pa.symm,ar ab,ar pa.symm,af]
    ·rw [ar pb.symm,af]
def mQ (C BS BB:Δ):Sp:=fun vs H Q E=>∃ (p dx c r:Δ) (s:Int) (cs rs:List Int),vs=[.ref p,.int s,.ref c,.ref r]/\H p=some (.ins C dx [])/\H c=some (.lst (cs.map V.int))/\H r=some (.lst (rs.map V.int)) /\
 cs.length<=1000/\rs.length<=1000/\((¬ (cs.length<=39/\rs.length<=39)/\E (.ref BS) none H)\/((cs.length<=39/\rs.length<=39)/\fb s cs rs=false/\∀ H',kT H p H'->E (.ref BB) none H') \/
  ((cs.length<=39/\rs.length<=39)/\fb s cs rs=true/\∀ H',kT H p H'->aF C H' p s cs rs->Q .non H'))
theorem okx_ak (T:Txt K mg t):aN P w K mg base (CX1 P w) 6 t.f_ak t.d_ak ["self","shade","cols","rows"] (mQ t.a_aa t.a_aY t.a_a2):=by
 refine T.F_ak.ok1 sc_ak (by walk_at "l") (fun _ _ _ s H vs Q E hr h=>?_)
 ·obtain ⟨p,dx,c,r,s,cs,rs,rfl,hp,hc,hr',lc,lr,k⟩:=h;refine aJ (aO (bX (PW.pt (fS (aZ (aj (ok_aF T).up (rmo hr) rfl T.mg_aF T.F_aF.kp T.b_aF .nil ck (aa (aB aR (aw (aU K rfl) rfl T.no_len (by rfl) (aa (pv 2) ae)) ag) ae))) (dQ (aZ (aj (ok_aF T).up (rmo hr) rfl T.mg_aF T.F_aF.kp T.b_aF .nil ck (aa (aB aR (aw (aU K rfl) rfl T.no_len (by rfl) (aa (pv 3) ae)) ag) ae))))))) (ai (cY T.mg_aY T.x_aY GR rfl rfl (fun _ _ _ _ _ _ _ _ I m q=>gP I m q) (aa bh ae))) aC) fun _ _=>aJ (aO (bX (aZ (aj (ok_a9 T).up (rmo hr) rfl T.mg_a9 T.F_a9.kp T.b_a9 .nil ck (aa (pv 1) ae)))) (ai (cY T.mg_a2 T.x_a2 GR rfl rfl (fun _ _ _ _ _ _ _ _ I m q=>gP I m q) (aa bh ae))) aC) fun _ _=>aJ (bg (yG rfl T.mg_bj T.cf_aA (okx_aA T) (rmo hr) T.b_aA .nil ck (aa (pv 0) (aa (aB aR (aw (aU K rfl) rfl T.no_len (by rfl) (aa (pv 2) ae)) ag) (aa (aB aR (aw (aU K rfl) rfl T.no_len (by rfl) (aa (pv 3) ae)) ag) (aa (pv 2) (aa (pv 3) ae))))))) fun _ _=>cM (lI (pv 0) (pv 1) rfl) fun _ _=>?_;apply aV hc ?_;apply ⟨_,rfl,?_⟩;rw [Θ,rz];have sz:(¬ (cs.length<=39/\rs.length<=39)->E (.ref t.a_aY) none H):=fun n=>by
   rcases k with ⟨_,e⟩ | ⟨z,_⟩ | ⟨z,_⟩
   ·exact e
   ·exact absurd z n
   ·exact absurd z n
  by_cases c1:cs.length<=39
  ·rw [aS c1];apply aV hr' ?_;apply ⟨_,rfl,?_⟩;rw [Θ,rz];by_cases c2:rs.length<=39
   ·rw [aS c2];left
    have k:(fb s cs rs=false/\∀ H',kT H p H'->E (.ref t.a_a2) none H')\/(fb s cs rs=true/\∀ H',kT H p H'->aF t.a_aa H' p s cs rs->Q .non H'):=by
     rcases k with ⟨z,_⟩ | ⟨_,z⟩ | ⟨_,z⟩
     ·exact absurd ⟨c1,c2⟩ z
     ·exact .inl z
     ·exact .inr z
    have bad:∀ H',fb s cs rs=false->ah H H'->E (.ref t.a_a2) none H':=fun H' z sm=>by
     rcases k with ⟨_,e⟩ | ⟨y,_⟩
     ·exact e H' fun b o eb _=>sm b o eb
     ·rw [z] at y; cases y
    refine ⟨s,rfl,?_⟩
    cases b1:c9 s with
    | false =>
     apply ⟨by show 1<=E4; decide,?_⟩;exact bad _ (by unfold fb; rw [b1]; rfl) (ah.refl _)
    | true =>
     apply aV hc ?_;apply aV hr' ?_;left;rw [Θ,Θ];refine ⟨p,dx,c,r,_,_,cs,rs,rfl,hp,hc,hr',lc,lr,?_⟩
     cases b2:(cs.all c9&&rs.all c9) with
     | false=>exact .inl ⟨rfl,fun H' s1=>bad _ (by unfold fb; rw [b2,MI]) s1⟩
     | true =>
      refine .inr ⟨rfl,fun H' kp ⟨dx',a,b,h1,h2,h3⟩=>?_⟩
      have k:∀ H',kT H p H'->aF t.a_aa H' p s cs rs->Q .non H':=by
       rcases k with ⟨y,_⟩ | ⟨_,z⟩
       ·unfold fb at y; rw [b1,b2] at y; cases y
       ·exact z
      apply gz h1 T.cl_aa T.na_first_colour (by unfold bfl; exact Fz (bq _ _ _) (Fz (Gv (bq _ _ _)) (Fz (Gv (Gv (bq _ _ _))) (Fz (Gv (Gv (Gv (bq _ _ _)))) (by show 4<1000; decide))))) ?_;left;have pa:a≠p:=cA h2 h1 (by intro z; cases z);have pb:b≠p:=cA h3 h1 (by intro z; cases z);refine k _ (fun x o e hx=>?_) ⟨⟨dx',a,b,af,?_,?_⟩⟩
      ·rw [ar hx]; exact kp x o e hx
      ·rw [ar pa]; exact h2
      ·rw [ar pb]; exact h3
   ·rw [bA c2];left;exact ⟨by show 1<=E4; decide,sz fun z=>c2 z.2⟩
  ·rw [bA c1];left;exact ⟨by show 1<=E4; decide,sz fun z=>c1 z.1⟩
def sp_ak (C:Δ):Sp:=fun vs H Q _=>∃ (p dx c r:Δ) (s:Int) (cs rs:List Int),vs=[.ref p,.int s,.ref c,.ref r]/\H p=some (.ins C dx [])/\H c=some (.lst (cs.map V.int))/\H r=some (.lst (rs.map V.int)) /\
 (s=0\/s=1)/\bC cs/\bC rs/\∀ H',(∀ b o,H b=some o->b≠p->H' b=some o)->aF C H' p s cs rs->Q .non H'
theorem ok_ak (T:Txt K mg t):aN P w K mg base CX0 6 t.f_ak t.d_ak ["self","shade","cols","rows"] (sp_ak t.a_aa) :=
 (okx_ak T).down fun vs H Q E hh=>by
  obtain ⟨p,dx,c,r,s,cs,rs,e,hp,hc,hr,hs,bc,br,k⟩:=hh;exact ⟨p,dx,c,r,s,cs,rs,e,hp,hc,hr,by have:=bc.1; omega,by have:=br.1; omega,.inr (.inr ⟨⟨bc.1,br.1⟩,bC.ok hs bc br,k⟩)⟩
def sp_ac (C:Δ):Sp:=fun vs H Q _=>∃ (p:Δ) (s:Int) (cs rs:List Int),vs=[.ref p]/\aF C H p s cs rs/\Q (.int ((cs.length:Int)+1)) H
theorem ok_ac (T:Txt K mg t):aN P w K mg base CX0 1 t.f_ac t.d_ac ["self"] (sp_ac t.a_aa):=by
 refine T.F_ac.ok sc_ac (by walk_at "l") (fun _ _ _ s H vs Q E hr h=>?_)
 ·obtain ⟨p,s,cs,rs,rfl,⟨dx,a,b,h1,h2,h3⟩,k⟩:=h;refine ⟨_,(ai (aA (dB K rfl (pv 0) rfl))),?_⟩;apply dC h1 T.cl_aa T.na_columns_count (DO _ _ _) ?_;left;exact k
def sp_ai (C:Δ):Sp:=fun vs H Q _=>∃ (p:Δ) (s:Int) (cs rs:List Int),vs=[.ref p]/\aF C H p s cs rs/\Q (.int ((rs.length:Int)+1)) H
theorem ok_ai (T:Txt K mg t):aN P w K mg base CX0 1 t.f_ai t.d_ai ["self"] (sp_ai t.a_aa):=by
 refine T.F_ai.ok sc_ai (by walk_at "l") (fun _ _ _ s H vs Q E hr h=>?_)
 ·obtain ⟨p,s,cs,rs,rfl,⟨dx,a,b,h1,h2,h3⟩,k⟩:=h;refine ⟨_,(ai (aA (dB K rfl (pv 0) rfl))),?_⟩;apply dC h1 T.cl_aa T.na_rows_count (DN _ _ _) ?_;left;exact k
def gc (w:Str) (cs rs bs:List Int):Prop:=(w="col"/\bs=cs)\/(w="row"/\bs=rs)
theorem zd:¬ (("row":Str)="col"):=by decide +kernel
def iP (C NL:Δ):Sp:=fun vs H Q E=>∃ (p:Δ) (w:Str) (s:Int) (cs rs:List Int),vs=[.ref p,.str w]/\aF C H p s cs rs /\
 ((∃ bs,gc w cs rs bs/\∀ a,H a=some (.tup (bs.map V.int))->Q (.ref a) H)\/(¬ w="col"/\¬ w="row"/\E (.ref NL) none H))
theorem okx_ag (T:Txt K mg t):aN P w K mg base (CX1 P w) 1 t.f_ag t.d_ag ["self","way"] (iP t.a_aa t.a_a6):=by
 refine T.F_ag.ok1 sc_ag (by walk_at "l") (fun _ _ _ s H vs Q E hr h=>?_)
 ·obtain ⟨p,w,s,cs,rs,rfl,⟨dx,a,b,h1,h2,h3⟩,hw⟩:=h;refine aJ (aO (aW b8 (pv 1) bh) (ai (aA (dB K rfl (pv 0) rfl))) aC) fun _ _=>aJ (aO (aW b8 (pv 1) bh) (ai (aA (dB K rfl (pv 0) rfl))) aC) fun _ _=>cM (cY T.mg_a6 T.x_a6 GR rfl rfl (fun _ _ _ _ _ _ _ _ I m q=>gP I m q) (aa bh ae)) fun _ _=>?_;left;rcases hw with ⟨bs,⟨rfl,rfl⟩ | ⟨rfl,rfl⟩,k⟩ | ⟨n1,n2,k⟩
  ·rw [aS (rfl:("col":Str)="col")];apply dC h1 T.cl_aa T.na_col_bits (xG _ _ _) ?_;left;exact k a h2
  ·rw [bA zd];left;rw [aS (rfl:("row":Str)="row")];apply dC h1 T.cl_aa T.na_row_bits (xH _ _ _) ?_;left;exact k b h3
  ·rw [bA n1];left;rw [bA n2];left;exact ⟨by show 1<=E4; decide,k⟩
def DI (w:Str) (k:Int) (cs rs:List Int):Prop:=(¬ w="col"/\¬ w="row")\/∃ bs,gc w cs rs bs/\¬ (0<=k/\k<bs.length)
def pY (C NL:Δ):Sp:=fun vs H Q E=>∃ (p:Δ) (w:Str) (k s:Int) (cs rs:List Int),vs=[.ref p,.str w,.int k]/\aF C H p s cs rs /\
 ((∃ bs,gc w cs rs bs/\0<=k/\k<bs.length/\Q (.int (bs.getD k.toNat 0)) H)\/(DI w k cs rs/\E (.ref NL) none H))
theorem okx_ap (T:Txt K mg t):aN P w K mg base (CX1 P w) 3 t.f_ap t.d_ap ["self","way","k"] (pY t.a_aa t.a_a6):=by
 refine T.F_ap.ok1 sc_ap (by walk_at "l") (fun _ _ _ s H vs Q E hr h=>?_)
 ·obtain ⟨p,w,k,s,cs,rs,rfl,hc,h⟩:=h;obtain ⟨dx,a,b,e1,e2,e3⟩:=hc.ob;refine aJ (aM 3 sc_ap.nd (eU (pv 0) T.cl_aa T.m_ag (okx_ag T) (rmo hr) T.b_ag .nil ck (aa (pv 1) ae))) fun _ _=>aJ (aO (bX (aZ (aj (ok_ao T).up (rmo hr) rfl T.mg_ao T.F_ao.kp T.b_ao .nil ck (aa (pv 2) (aa (aw (aU K rfl) rfl T.no_len (by rfl) (aa (pv 3) ae)) ae))))) (ai (cY T.mg_a6 T.x_a6 GR rfl rfl (fun _ _ _ _ _ _ _ _ I m q=>gP I m q) (aa bh ae))) aC) fun _ _=>cM (aA (aD (aY K rfl) (pv 3) (pv 2))) fun _ _=>?_;apply au e1 (bM _ _ _ (by decide +kernel)) ?_;left;rcases h with ⟨bs,hw,h0,h1,q⟩ | ⟨⟨n1,n2⟩ | ⟨bs,hw,hn⟩,q⟩
  ·refine ⟨p,w,s,cs,rs,rfl,hc,.inl ⟨bs,hw,fun z hz=>?_⟩⟩;apply kJ hz ?_;apply ⟨k,_,rfl,?_⟩;rw [Θ,aS h0,aS h1];apply bu (SqT.of hz) (aT h0 h1) ?_;exact q
  ·exact ⟨p,w,s,cs,rs,rfl,hc,.inr ⟨n1,n2,q⟩⟩
  ·refine ⟨p,w,s,cs,rs,rfl,hc,.inl ⟨bs,hw,fun z hz=>?_⟩⟩;apply kJ hz ?_;apply ⟨k,_,rfl,?_⟩;rw [Θ]
   have e:(decide (0<=k)&&decide (k<(bs.length:Int)))=false:=by
    rw [Bool.eq_false_iff];intro z;rw [GB,decide_eq_true_eq,decide_eq_true_eq] at z;exact hn z
   rw [e];left;exact ⟨by show 1<=E4; decide,q⟩
def sp_ap (C:Δ):Sp:=fun vs H Q _=>∃ (p:Δ) (w:Str) (k s:Int) (cs rs bs:List Int),vs=[.ref p,.str w,.int k]/\aF C H p s cs rs/\gc w cs rs bs/\0<=k/\k<bs.length/\Q (.int (bs.getD k.toNat 0)) H
theorem ok_ap (T:Txt K mg t):aN P w K mg base CX0 3 t.f_ap t.d_ap ["self","way","k"] (sp_ap t.a_aa) :=
 (okx_ap T).down fun vs H Q E hh=>by
  obtain ⟨p,w,k,s,cs,rs,bs,e,hc,hw,h0,h1,q⟩:=hh;exact ⟨p,w,k,s,cs,rs,e,hc,.inl ⟨bs,hw,h0,h1,q⟩⟩
theorem xy {l:List Int} (h:∀ z∈l,z=0\/z=1):0<=l.sum/\l.sum<=l.length:=by
 induction l with
 | nil=>exact ⟨Int.le_refl 0,Int.le_refl 0⟩
 | cons z r ih =>
  have:=ih fun y hy=>h y (Ξ _ hy)
  rw [List.sum_cons,EX];rcases h z θ with rfl | rfl<;>omega
theorem iy {l:List Int} (h:∀ z∈l,z=0\/z=1) (hl:l.length<=1000):fm l:=fun k hk=>by
 refine ⟨?_,fun n hn=>?_⟩
 ·have:=xy (l:=l.take k) fun z hz=>h z (Fp hz)
  rw [Fl] at this;unfold InLong;omega
 ·unfold InLong;rcases h n hn with rfl | rfl<;>decide
theorem jy {zs:List Int} {x:Int} (h:0<=x):di (zs.map V.int) none (some x)=(zs.take x.toNat).map V.int:=by
 obtain ⟨k,rfl⟩:∃ k:Nat,x=(k:Int):=⟨x.toNat,by omega⟩
 unfold di;rw [HT.gB,HT.gU,IJ,M7,F9,<- MV]
 congr 1
 rw [Θ];rcases LU k zs.length with h | h
 ·rw [G2 h]
 ·rw [KO h,FG (BE _),FG h]
def AF (x y:Int) (cs rs:List Int):Prop:=(0<=x/\x<(cs.length:Int)+1)/\0<=y/\y<(rs.length:Int)+1
def pZ (C NC:Δ):Sp:=fun vs H Q E=>∃ (p:Δ) (x y s:Int) (cs rs:List Int),vs=[.ref p,.int x,.int y]/\aF C H p s cs rs/\((AF x y cs rs/\Q .non H)\/(¬ AF x y cs rs/\E (.ref NC) none H))
theorem kq {x b:Int} (h:0<=x/\x<b):(decide (0<=x)&&decide (x<b))=true:=by rw [aS h.1,aS h.2]; rfl
theorem gQ {x b:Int} (h:¬ (0<=x/\x<b)):(decide (0<=x)&&decide (x<b))=false:=by
 rw [Bool.eq_false_iff];intro z;rw [GB,decide_eq_true_eq,decide_eq_true_eq] at z;exact h z
theorem okx_aJ (T:Txt K mg t):aN P w K mg base (CX1 P w) 3 t.f_aJ t.d_aJ ["board","x","y"] (pZ t.a_aa t.a_bb):=by
 refine T.F_aJ.ok1 sc_aJ (by walk_at "l") (fun _ _ _ s H vs Q E hr h=>?_)
 ·obtain ⟨p,x,y,s,cs,rs,rfl,hc,h⟩:=h;obtain ⟨dx,a,b,e1,e2,e3⟩:=hc.ob;have nl:∀ {w h:Int} {m:Str},NoF m->(cfl s a b w h).lookup m=none:=fun x=>bM _ _ _ x;refine ⟨_,(ai (aO (PW.pt (jk (bX (aZ (aj (ok_ao T).up (rmo hr) rfl T.mg_ao T.F_ao.kp T.b_ao .nil ck (aa (pv 1) (aa (aE (pv 0) T.cl_aa T.m_ac (ok_ac T).up (rmo hr) T.b_ac .nil ck) ae))))) (gy (bX (aZ (aj (ok_ao T).up (rmo hr) rfl T.mg_ao T.F_ao.kp T.b_ao .nil ck (aa (pv 2) (aa (aE (pv 0) T.cl_aa T.m_ai (ok_ai T).up (rmo hr) T.b_ai .nil ck) ae)))))))) (ai (cY T.mg_bb T.x_bb GR rfl rfl (fun _ _ _ _ _ _ _ _ I m q=>gP I m q) (aa bh ae))) aC)),?_⟩;apply au e1 (nl (by decide +kernel)) ?_;apply ⟨p,s,cs,rs,rfl,hc,?_⟩;apply ⟨x,_,rfl,?_⟩;by_cases hx:0<=x/\x<(cs.length:Int)+1
  ·rw [kq hx];apply au e1 (nl (by decide +kernel)) ?_;apply ⟨p,s,cs,rs,rfl,hc,?_⟩;apply ⟨y,_,rfl,?_⟩;by_cases hy:0<=y/\y<(rs.length:Int)+1
   ·rw [kq hy];left;rcases h with ⟨_,q⟩ | ⟨n,_⟩
    ·exact q
    ·exact absurd ⟨hx,hy⟩ n
   ·rw [gQ hy];left;rcases h with ⟨n,_⟩ | ⟨_,q⟩
    ·exact absurd n.2 hy
    ·exact ⟨by show 1<=E4; decide,q⟩
  ·rw [gQ hx];left;rcases h with ⟨n,_⟩ | ⟨_,q⟩
   ·exact absurd n.1 hx
   ·exact ⟨by show 1<=E4; decide,q⟩
noncomputable def bW (s:Int) (cs rs:List Int) (x y:Int):Int:=(s+((cs.take x.toNat).sum+(rs.take y.toNat).sum+x*y))%2
def kl (C NC:Δ):Sp:=fun vs H Q E=>∃ (p:Δ) (x y s:Int) (cs rs:List Int),vs=[.ref p,.int x,.int y]/\aF C H p s cs rs/\bC cs/\bC rs /\
 ((AF x y cs rs/\∀ H',ah H H'->Q (.int (bW s cs rs x y)) H')\/(¬ AF x y cs rs/\E (.ref NC) none H))
theorem okx_af (T:Txt K mg t):aN P w K mg base (CX1 P w) 4 t.f_af t.d_af ["self","x","y"] (kl t.a_aa t.a_bb):=by
 refine T.F_af.ok1 sc_af (by walk_at "l") (fun _ _ _ s H vs Q E hr h=>?_)
 ·obtain ⟨p,x,y,s,cs,rs,rfl,hc,bc,br,h⟩:=h;obtain ⟨dx,a,b,e1,e2,e3⟩:=hc.ob;refine aJ (bg (aj (okx_aJ T) (rmo hr) rfl T.mg_aJ T.F_aJ.kp T.b_aJ .nil ck (aa (pv 0) (aa (pv 1) (aa (pv 2) ae))))) fun _ _=>aJ (aM 3 sc_af.nd (aB aR (aB aR (aw (kB K rfl rfl) rfl T.no_sum (by rfl) (aa (b9 (uZ K rfl) (dB K rfl (pv 0) rfl) de (bE (pv 1))) ae)) (aw (kB K rfl rfl) rfl T.no_sum (by rfl) (aa (b9 (uZ K rfl) (dB K rfl (pv 0) rfl) de (bE (pv 2))) ae))) (aB fN (pv 1) (pv 2)))) fun _ _=>cM (aA (aB bF (aB aR (dB K rfl (pv 0) rfl) (pv 3)) ag)) fun _ _=>?_;left;rcases h with ⟨i,k⟩ | ⟨n,q⟩
  ·obtain ⟨⟨x0,x1⟩,y0,y1⟩:=id i;refine ⟨p,x,y,s,cs,rs,rfl,hc,.inl ⟨i,?_⟩⟩;apply dC e1 T.cl_aa T.na_col_bits (xG _ _ _) ?_;apply zx e2 fun H1 u s1 hu=>?_;rw [jy x0] at hu;apply uW hu (iy (fun z hz=>bc.2 z (Fp hz)) (by rw [Fl]; have:=bc.1; omega)) ?_;apply dC (s1 _ _ e1) T.cl_aa T.na_row_bits (xH _ _ _) ?_;apply zx (s1 _ _ e3) fun H2 v s2 hv=>?_;rw [jy y0] at hv;apply uW hv (iy (fun z hz=>br.2 z (Fp hz)) (by rw [Fl]; have:=br.1; omega)) ?_;apply bR (.inl ⟨by omega,by have:=bc.1; omega⟩) ?_;apply dC (s2 _ _ (s1 _ _ e1)) T.cl_aa T.na_first_colour (BU _ _ _) ?_;apply bR (by decide) ?_;exact k H2 (s1.trans s2)
  ·exact ⟨p,x,y,s,cs,rs,rfl,hc,.inr ⟨n,q⟩⟩
def sp_af (C:Δ):Sp:=fun vs H Q _=>∃ (p:Δ) (x y s:Int) (cs rs:List Int),vs=[.ref p,.int x,.int y]/\aF C H p s cs rs/\bC cs/\bC rs/\0<=x/\x<cs.length+1/\0<=y/\y<rs.length+1 /\
 ∀ H',ah H H'->Q (.int (bW s cs rs x y)) H'
theorem ok_af (T:Txt K mg t):aN P w K mg base CX0 4 t.f_af t.d_af ["self","x","y"] (sp_af t.a_aa) :=
 (okx_af T).down fun vs H Q E hh=>by
  obtain ⟨p,x,y,s,cs,rs,e,hc,bc,br,x0,x1,y0,y1,k⟩:=hh;exact ⟨p,x,y,s,cs,rs,e,hc,bc,br,.inl ⟨⟨⟨x0,x1⟩,y0,y1⟩,k⟩⟩
def EB (w:Str) (k st:Int) (cs rs:List Int):Prop:=∃ bs os,gc w cs rs bs/\gc w rs cs os/\0<=k/\k<bs.length/\¬ (0<=st/\st<(os.length:Int)+1)
def ju (C NL NS:Δ):Sp:=fun vs H Q E=>∃ (p:Δ) (w:Str) (k st s:Int) (cs rs:List Int),vs=[.ref p,.str w,.int k,.int st]/\aF C H p s cs rs /\
 ((∃ bs os,gc w cs rs bs/\gc w rs cs os/\0<=k/\k<bs.length/\0<=st/\st<os.length+1/\Q (.bl (decide ((st+bs.getD k.toNat 0)%2=1))) H)\/(DI w k cs rs/\E (.ref NL) none H)\/(EB w k st cs rs/\E (.ref NS) none H))
theorem okx_ab (T:Txt K mg t):aN P w K mg base (CX1 P w) 4 t.f_ab t.d_ab ["self","way","k","step"] (ju t.a_aa t.a_a6 t.a_bd):=by
 refine T.F_ab.ok1 sc_ab (by walk_at "l") (fun _ _ _ s H vs Q E hr h=>?_)
 ·obtain ⟨p,w,k,st,s,cs,rs,rfl,hc,h⟩:=h;obtain ⟨dx,a,b,e1,e2,e3⟩:=hc.ob;have nl:∀ {w h:Int} {m:Str},NoF m->(cfl s a b w h).lookup m=none:=fun x=>bM _ _ _ x;refine aJ (aM 4 sc_ab.nd (eU (pv 0) T.cl_aa T.m_ap (okx_ap T) (rmo hr) T.b_ap .nil ck (aa (pv 1) (aa (pv 2) ae)))) fun _ _=>aJ (aM 5 sc_ab.nd (qU (aW b8 (pv 1) bh) (aE (pv 0) T.cl_aa T.m_ai (ok_ai T).up (rmo hr) T.b_ai .nil ck) (aE (pv 0) T.cl_aa T.m_ac (ok_ac T).up (rmo hr) T.b_ac .nil ck))) fun _ _=>aJ (aO (bX (aZ (aj (ok_ao T).up (rmo hr) rfl T.mg_ao T.F_ao.kp T.b_ao .nil ck (aa (pv 3) (aa (pv 5) ae))))) (ai (cY T.mg_bd T.x_bd GR rfl rfl (fun _ _ _ _ _ _ _ _ I m q=>gP I m q) (aa bh ae))) aC) fun _ _=>cM (aA (gu b8 (aB bF (aB aR (pv 3) (pv 4)) ag) ag)) fun _ _=>?_;apply au e1 (nl (by decide +kernel)) ?_;left;rcases h with ⟨bs,os,hw,ho,h0,h1,g0,g1,q⟩ | ⟨n,q⟩ | ⟨⟨bs,os,hw,ho,h0,h1,hn⟩,q⟩
  ·refine ⟨p,w,k,s,cs,rs,rfl,hc,.inl ⟨bs,hw,h0,h1,?_⟩⟩;left;rcases ho with ⟨rfl,rfl⟩ | ⟨rfl,rfl⟩
   ·rw [aS (rfl:("col":Str)="col")];apply au e1 (nl (by decide +kernel)) ?_;apply ⟨p,s,cs,_,rfl,hc,?_⟩;apply ⟨st,_,rfl,?_⟩;rw [aS g0,aS g1];apply bR (by decide) ?_;left;exact q
   ·rw [bA zd];apply au e1 (nl (by decide +kernel)) ?_;apply ⟨p,s,_,rs,rfl,hc,?_⟩;apply ⟨st,_,rfl,?_⟩;rw [aS g0,aS g1];apply bR (by decide) ?_;left;exact q
  ·exact ⟨p,w,k,s,cs,rs,rfl,hc,.inr ⟨n,q⟩⟩
  ·refine ⟨p,w,k,s,cs,rs,rfl,hc,.inl ⟨bs,hw,h0,h1,?_⟩⟩;left;rcases ho with ⟨rfl,rfl⟩ | ⟨rfl,rfl⟩
   ·rw [aS (rfl:("col":Str)="col")];apply au e1 (nl (by decide +kernel)) ?_;apply ⟨p,s,cs,_,rfl,hc,?_⟩;apply ⟨st,_,rfl,?_⟩;rw [gQ hn];left;exact ⟨by show 1<=E4; decide,q⟩
   ·rw [bA zd];apply au e1 (nl (by decide +kernel)) ?_;apply ⟨p,s,_,rs,rfl,hc,?_⟩;apply ⟨st,_,rfl,?_⟩;rw [gQ hn];left;exact ⟨by show 1<=E4; decide,q⟩
def sp_ab (C:Δ):Sp:=fun vs H Q _=>∃ (p:Δ) (w:Str) (k st s:Int) (cs rs bs os:List Int),vs=[.ref p,.str w,.int k,.int st]/\aF C H p s cs rs/\gc w cs rs bs/\gc w rs cs os/\0<=k/\k<bs.length/\0<=st/\st<os.length+1 /\
 Q (.bl (decide ((st+bs.getD k.toNat 0)%2=1))) H
theorem ok_ab (T:Txt K mg t):aN P w K mg base CX0 4 t.f_ab t.d_ab ["self","way","k","step"] (sp_ab t.a_aa) :=
 (okx_ab T).down fun vs H Q E hh=>by
  obtain ⟨p,w,k,st,s,cs,rs,bs,os,e,hc,hw,ho,h0,h1,g0,g1,q⟩:=hh;exact ⟨p,w,k,st,s,cs,rs,e,hc,.inl ⟨bs,os,hw,ho,h0,h1,g0,g1,q⟩⟩
def sp_ad (C:Δ):Sp:=fun vs H Q _=>∃ (p:Δ) (s:Int) (cs rs:List Int),vs=[.ref p]/\aF C H p s cs rs/\Q (.int s) H
theorem ok_ad (T:Txt K mg t):aN P w K mg base CX0 1 t.f_ad t.d_ad ["self"] (sp_ad t.a_aa):=by
 refine T.F_ad.ok sc_ad (by walk_at "l") (fun _ _ _ s H vs Q E hr h=>?_)
 ·obtain ⟨p,s,cs,rs,rfl,⟨dx,a,b,h1,h2,h3⟩,k⟩:=h;refine ⟨_,(ai (aA (dB K rfl (pv 0) rfl))),?_⟩;apply dC h1 T.cl_aa T.na_first_colour (BU _ _ _) ?_;exact k
def sp_ah (C:Δ):Sp:=fun vs H Q _=>∃ (p:Δ) (s:Int) (cs rs:List Int),vs=[.ref p]/\aF C H p s cs rs/\∀ l,H l=none->Q (.ref l) (upd H l (.lst (cs.map V.int)))
theorem ok_ah (T:Txt K mg t):aN P w K mg base CX0 1 t.f_ah t.d_ah ["self"] (sp_ah t.a_aa):=by
 refine T.F_ah.ok sc_ah (by walk_at "l") (fun _ _ _ s H vs Q E hr h=>?_)
 ·obtain ⟨p,s,cs,rs,rfl,⟨dx,a,b,h1,h2,h3⟩,k⟩:=h;refine ⟨_,(ai (aA (cF (iW K rfl) rfl T.no_list (by rfl) (aa (dB K rfl (pv 0) rfl) ae)))),?_⟩;apply dC h1 T.cl_aa T.na_col_bits (xG _ _ _) ?_;left;exact ri h2 k
def sp_ae (C:Δ):Sp:=fun vs H Q _=>∃ (p:Δ) (s:Int) (cs rs:List Int),vs=[.ref p]/\aF C H p s cs rs/\∀ l,H l=none->Q (.ref l) (upd H l (.lst (rs.map V.int)))
theorem ok_ae (T:Txt K mg t):aN P w K mg base CX0 1 t.f_ae t.d_ae ["self"] (sp_ae t.a_aa):=by
 refine T.F_ae.ok sc_ae (by walk_at "l") (fun _ _ _ s H vs Q E hr h=>?_)
 ·obtain ⟨p,s,cs,rs,rfl,⟨dx,a,b,h1,h2,h3⟩,k⟩:=h;refine ⟨_,(ai (aA (cF (iW K rfl) rfl T.no_list (by rfl) (aa (dB K rfl (pv 0) rfl) ae)))),?_⟩;apply dC h1 T.cl_aa T.na_row_bits (xH _ _ _) ?_;left;exact ri h3 k
def sp_a5 (C:Δ):Sp:=fun vs H Q _=>∃ (p q:Δ) (s s':Int) (cs rs cs' rs':List Int),vs=[.ref p,.ref q]/\aF C H p s cs rs/\aF C H q s' cs' rs'/\∀ H',ah H H'->Q (.bl (decide (s=s')&&(decide (cs=cs')&&decide (rs=rs')))) H'
theorem ok_a5 (T:Txt K mg t):aN P w K mg base CX0 2 t.f_a5 t.d_a5 ["one","other"] (sp_a5 t.a_aa):=by
 refine T.F_a5.ok sc_a5 (by walk_at "l") (fun _ _ _ s H vs Q E hr h=>?_)
 ·obtain ⟨p,q,s,s',cs,rs,cs',rs',rfl,hp,hq,k⟩:=h;obtain ⟨dx,a,b,h1,h2,h3⟩:=hp.ob;obtain ⟨dx',a',b',g1,g2,g3⟩:=hq.ob;refine ⟨_,(ai (aA (gr (gu b8 (aE (pv 0) T.cl_aa T.m_ad (ok_ad T) (rmo hr) T.b_ad .nil ao) (aE (pv 1) T.cl_aa T.m_ad (ok_ad T) (rmo hr) T.b_ad .nil ao)) (gr (gu (jG hr.units) (aE (pv 0) T.cl_aa T.m_ah (ok_ah T) (rmo hr) T.b_ah .nil ao) (aE (pv 1) T.cl_aa T.m_ah (ok_ah T) (rmo hr) T.b_ah .nil ao)) (iE (gu (jG hr.units) (aE (pv 0) T.cl_aa T.m_ae (ok_ae T) (rmo hr) T.b_ae .nil ao) (aE (pv 1) T.cl_aa T.m_ae (ok_ae T) (rmo hr) T.b_ae .nil ao))))))),?_⟩;apply au h1 (bM _ _ _ (by decide +kernel)) ?_;apply ⟨p,s,cs,rs,rfl,hp,?_⟩;apply au g1 (bM _ _ _ (by decide +kernel)) ?_;apply ⟨q,s',cs',rs',rfl,hq,?_⟩;apply jC (fun c1=>?_) (fun c1=>?_)
  ·rw [c1] at k;apply au h1 (bM _ _ _ (by decide +kernel)) ?_;apply ⟨p,s,cs,rs,rfl,hp,fun l1 n1=>?_⟩;have s1:=ah.new (o:=HO.lst (cs.map V.int)) n1;apply au (s1 _ _ g1) (bM _ _ _ (by decide +kernel)) ?_;apply ⟨q,s',cs',rs',rfl,hq.mono s1,fun l2 n2=>?_⟩;have s2:=ah.new (o:=HO.lst (cs'.map V.int)) n2;apply nE (s2 _ _ af) af ?_;left;have s12:=s1.trans s2;refine jC (fun c2=>?_) (fun c2=>?_)
   ·rw [c2] at k;apply au (s12 _ _ h1) (bM _ _ _ (by decide +kernel)) ?_;apply ⟨p,s,cs,rs,rfl,hp.mono s12,fun l3 n3=>?_⟩;have s3:=ah.new (o:=HO.lst (rs.map V.int)) n3;apply au (s3 _ _ (s12 _ _ g1)) (bM _ _ _ (by decide +kernel)) ?_;apply ⟨q,s',cs',rs',rfl,(hq.mono s12).mono s3,fun l4 n4=>?_⟩;have s4:=ah.new (o:=HO.lst (rs'.map V.int)) n4;apply nE (s4 _ _ af) af ?_;exact k _ (s12.trans (s3.trans s4))
   ·rw [Li] at c2;rw [c2] at k;exact k _ s12
  ·rw [Li] at c1;rw [c1] at k;exact k _ (ah.refl _)
end
section
theorem bf {n:Nat} (h:n<2000):n<sizeLine:=FI h (by decide)
def Pt (H:Hp) (v:V) (q:Int×Int):Prop:=∃ a,v=.ref a/\H a=some (.tup [.int q.1,.int q.2])
theorem Pt.mono {H H':Hp} {v:V} {q:Int×Int} (s:ah H H') (h:Pt H v q):Pt H' v q:=by
 obtain ⟨a,rfl,ha⟩:=h;exact ⟨a,rfl,s _ _ ha⟩
theorem Pt.upd {H:Hp} {v:V} {q:Int×Int} {l:Δ} {u o:HO} (h:Pt H v q) (e:H l=some u) (ne:∀ ys,HO.tup ys≠u):Pt (upd H l o) v q:=by
 obtain ⟨a,rfl,ha⟩:=h;exact ⟨a,rfl,by rw [ar (cA ha e (ne _))]; exact ha⟩
def aH (H:Hp) (xs:List V) (ps:List (Int×Int)):Prop:=xs.length=ps.length/\∀ (i:Nat) v q,xs[i]?=some v->ps[i]?=some q->Pt H v q
theorem aH.mono {H H':Hp} {xs:List V} {ps:List (Int×Int)} (s:ah H H') (h:aH H xs ps):aH H' xs ps:=⟨h.1,fun i v q h1 h2=>(h.2 i v q h1 h2).mono s⟩
theorem aH.upd {H:Hp} {xs:List V} {ps:List (Int×Int)} {l:Δ} {u o:HO} (h:aH H xs ps) (e:H l=some u) (ne:∀ ys,HO.tup ys≠u):aH (upd H l o) xs ps:=⟨h.1,fun i v q h1 h2=>(h.2 i v q h1 h2).upd e ne⟩
theorem aH.nil {H:Hp}:aH H [] []:=⟨rfl,fun i v q h=>by simp at h⟩
theorem aH.cons {H:Hp} {v:V} {q:Int×Int} {xs:List V} {ps:List (Int×Int)} (h1:Pt H v q) (h:aH H xs ps):aH H (v::xs) (q::ps):=by
 refine ⟨by rw [EX,EX,h.1],fun i v' q' e1 e2=>?_⟩
 cases i with
 | zero=>simp only [HZ,IL] at e1 e2; rw [<- e1,<- e2]; exact h1
 | succ i=>simp only [KH] at e1 e2; exact h.2 i v' q' e1 e2
theorem aH.inv {H:Hp} {xs:List V} {p:Int×Int} {ps:List (Int×Int)} (h:aH H xs (p::ps)):∃ v r,xs=v::r/\Pt H v p/\aH H r ps:=by
 match xs,h with
 | [],h=>have:=h.1; simp at this
 | v::r,h=>exact ⟨v,r,rfl,h.2 0 v p rfl rfl,by have:=h.1; simp only [EX] at this; omega,fun i v' q' e1 e2=>h.2 (i+1) v' q' (by simpa using e1) (by simpa using e2)⟩
theorem aH.snoc {H:Hp} {xs:List V} {ps:List (Int×Int)} {v:V} {q:Int×Int} (h:aH H xs ps) (hv:Pt H v q):aH H (xs++[v]) (ps++[q]):=by
 refine ⟨by rw [BG,BG,h.1]; rfl,fun i v' q' h1 h2=>?_⟩;by_cases hi:i<xs.length
 ·rw [GK hi] at h1;rw [GK (by rw [<- h.1]; exact hi)] at h2;exact h.2 i v' q' h1 h2
 ·rw [F4 (by omega)] at h1;rw [F4 (by rw [<- h.1]; omega),<- h.1] at h2
  cases hk:i - xs.length with
  | zero =>
   rw [hk] at h1 h2;simp only [HZ,IL] at h1 h2;rw [<- h1,<- h2]; exact hv
  | succ k => rw [hk] at h1; simp at h1
noncomputable def cV (H:Hp):V->Int×Int
 | .ref a=>match H a with
  | some (.tup [.int x, .int y]) => (x, y)
  | _ => (0, 0)
 | _=>(0,0)
theorem Pt.of {H:Hp} {v:V} {q:Int×Int} (h:Pt H v q):cV H v=q:=by
 obtain ⟨a,rfl,ha⟩:=h;simp only [cV,ha]
theorem aH.map:∀ {H:Hp} {xs:List V} {ps:List (Int×Int)},aH H xs ps->xs.map (cV H)=ps
 | H,[],[],_=>rfl
 | H,[],_::_,h=>by have:=h.1; simp at this
 | H,_::_,[],h=>by have:=h.1; simp at this
 | H,v::xs,p::ps,h=>by
  obtain ⟨v',r,e,h1,h2⟩:=h.inv
  cases e;rw [Fg,h1.of,h2.map]
theorem aH.mem {H:Hp} {xs:List V} {ps:List (Int×Int)} (h:aH H xs ps):∀ v∈xs,Pt H v (cV H v):=by
 intro v hv;obtain ⟨i,hi⟩:=GS.mp hv;have hl:i<ps.length:=by rw [<- h.1]; exact (C_.mp hi).1
 have:=h.2 i v _ hi (Ω hl)
 rw [this.of]; exact this
theorem uO {H:Hp}:∀ {xs:List V},(∀ v∈xs,Pt H v (cV H v))->aH H xs (xs.map (cV H))
 | [],_=>aH.nil
 | v::xs,h=>aH.cons (h v θ) (uO fun v hv=>h v (Ξ _ hv))
theorem yS {p q:Int×Int} (h1:Ts.ple p q) (h2:Ts.ple q p):p=q:=by
 unfold Ts.ple at h1 h2;exact G5 (by omega) (by omega)
theorem uJ:∀ {l1 l2:List (Int×Int)},l1.Perm l2->l1.Pairwise Ts.ple->l2.Pairwise Ts.ple->l1=l2
 | [],l2,h,_,_=>(List.nil_perm.mp h).symm ▸ rfl
 | x::l1,[],h,_,_=>by have:=h.length_eq; simp at this
 | x::l1,y::l2,h,s1,s2=>by
  have e:x=y:=by
   have hx:x∈y::l2:=h.mem_iff.mp θ;have hy:y∈x::l1:=h.mem_iff.mpr θ;rcases BF.mp hx with e | hx
   ·exact e
   ·rcases BF.mp hy with e | hy
    ·exact e.symm
    ·exact yS ((IT.mp s1).1 y hy) ((IT.mp s2).1 x hx)
  subst e;rw [uJ (List.perm_cons _ |>.mp h) (IT.mp s1).2 (IT.mp s2).2]
theorem wm {K:W.Frag} {a:Δ} {xs:List V} {ps qs:List (Int×Int)} {H:Hp} {Q:VK} (e:H a=some (.lst xs)) (h:aH H xs ps) (hq:qs.Perm ps) (hs:qs.Pairwise Ts.ple)
  (k:∀ (l:Δ) (ys:List V),H l=none->aH (L2.upd H l (.lst ys)) ys qs->Q (.ref l) (L2.upd H l (.lst ys))):zb K [.ref a] H Q:=by
 refine zy (cV H) e (fun v hv=>h.mem v hv) fun l ys hn hp hw=>k l ys hn ?_;have m:aH H ys (ys.map (cV H)):=uO fun v hv=>h.mem v (hp.mem_iff.mp hv);have e2:ys.map (cV H)=qs:=uJ (((hp.map (cV H)).trans (NH h.map)).trans hq.symm) (Hz.mpr hw) hs;rw [e2] at m;exact m.mono (ah.new hn)
end
section
variable {P:FP} {w:F0} {K:W.Frag} {mg:Str->Option χ} {base:F6} {t:Ad}
noncomputable def rt (cs rs:List Int) (x y:Int):Bool:=decide (0<y)&&decide (y<(rs.length:Int)+1)&&decide (0<=x)&&decide (x<(cs.length:Int)+1)&&decide ((x+rs.getD (y - 1).toNat 0)%2=1)
noncomputable def ups (cs rs:List Int) (x y:Int):Bool:=decide (0<x)&&decide (x<(cs.length:Int)+1)&&decide (0<=y)&&decide (y<(rs.length:Int)+1)&&decide ((y+cs.getD (x - 1).toNat 0)%2=1)
def sp_as (C:Δ):Sp:=fun vs H Q _=>∃ (p:Δ) (x y s:Int) (cs rs:List Int),vs=[.ref p,.int x,.int y]/\aF C H p s cs rs/\Q (.bl (rt cs rs x y)) H
theorem ok_as (T:Txt K mg t):aN P w K mg base CX0 5 t.f_as t.d_as ["cloth","x","y"] (sp_as t.a_aa):=by
 refine T.F_as.ok sc_as (by walk_at "l") (fun _ _ _ s H vs Q E hr h=>?_)
 ·obtain ⟨p,x,y,s,cs,rs,rfl,hc,q⟩:=h;obtain ⟨dx,a,b,e1,e2,e3⟩:=hc.ob;have nl:∀ {w h:Int} {m:Str},NoF m->(cfl s a b w h).lookup m=none:=fun x=>bM _ _ _ x;refine ⟨_,(aQ (aO (PW.pt (fS (dG dP dP ag (pv 2) (aE (pv 0) T.cl_aa T.m_ai (ok_ai T) (rmo hr) T.b_ai .nil ao)) (dQ (dG qQ dP ag (pv 1) (aE (pv 0) T.cl_aa T.m_ac (ok_ac T) (rmo hr) T.b_ac .nil ao))))) (ai (aA (eU (pv 0) T.cl_aa T.m_ab (ok_ab T) (rmo hr) T.b_ab .nil ao (aa bh (aa (aB cq (pv 2) ag) (aa (pv 1) ae)))))) aC) (ai (aA dE))),?_⟩;unfold rt at q;left;by_cases c1:0<y
  ·rw [aS c1] at q ⊢;apply au e1 (nl (by decide +kernel)) ?_;apply ⟨p,s,cs,rs,rfl,hc,?_⟩;left;by_cases c2:y<(rs.length:Int)+1
   ·rw [aS c2] at q ⊢;left;by_cases c3:0<=x
    ·rw [aS c3] at q ⊢;apply au e1 (nl (by decide +kernel)) ?_;apply ⟨p,s,cs,rs,rfl,hc,?_⟩;left;by_cases c4:x<(cs.length:Int)+1
     ·rw [aS c4] at q ⊢;apply au e1 (nl (by decide +kernel)) ?_;left;exact ⟨p,"row",y - 1,x,s,cs,rs,rs,cs,rfl,hc,.inr ⟨rfl,rfl⟩,.inr ⟨rfl,rfl⟩,by omega,by omega,c3,c4,q⟩
     ·rw [bA c4] at q ⊢;left;exact q
    ·rw [bA c3] at q ⊢;left;exact q
   ·rw [bA c2] at q ⊢;left;exact q
  ·rw [bA c1] at q ⊢;left;exact q
def sp_aV (C:Δ):Sp:=fun vs H Q _=>∃ (p:Δ) (x y s:Int) (cs rs:List Int),vs=[.ref p,.int x,.int y]/\aF C H p s cs rs/\Q (.bl (ups cs rs x y)) H
theorem ok_aV (T:Txt K mg t):aN P w K mg base CX0 5 t.f_aV t.d_aV ["cloth","x","y"] (sp_aV t.a_aa):=by
 refine T.F_aV.ok sc_aV (by walk_at "l") (fun _ _ _ s H vs Q E hr h=>?_)
 ·obtain ⟨p,x,y,s,cs,rs,rfl,hc,q⟩:=h;obtain ⟨dx,a,b,e1,e2,e3⟩:=hc.ob;have nl:∀ {w h:Int} {m:Str},NoF m->(cfl s a b w h).lookup m=none:=fun x=>bM _ _ _ x;refine ⟨_,(aQ (aO (PW.pt (fS (dG dP dP ag (pv 1) (aE (pv 0) T.cl_aa T.m_ac (ok_ac T) (rmo hr) T.b_ac .nil ao)) (dQ (dG qQ dP ag (pv 2) (aE (pv 0) T.cl_aa T.m_ai (ok_ai T) (rmo hr) T.b_ai .nil ao))))) (ai (aA (eU (pv 0) T.cl_aa T.m_ab (ok_ab T) (rmo hr) T.b_ab .nil ao (aa bh (aa (aB cq (pv 1) ag) (aa (pv 2) ae)))))) aC) (ai (aA dE))),?_⟩;unfold ups at q;left;by_cases c1:0<x
  ·rw [aS c1] at q ⊢;apply au e1 (nl (by decide +kernel)) ?_;apply ⟨p,s,cs,rs,rfl,hc,?_⟩;left;by_cases c2:x<(cs.length:Int)+1
   ·rw [aS c2] at q ⊢;left;by_cases c3:0<=y
    ·rw [aS c3] at q ⊢;apply au e1 (nl (by decide +kernel)) ?_;apply ⟨p,s,cs,rs,rfl,hc,?_⟩;left;by_cases c4:y<(rs.length:Int)+1
     ·rw [aS c4] at q ⊢;apply au e1 (nl (by decide +kernel)) ?_;left;exact ⟨p,"col",x - 1,y,s,cs,rs,cs,rs,rfl,hc,.inl ⟨rfl,rfl⟩,.inl ⟨rfl,rfl⟩,by omega,by omega,c3,c4,q⟩
     ·rw [bA c4] at q ⊢;left;exact q
    ·rw [bA c3] at q ⊢;left;exact q
   ·rw [bA c2] at q ⊢;left;exact q
  ·rw [bA c1] at q ⊢;left;exact q
noncomputable def nb (cs rs:List Int) (q:Int×Int):List (Int×Int) :=
 (if rt cs rs (q.1 - 1) q.2=true then [(q.1 - 1,q.2)] else [])++(if ups cs rs q.1 (q.2 - 1)=true then [(q.1,q.2 - 1)] else [])++(if ups cs rs q.1 q.2=true then [(q.1,q.2+1)] else [])++(if rt cs rs q.1 q.2=true then [(q.1+1,q.2)] else [])
def dD (cs rs:List Int) (q:Int×Int):Prop:=(0<=q.1/\q.1<(cs.length:Int)+1+1)/\0<=q.2/\q.2<(rs.length:Int)+1+1
def tV (C NP:Δ):Sp:=fun vs H Q E=>∃ (p a:Δ) (q:Int×Int) (s:Int) (cs rs:List Int),vs=[.ref p,.ref a]/\aF C H p s cs rs/\H a=some (.tup [.int q.1,.int q.2]) /\
 ((dD cs rs q/\∀ l xs H',ah H H'->H l=none->H' l=some (.lst xs)->aH H' xs (nb cs rs q)->Q (.ref l) H')\/(¬ dD cs rs q/\E (.ref NP) none H))
theorem okx_av (T:Txt K mg t):aN P w K mg base (CX1 P w) 6 t.f_av t.d_av ["cloth","point"] (tV t.a_aa t.a_a1):=by
 refine T.F_av.ok1 sc_av (by walk_at "l") (fun _ _ _ s H vs Q E hr h=>?_)
 ·obtain ⟨p,a,⟨x,y⟩,s,cs,rs,rfl,hc,ha,h⟩:=h;dsimp only at ha;obtain ⟨dx,a1,b1,e1,e2,e3⟩:=hc.ob;have nl:∀ {w h:Int} {m:Str},NoF m->(cfl s a1 b1 w h).lookup m=none:=fun x=>bM _ _ _ x;refine aJ (aM 2 sc_av.nd (aD (aY K rfl) (pv 1) ag)) fun _ _=>aJ (aM 3 sc_av.nd (aD (aY K rfl) (pv 1) ag)) fun _ _=>aJ (aO (PW.pt (jk (bX (aZ (aj (ok_ao T).up (rmo hr) rfl T.mg_ao T.F_ao.kp T.b_ao .nil ck (aa (pv 2) (aa (aB aR (aE (pv 0) T.cl_aa T.m_ac (ok_ac T).up (rmo hr) T.b_ac .nil ck) ag) ae))))) (gy (bX (aZ (aj (ok_ao T).up (rmo hr) rfl T.mg_ao T.F_ao.kp T.b_ao .nil ck (aa (pv 3) (aa (aB aR (aE (pv 0) T.cl_aa T.m_ai (ok_ai T).up (rmo hr) T.b_ai .nil ck) ag) ae)))))))) (ai (cY T.mg_a1 T.x_a1 GR rfl rfl (fun _ _ _ _ _ _ _ _ I m q=>gP I m q) (aa bh ae))) aC) fun _ _=>aJ (aM 4 sc_av.nd (bT ae)) fun _ _=>aJ (cv (aO (aZ (aj (ok_as T).up (rmo hr) rfl T.mg_as T.F_as.kp T.b_as .nil ck (aa (pv 0) (aa (aB cq (pv 2) ag) (aa (pv 3) ae))))) (ai (bg (cL FF FW FU a8 (pv 4) (aa (bJ (aa (aB cq (pv 2) ag) (aa (pv 3) ae))) ae)))) aC)) fun _ _=>aJ (cv (aO (aZ (aj (ok_aV T).up (rmo hr) rfl T.mg_aV T.F_aV.kp T.b_aV .nil ck (aa (pv 0) (aa (pv 2) (aa (aB cq (pv 3) ag) ae))))) (ai (bg (cL FF FW FU a8 (pv 4) (aa (bJ (aa (pv 2) (aa (aB cq (pv 3) ag) ae))) ae)))) aC)) fun _ _=>aJ (cv (aO (aZ (aj (ok_aV T).up (rmo hr) rfl T.mg_aV T.F_aV.kp T.b_aV .nil ck (aa (pv 0) (aa (pv 2) (aa (pv 3) ae))))) (ai (bg (cL FF FW FU a8 (pv 4) (aa (bJ (aa (pv 2) (aa (aB aR (pv 3) ag) ae))) ae)))) aC)) fun _ _=>aJ (cv (aO (aZ (aj (ok_as T).up (rmo hr) rfl T.mg_as T.F_as.kp T.b_as .nil ck (aa (pv 0) (aa (pv 2) (aa (pv 3) ae))))) (ai (bg (cL FF FW FU a8 (pv 4) (aa (bJ (aa (aB aR (pv 2) ag) (aa (pv 3) ae))) ae)))) aC)) fun _ _=>cM (aA (pv 4)) fun _ _=>?_;apply bu (SqT.of ha) (v:=.int x) rfl ?_;apply bu (SqT.of ha) (v:=.int y) rfl ?_;apply au e1 (nl (by decide +kernel)) ?_;apply ⟨p,s,cs,rs,rfl,hc,?_⟩;apply ⟨x,_,rfl,?_⟩;by_cases hx:0<=x/\x<(cs.length:Int)+1+1
  ·rw [kq hx];apply au e1 (nl (by decide +kernel)) ?_;apply ⟨p,s,cs,rs,rfl,hc,?_⟩;apply ⟨y,_,rfl,?_⟩;by_cases hy:0<=y/\y<(rs.length:Int)+1+1
   ·rw [kq hy];left;rcases h with ⟨_,h⟩ | ⟨n,_⟩
    ·refine ⟨Fi _,fun l n1=>?_⟩;have s1:=ah.new (o:=HO.lst []) n1;have f1:=af (H:=H) (a:=l) (o:=HO.lst []);generalize upd H l (HO.lst [])=H1 at s1 f1 ⊢;obtain ⟨xs,f1,w1,lx⟩:∃ xs,H1 l=some (.lst xs)/\aH H1 xs []/\xs.length<=0:=⟨[],f1,aH.nil,BE 0⟩
     apply cx (fun σ' H'=>∃ xs,σ'=[some (.ref p),some (.ref a),some (.int x),some (.int y),some (.ref l)]/\ah H H'/\H' l=some (.lst xs)/\xs.length<=1/\aH H' xs ([]++(if rt cs rs (x - 1) y=true then [(x - 1,y)] else []))) ?_ ?_
     ·apply ⟨p,x - 1,y,s,cs,rs,rfl,hc.mono s1,?_⟩;left;by_cases c:rt cs rs (x - 1) y=true
      ·rw [if_pos c];apply bN f1 ?_;apply ⟨by show 2<=E4; decide,fun b hb=>?_⟩;have sb:=ah.new (o:=HO.tup [V.int (x - 1),V.int y]) hb;apply a9 (sb _ _ f1) (bf (by omega)) ?_;refine ⟨_,rfl,(s1.trans sb).later n1,af,by rw [BG,FA]; omega,?_⟩;rw [if_pos c];exact ((w1.mono sb).upd (sb _ _ f1) (by intro ys z; cases z)).snoc (Pt.upd (q:=(x - 1,y)) ⟨b,rfl,af⟩ (sb _ _ f1) (by intro ys z; cases z))
      ·rw [if_neg c];apply ⟨_,rfl,s1,f1,by omega,?_⟩;rw [if_neg c,FH];exact w1
     ·clear s1 f1 w1 lx;rintro σ' H1 ⟨xs,rfl,s1,f1,lx,w1⟩;apply cx (fun σ' H'=>∃ xs,σ'=[some (.ref p),some (.ref a),some (.int x),some (.int y),some (.ref l)]/\ah H H'/\H' l=some (.lst xs)/\xs.length<=2/\aH H' xs ([]++(if rt cs rs (x - 1) y=true then [(x - 1,y)] else [])++(if ups cs rs x (y - 1)=true then [(x,y - 1)] else []))) ?_ ?_
      ·apply ⟨p,x,y - 1,s,cs,rs,rfl,hc.mono s1,?_⟩;left;by_cases c:ups cs rs x (y - 1)=true
       ·rw [if_pos c];apply bN f1 ?_;apply ⟨by show 2<=E4; decide,fun b hb=>?_⟩;have sb:=ah.new (o:=HO.tup [V.int x,V.int (y - 1)]) hb;apply a9 (sb _ _ f1) (bf (by omega)) ?_;refine ⟨_,rfl,(s1.trans sb).later n1,af,by rw [BG,FA]; omega,?_⟩;rw [if_pos c];exact ((w1.mono sb).upd (sb _ _ f1) (by intro ys z; cases z)).snoc (Pt.upd (q:=(x,y - 1)) ⟨b,rfl,af⟩ (sb _ _ f1) (by intro ys z; cases z))
       ·rw [if_neg c];apply ⟨_,rfl,s1,f1,by omega,?_⟩;rw [if_neg c,FH];exact w1
      ·clear s1 f1 w1 lx;rintro σ' H1 ⟨xs,rfl,s1,f1,lx,w1⟩;apply cx (fun σ' H'=>∃ xs,σ'=[some (.ref p),some (.ref a),some (.int x),some (.int y),some (.ref l)]/\ah H H'/\H' l=some (.lst xs)/\xs.length<=3/\aH H' xs ([]++(if rt cs rs (x - 1) y=true then [(x - 1,y)] else [])++(if ups cs rs x (y - 1)=true then [(x,y - 1)] else [])++(if ups cs rs x y=true then [(x,y+1)] else []))) ?_ ?_
       ·apply ⟨p,x,y,s,cs,rs,rfl,hc.mono s1,?_⟩;left;by_cases c:ups cs rs x y=true
        ·rw [if_pos c];apply bN f1 ?_;apply ⟨by show 2<=E4; decide,fun b hb=>?_⟩;have sb:=ah.new (o:=HO.tup [V.int x,V.int (y+1)]) hb;apply a9 (sb _ _ f1) (bf (by omega)) ?_;refine ⟨_,rfl,(s1.trans sb).later n1,af,by rw [BG,FA]; omega,?_⟩;rw [if_pos c];exact ((w1.mono sb).upd (sb _ _ f1) (by intro ys z; cases z)).snoc (Pt.upd (q:=(x,y+1)) ⟨b,rfl,af⟩ (sb _ _ f1) (by intro ys z; cases z))
        ·rw [if_neg c];apply ⟨_,rfl,s1,f1,by omega,?_⟩;rw [if_neg c,FH];exact w1
       ·clear s1 f1 w1 lx;rintro σ' H1 ⟨xs,rfl,s1,f1,lx,w1⟩;apply cx (fun σ' H'=>∃ xs,σ'=[some (.ref p),some (.ref a),some (.int x),some (.int y),some (.ref l)]/\ah H H'/\H' l=some (.lst xs)/\xs.length<=4/\aH H' xs ([]++(if rt cs rs (x - 1) y=true then [(x - 1,y)] else [])++(if ups cs rs x (y - 1)=true then [(x,y - 1)] else [])++(if ups cs rs x y=true then [(x,y+1)] else [])++(if rt cs rs x y=true then [(x+1,y)] else []))) ?_ ?_
        ·apply ⟨p,x,y,s,cs,rs,rfl,hc.mono s1,?_⟩;left;by_cases c:rt cs rs x y=true
         ·rw [if_pos c];apply bN f1 ?_;apply ⟨by show 2<=E4; decide,fun b hb=>?_⟩;have sb:=ah.new (o:=HO.tup [V.int (x+1),V.int y]) hb;apply a9 (sb _ _ f1) (bf (by omega)) ?_;refine ⟨_,rfl,(s1.trans sb).later n1,af,by rw [BG,FA]; omega,?_⟩;rw [if_pos c];exact ((w1.mono sb).upd (sb _ _ f1) (by intro ys z; cases z)).snoc (Pt.upd (q:=(x+1,y)) ⟨b,rfl,af⟩ (sb _ _ f1) (by intro ys z; cases z))
         ·rw [if_neg c];apply ⟨_,rfl,s1,f1,by omega,?_⟩;rw [if_neg c,FH];exact w1
        ·clear s1 f1 w1 lx;rintro σ' H1 ⟨xs,rfl,s1,f1,lx,w1⟩;left;exact h l xs H1 s1 n1 f1 w1
    ·exact absurd ⟨hx,hy⟩ n
   ·rw [gQ hy];left;rcases h with ⟨n,_⟩ | ⟨_,q⟩
    ·exact absurd n.2 hy
    ·exact ⟨by show 1<=E4; decide,q⟩
  ·rw [gQ hx];left;rcases h with ⟨n,_⟩ | ⟨_,q⟩
   ·exact absurd n.1 hx
   ·exact ⟨by show 1<=E4; decide,q⟩
theorem uy (c:Bool) (q:Int×Int):(if c=true then [q] else []).length=if c=true then 1 else 0:=by cases c<;>rfl
theorem oF (cs rs:List Int) (q:Int×Int):(nb cs rs q).length<=4:=by
 unfold nb;simp only [BG,uy]
 repeat' split
 all_goals omega
def sp_av (C:Δ):Sp:=fun vs H Q _=>∃ (p a:Δ) (q:Int×Int) (s:Int) (cs rs:List Int),vs=[.ref p,.ref a]/\aF C H p s cs rs/\H a=some (.tup [.int q.1,.int q.2])/\dD cs rs q/\∀ l xs H',ah H H'->H l=none->H' l=some (.lst xs)->aH H' xs (nb cs rs q)->Q (.ref l) H'
theorem ok_av (T:Txt K mg t):aN P w K mg base CX0 6 t.f_av t.d_av ["cloth","point"] (sp_av t.a_aa) :=
 (okx_av T).down fun vs H Q E hh=>by
  obtain ⟨p,a,q,s,cs,rs,e,hc,ha,hi,k⟩:=hh;exact ⟨p,a,q,s,cs,rs,e,hc,ha,.inl ⟨hi,k⟩⟩
end
section
theorem qH {α:Type} [DecidableEq α]:∀ (a b:List α),a.Nodup->(∀ x∈a,x∈b)->a.length<=b.length
 | [],_,_,_=>Fi _
 | x::a,b,hn,hs=>by
  rw [Fb] at hn;have hx:=hs x θ;have ih:=qH a (b.erase x) hn.2 fun y hy=>by
   have:y≠x:=fun e=>hn.1 (e ▸ hy)
   exact (List.mem_erase_of_ne this).mpr (hs y (Ξ _ hy))
  rw [List.length_erase_of_mem hx] at ih;have:=List.length_pos_of_mem hx
  rw [EX];omega
theorem AK {c:Bool} {q r:Int×Int}:r∈(if c=true then [q] else [])↔c=true/\r=q:=by cases c<;>simp
theorem jE {cs rs:List Int} {q r:Int×Int}:r∈nb cs rs q↔(rt cs rs (q.1 - 1) q.2=true/\r=(q.1 - 1,q.2))\/(ups cs rs q.1 (q.2 - 1)=true/\r=(q.1,q.2 - 1))\/(ups cs rs q.1 q.2=true/\r=(q.1,q.2+1))\/(rt cs rs q.1 q.2=true/\r=(q.1+1,q.2)):=by
 unfold nb;simp only [E_,AK];constructor
 ·rintro (((h | h) | h) | h)
  ·exact .inl h
  ·exact .inr (.inl h)
  ·exact .inr (.inr (.inl h))
  ·exact .inr (.inr (.inr h))
 ·rintro (h | h | h | h)
  ·exact .inl (.inl (.inl h))
  ·exact .inl (.inl (.inr h))
  ·exact .inl (.inr h)
  ·exact .inr h
theorem oX {cs rs:List Int} {x y:Int}:rt cs rs x y=true↔0<y/\y<(rs.length:Int)+1/\0<=x/\x<(cs.length:Int)+1/\(x+rs.getD (y - 1).toNat 0)%2=1:=by
 unfold rt;simp only [GB,decide_eq_true_eq,and_assoc]
theorem kQ {cs rs:List Int} {x y:Int}:ups cs rs x y=true↔0<x/\x<(cs.length:Int)+1/\0<=y/\y<(rs.length:Int)+1/\(y+cs.getD (x - 1).toNat 0)%2=1:=by
 unfold ups;simp only [GB,decide_eq_true_eq,and_assoc]
theorem Dx {cs rs:List Int} {x y:Int} (h:rt cs rs (x - 1) y=true):rt cs rs x y=false:=by
 cases h2:rt cs rs x y with
 | false=>rfl
 | true=>have h:=oX.mp h; have h2:=oX.mp h2; omega
theorem BL {cs rs:List Int} {x y:Int} (h:ups cs rs x (y - 1)=true):ups cs rs x y=false:=by
 cases h2:ups cs rs x y with
 | false=>rfl
 | true=>have h:=kQ.mp h; have h2:=kQ.mp h2; omega
theorem dk (cs rs:List Int):Sm.Gr (nb cs rs):=by
 refine ⟨fun q=>?_,fun q=>?_,fun {a b} h=>?_,fun a h=>?_⟩
 ·unfold nb;obtain ⟨x,y⟩:=q;dsimp only;by_cases h1:rt cs rs (x - 1) y=true<;>by_cases h2:ups cs rs x (y - 1)=true<;>by_cases h3:ups cs rs x y=true<;>by_cases h4:rt cs rs x y=true <;>
   simp only [h1,h2,h3,h4,if_true,if_false,IX,G8,Fb,BF,FJ,or_false,Prod.mk.injEq,Io,F_,not_false_eq_true,and_true,true_and,not_or]<;>omega
 ·unfold nb;simp only [BG,uy];have h1:rt cs rs (q.1 - 1) q.2=true->rt cs rs q.1 q.2=false:=Dx;have h2:ups cs rs q.1 (q.2 - 1)=true->ups cs rs q.1 q.2=false:=BL;generalize rt cs rs (q.1 - 1) q.2=A at h1;generalize rt cs rs q.1 q.2=B at h1;generalize ups cs rs q.1 (q.2 - 1)=C at h2;generalize ups cs rs q.1 q.2=D at h2
  cases A<;>cases B<;>cases C<;>cases D<;>simp at h1 h2 ⊢
 ·have hb:=jE.mp h;clear h;refine jE.mpr ?_;rcases hb with ⟨h,rfl⟩ | ⟨h,rfl⟩ | ⟨h,rfl⟩ | ⟨h,rfl⟩
  ·exact .inr (.inr (.inr ⟨h,G5 (by dsimp only; omega) rfl⟩))
  ·exact .inr (.inr (.inl ⟨h,G5 rfl (by dsimp only; omega)⟩))
  ·exact .inr (.inl ⟨by dsimp only; rw [show a.2+1 - 1=a.2 by omega]; exact h,G5 rfl (by dsimp only; omega)⟩)
  ·exact .inl ⟨by dsimp only; rw [show a.1+1 - 1=a.1 by omega]; exact h,G5 (by dsimp only; omega) rfl⟩
 ·rcases jE.mp h with ⟨_,e⟩ | ⟨_,e⟩ | ⟨_,e⟩ | ⟨_,e⟩
  ·have:=congrArg MC e; dsimp only at this; omega
  ·have:=congrArg Prod.snd e; dsimp only at this; omega
  ·have:=congrArg Prod.snd e; dsimp only at this; omega
  ·have:=congrArg MC e; dsimp only at this; omega
theorem yk {cs rs:List Int} {q r:Int×Int} (h:r∈nb cs rs q):dD cs rs r:=by
 unfold dD;have hb:=jE.mp h;clear h;rcases hb with ⟨h,rfl⟩ | ⟨h,rfl⟩ | ⟨h,rfl⟩ | ⟨h,rfl⟩
 ·have:=oX.mp h; dsimp only at *; omega
 ·have:=kQ.mp h; dsimp only at *; omega
 ·have:=kQ.mp h; dsimp only at *; omega
 ·have:=oX.mp h; dsimp only at *; omega
theorem fH {cs rs:List Int}:∀ {a b:Int×Int} {l:List (Int×Int)},b∈nb cs rs a->Sm.Go (nb cs rs) a b l->∀ x∈b::l,dD cs rs x
 | a,b,[],hb,_,x,hx=>by rw [A_.mp hx]; exact yk hb
 | a,b,c::l,hb,g,x,hx=>by
  rcases BF.mp hx with e | hx
  ·rw [e]; exact yk hb
  ·exact fH (Sm.i6 g).1 g.2 x hx
theorem i0 {cs rs:List Int} (lc:cs.length<=39) (lr:rs.length<=39) {l:List (Int×Int)} (hn:l.Nodup) (hi:∀ q∈l,dD cs rs q):l.length<=1681:=by
 have:=qH l ((F3 1681).map fun k=>(((k / 41:Nat):Int),((k%41:Nat):Int))) hn fun q hq=>by
  obtain ⟨⟨a,b⟩,c,d⟩:=hi q hq;refine F1.mpr ⟨q.1.toNat*41+q.2.toNat,Ip.mpr (by omega),G5 ?_ ?_⟩
  ·dsimp only; omega
  ·dsimp only; omega
 rwa [Θ,Gg] at this
end
section
variable {P:FP} {w:F0} {K:W.Frag} {mg:Str->Option χ} {base:F6} {t:Ad}
theorem yl (cs rs:List Int) (q:Int×Int):(nb cs rs q).length<=2:=(dk cs rs).le2 q
theorem qu {H:Hp}:∀ {xs:List V} {ps:List (Int×Int)} {a:Int×Int},aH H xs ps->aH H (xs.filter fun v=>!decide (cV H v=a)) (ps.filter fun c=>!decide (c=a))
 | [],[],a,_=>aH.nil
 | [],_::_,_,h=>by have:=h.1; simp at this
 | _::_,[],_,h=>by have:=h.1; simp at this
 | v::xs,p::ps,a,h=>by
  obtain ⟨v',r,e,h1,h2⟩:=h.inv
  cases e;have:=qu (a:=a) h2
  by_cases c:p=a
  ·have e1:(!decide (cV H v=a))=false:=by rw [h1.of]; simp [c]
   have e2:(!decide (p=a))=false:=by simp [c]
   rw [Mj (by rw [e1]; simp),Mj (by rw [e2]; simp)];exact this
  ·have e1:(!decide (cV H v=a))=true:=by rw [h1.of]; simp [c]
   have e2:(!decide (p=a))=true:=by simp [c]
   rw [Mi (by rw [e1]),Mi (by rw [e2])];exact aH.cons h1 this
theorem eV {H:Hp} {xs:List V} {ps:List (Int×Int)} {q:Int×Int} (h:aH H xs (ps++[q])):∃ v,atI xs (-1)=some v/\Pt H v q:=by
 have hl:=h.1;rw [BG,FA] at hl;obtain ⟨ys,v,rfl⟩:∃ ys v,xs=ys++[v]:=⟨xs.dropLast,xs.getLast (fun e=>by rw [e] at hl; simp at hl),(GN _).symm⟩
 rw [BG,FA] at hl;refine ⟨v,xw ys v,h.2 ps.length v q (by rw [F4 (by omega),show ps.length - ys.length=0 by omega]; rfl) (by simp)⟩
theorem CB {a b h:Int×Int} {r m:List (Int×Int)} (e:r++[h]=b::m):∃ r0 z,a::r=r0++[z]/\Sm.fin a b m=(z,h):=by
 match m,e with
 | [],e =>
  have:r=[]:=by
   have:=congrArg Jd e
   rw [BG] at this;exact F2 (by simpa using this)
  subst this;simp only [IX,JT,and_true] at e;exact ⟨[],a,rfl,by rw [e]; rfl⟩
 | c::m,e =>
  obtain ⟨m0,z,hm⟩:∃ m0 z,c::m=m0++[z]:=⟨(c::m).dropLast,(c::m).getLast (by simp),(GN _).symm⟩
  rw [hm] at e ⊢;rw [<- G8] at e;have e1:=M8 e rfl;have e2:=Mu e rfl;simp only [JT,and_true] at e2;subst e1 e2;refine ⟨(a::b::m0).dropLast,(Sm.fin a b m0).2,?_,by rw [Sm.ft]⟩;have hl:=Sm.gp a b m0;rw [Lm (by simp)] at hl;rw [<- Fo hl,GN]
def sp_a7 (C:Δ):Sp:=fun vs H Q _=>∃ (p a b:Δ) (qa qb:Int×Int) (s:Int) (cs rs:List Int),vs=[.ref p,.ref a,.ref b]/\aF C H p s cs rs/\cs.length<=39/\rs.length<=39/\H a=some (.tup [.int qa.1,.int qa.2])/\H b=some (.tup [.int qb.1,.int qb.2])/\dD cs rs qa/\qb∈nb cs rs qa /\
 ∀ l xs m H',ah H H'->H l=none->H' l=some (.lst xs)->Sm.Wlk (nb cs rs) qa qb m->aH H' xs (qa::qb::m)->Q (.ref l) H'
theorem ok_a7 (T:Txt K mg t):aN P w K mg base CX0 7 t.f_a7 t.d_a7 ["cloth","start","onward"] (sp_a7 t.a_aa):=by
 refine T.F_a7.ok sc_a7 (by walk_at "l") (fun _ _ _ s H vs Q E hr h=>?_)
 ·obtain ⟨p,a,b,qa,qb,s,cs,rs,rfl,hc,lc,lr,ha,hb,ia,adj,k⟩:=h;refine aJ (aM 3 sc_a7.nd (bT (aa (pv 1) ae))) fun _ _=>aJ (aM 4 sc_a7.nd (pv 2)) fun _ _=>aJ (gx F5 (aW (jH hr.units) (pv 4) (pv 1)) (aQ (gw (i:=5) sc_a7.nd rfl (Kn rfl) (aD (aq K rfl) (pv 3) (cO bY ag))) (aQ (bg (cL FF FW FU a8 (pv 3) (aa (pv 4) ae))) (aQ (oQ (i:=6) sc_a7.nd rfl (GJ rfl) (N:=["point","behind"]) (cap:=[none,some 5]) rfl ⟨rfl,rfl,rfl,rfl,rfl,rfl⟩ (bQ (aj (ok_av T) (rmo hr) rfl T.mg_av T.F_av.kp T.b_av .nil ao (aa (pv 0) (aa (pv 4) ae)))) (fun _ _ _=>(aK (i:=0) (show (["point","behind"]:List Str).Nodup by decide +kernel) rfl (GJ rfl))) (fun _ _ _=>(fR (aW (jH hr.units) (pv 0) (pv 1)))) (fun _ _ _=>(pv 0)) (by rfl)) (aQ (aO (aW b8 (aw (aU K rfl) rfl T.no_len (by rfl) (aa (pv 6) ae)) ag) (ai (aA (pv 3))) aC) (ai (aM 4 sc_a7.nd (aD (aq K rfl) (pv 6) ag)))))))) fun _ _=>cM (aA (pv 3)) fun _ _=>?_;apply ⟨by show 1<=E4; decide,fun l n1=>?_⟩;have s1:=ah.new (o:=HO.lst [V.ref a]) n1;have e1:=af (H:=H) (a:=l) (o:=HO.lst [V.ref a]);generalize upd H l (HO.lst [V.ref a])=H1 at s1 e1 ⊢;left;have qab:qb≠qa:=fun e=>(dk cs rs).irr qa (e ▸ adj);refine ⟨fun m σ' H'=>∃ (xs:List V) (h:Δ) (r m':List (Int×Int)) (qh:Int×Int) (o5 o6:Option V),m=2000 - r.length/\σ'=[some (.ref p),some (.ref a),some (.ref b),some (.ref l),some (.ref h),o5,o6]/\ah H H'/\H' l=some (.lst xs)/\aH H' xs (qa::r)/\Pt H' (.ref h) qh/\r++[qh]=qb::m'/\Sm.Go (nb cs rs) qa qb m'/\qa∉r/\r.length<=1681,
   ⟨_,_,b,[],[],qb,none,none,rfl,rfl,s1,e1,aH.cons ⟨a,rfl,s1 _ _ ha⟩ aH.nil,⟨b,rfl,s1 _ _ hb⟩,rfl,trivial,(fun z=>nomatch z),Fi _⟩,?_⟩
  rintro m σ' H2 ⟨xs,h,r,m',qh,o5,o6,rfl,rfl,s2,e2,w2,ph,er,go,na,lr1⟩;obtain ⟨h',hh',ph'⟩:=ph
  cases hh';obtain ⟨r0,z0,er0,ef⟩:=CB (a:=qa) er;apply lM ph' (s2 _ _ ha) ?_;by_cases c:qh=qa
  ·rw [aS (show ((qh.1,qh.2):Int×Int)=(qa.1,qa.2) from c)];left;subst c
   match m',er,go with
   | [],er,_ =>
    have:r=[]:=by
     have:=congrArg Jd er
     rw [BG] at this;exact F2 (by simpa using this)
    subst this;simp only [IX,JT,and_true] at er;exact absurd er.symm qab
   | c::mm,er,go =>
    obtain ⟨m0,z,hm⟩:∃ m0 z,c::mm=m0++[z]:=⟨(c::mm).dropLast,(c::mm).getLast (by simp),(GN _).symm⟩
    rw [hm] at er go;rw [<- G8] at er;have q1:=M8 er rfl;have q2:=Mu er rfl;simp only [JT,and_true] at q2;subst q1 q2;obtain ⟨g1,g2⟩:=Sm.cT.mp go;have nam:qh∉m0:=fun x=>na (Ξ _ x);exact k l xs m0 H2 s2 n1 e2 ⟨adj,g1,Sm.cD (dk cs rs) adj m0 g1 nam,.inr g2⟩ w2
  ·rw [bA (show ¬ ((qh.1,qh.2):Int×Int)=(qa.1,qa.2) from c)];left;have ef1:(Sm.fin qa qb m').1=z0:=by rw [ef]
   have ef2:(Sm.fin qa qb m').2=qh:=by rw [ef]
   have nam:qa∉m':=by
    intro x;have:qa∈r++[qh]:=by rw [er]; exact Ξ _ x
    rcases E_.mp this with x | x
    ·exact na x
    ·exact c (A_.mp x).symm
   have nd:=Sm.cD (dk cs rs) adj m' go nam;have few:=i0 lc lr nd (fun q hq=>by
    rcases BF.mp hq with e | hq
    ·rw [e]; exact ia
    ·exact fH adj go q hq)
   have le:r.length=m'.length:=by
    have:=congrArg Jd er
    rw [BG,FA,EX] at this;omega
   rw [EX,EX] at few;have lx:xs.length=r.length+1:=by rw [w2.1,EX]
   obtain ⟨vz,hz,pz⟩:=eV (by rw [<- er0]; exact w2);obtain ⟨az,rfl,haz⟩:=pz;have iq:dD cs rs qh:=fH adj go qh (by rw [<- er]; exact E3 _ (A_.mpr rfl));refine ⟨fun σ' H'=>∃ (xs:List V) (h:Δ) (qc:Int×Int) (o5 o6:Option V),σ'=[some (.ref p),some (.ref a),some (.ref b),some (.ref l),some (.ref h),o5,o6]/\ah H H'/\H' l=some (.lst xs)/\aH H' xs (qa::(r++[qh]))/\Pt H' (.ref h) qc/\Sm.oth (nb cs rs) z0 qh=[qc],?_,?_⟩
   ·rintro σ' H' ⟨xs,h,qc,o5,o6,rfl,s3,e3,w3,ph,eo⟩;refine ⟨_,?_,xs,h,r++[qh],m'++[qc],qc,o5,o6,rfl,rfl,s3,e3,w3,ph,by rw [er]; rfl,Sm.cT.mpr ⟨go,by rw [ef]; exact eo⟩,?_,?_⟩
    ·rw [BG,FA]; omega
    ·intro x;rcases E_.mp x with x | x
     ·exact na x
     ·exact c (A_.mp x).symm
    ·rw [BG,FA]; omega
   ·apply aG (SqL.of e2) hz ?_;apply bN e2 ?_;apply a9 e2 (bf (by omega)) ?_;have s3:=(s2.later (o:=.lst (xs++[.ref h])) n1)
    have e3:=af (H:=H2) (a:=l) (o:=HO.lst (xs++[.ref h]));have w3:aH (L2.upd H2 l (.lst (xs++[.ref h]))) (xs++[.ref h]) (qa::(r++[qh])):=(w2.upd e2 (by intro ys z; cases z)).snoc (Pt.upd (q:=qh) ⟨h,rfl,ph'⟩ e2 (by intro ys z; cases z));have haz:=(Pt.upd (o:=.lst (xs++[.ref h])) (q:=z0) ⟨az,rfl,haz⟩ e2 (by intro ys z; cases z))
    have ph3:=(Pt.upd (o:=.lst (xs++[.ref h])) (q:=qh) ⟨h,rfl,ph'⟩ e2 (by intro ys z; cases z))
    generalize L2.upd H2 l (.lst (xs++[.ref h]))=H3 at s3 e3 w3 haz ph3 ⊢;obtain ⟨_,q1,haz⟩:=haz
    cases q1;obtain ⟨_,q1,ph3⟩:=ph3
    cases q1;apply ⟨p,h,qh,s,cs,rs,rfl,hc.mono s3,ph3,iq,fun lj ys H4 s4 _ e4 w4=>?_⟩;apply ⟨⟨_,SqL.of e4⟩,fun lw nw=>?_⟩;have l4:ys.length<=2:=by rw [w4.1]; exact yl cs rs qh
    refine fE (fun v=>v) (fun v=>!decide (cV H4 v=z0)) (SqL.of e4) (by omega) nw (fun x o H5 Q' hx s5 q=>?_) (fun x o H5 Q' hx _ s5 q=>?_) (fun H5 s5 e5=>?_)
    ·left;have px:=w4.mem x hx;obtain ⟨ax,rfl,hax⟩:=px;refine lM (s5 _ _ hax) (s5 _ _ (s4 _ _ haz)) ?_;left;exact q H5 (ah.refl _)
    ·left;exact q H5 (ah.refl _)
    ·rw [Mr] at e5;have w5:=(qu (a:=z0) w4).mono s5;generalize (ys.filter fun v=>!decide (cV H4 v=z0))=us at e5 w5;have w5:aH H5 us (Sm.oth (nb cs rs) z0 qh):=w5;have s35:=s4.trans s5
     have hzq:z0∈nb cs rs qh:=by
      have:=(dk cs rs).sym (Sm.c7 (dk cs rs) adj go)
      rw [ef] at this;exact this
     apply aV e5 ?_;left;rcases Sm.iD (dk cs rs) hzq with eo | ⟨qc,eo⟩
     ·rw [eo] at w5;have:us=[]:=F2 w5.1
      subst this;rw [show decide ((([]:List V).length:Int)=0)=true from rfl];apply k l _ m' H5 (s3.trans s35) n1 (s35 _ _ e3) ⟨adj,go,nd,.inl (by rw [ef]; exact eo)⟩ ?_;rw [<- er];exact w3.mono s35
     ·rw [eo] at w5;obtain ⟨v,us',e,hv,wu⟩:=w5.inv;have:us'=[]:=F2 wu.1
      subst this;subst e;rw [show decide ((([v]:List V).length:Int)=0)=false from rfl];apply aG (SqL.of e5) (cg (j:=0) rfl) ?_;left;obtain ⟨av,rfl,hav⟩:=hv;exact ⟨_,av,qc,_,_,rfl,s3.trans s35,s35 _ _ e3,w3.mono s35,⟨av,rfl,hav⟩,eo⟩
theorem qG {cs rs:List Int} {q:Int×Int} (h2:(nb cs rs q).length=2) (h:∀ r∈nb cs rs q,Ts.ple q r):nb cs rs q=[(q.1,q.2+1)]++[(q.1+1,q.2)]:=by
 have h1:rt cs rs (q.1 - 1) q.2=false:=by
  cases c:rt cs rs (q.1 - 1) q.2 with
  | false => rfl
  | true => have := h _ (jE.mpr (.inl ⟨c, rfl⟩)); unfold Ts.ple at this; dsimp only at this; omega
 have h3:ups cs rs q.1 (q.2 - 1)=false:=by
  cases c:ups cs rs q.1 (q.2 - 1) with
  | false => rfl
  | true => have := h _ (jE.mpr (.inr (.inl ⟨c, rfl⟩))); unfold Ts.ple at this; dsimp only at this; omega
 unfold nb at h2 ⊢;rw [h1,h3] at h2 ⊢
 cases c:ups cs rs q.1 q.2<;>cases d:rt cs rs q.1 q.2<;>rw [c,d] at h2<;>first | rfl | (simp at h2)
theorem dU {a b:Int×Int} {m:List (Int×Int)}:∃ ps,a::b::m=ps++[(Sm.fin a b m).2]:=by
 have hl:=Sm.gp a b m;rw [Lm (by simp)] at hl;exact ⟨(a::b::m).dropLast,by rw [<- Fo hl,GN]⟩
theorem aH.rev:∀ {H:Hp} {xs:List V} {ps:List (Int×Int)},aH H xs ps->aH H xs.reverse ps.reverse
 | H,[],[],_=>aH.nil
 | H,[],_::_,h=>by have:=h.1; simp at this
 | H,_::_,[],h=>by have:=h.1; simp at this
 | H,v::xs,p::ps,h=>by
  obtain ⟨v',r,e,h1,h2⟩:=h.inv
  cases e;rw [Hy,Hy];exact (aH.rev h2).snoc h1
theorem rM {cs rs:List Int} {f:Bool} {L:List (Int×Int)} (h:Sm.dn (nb cs rs) f L):∀ q∈L,dD cs rs q:=by
 obtain ⟨a,b,l,rfl,adj,go,_⟩:=h.path;intro q hq;rcases BF.mp hq with e | hq
 ·rw [e]; exact yk ((dk cs rs).sym adj)
 ·exact fH adj go q hq
def sp_ay (C:Δ):Sp:=fun vs H Q _=>∃ (p ll:Δ) (xs:List V) (qa qb:Int×Int) (m:List (Int×Int)) (s:Int) (cs rs:List Int),vs=[.ref p,.ref ll]/\aF C H p s cs rs/\cs.length<=39/\rs.length<=39/\H ll=some (.lst xs)/\aH H xs (qa::qb::m)/\Sm.Rnd (nb cs rs) qa qb m/\dD cs rs qa /\
 ∀ l ys L H',ah H H'->H l=none->H' l=some (.lst ys)->Sm.dn (nb cs rs) true L->qa∈L->aH H' ys L->Q (.ref l) H'
theorem ok_ay (T:Txt K mg t):aN P w K mg base CX0 8 t.f_ay t.d_ay ["cloth","line"] (sp_ay t.a_aa):=by
 refine T.F_ay.ok sc_ay (by walk_at "l") (fun _ _ _ s H vs Q E hr h=>?_)
 ·obtain ⟨p,ll,xs,qa,qb,m,s,cs,rs,rfl,hc,lc,lr,hl,wx,rd,ia,k⟩:=h;have G:=dk cs rs;refine ⟨_,(aQ (aM 2 sc_ay.nd (aw (qe K rfl rfl hr.units) rfl T.no_min (by rfl) (aa (pv 1) ae))) (ai (aA (aj (ok_a7 T) (rmo hr) rfl T.mg_a7 T.F_a7.kp T.b_a7 .nil ao (aa (pv 0) (aa (pv 2) (aa (aD (aq K rfl) (aj (ok_av T) (rmo hr) rfl T.mg_av T.F_av.kp T.b_av .nil ao (aa (pv 0) (aa (pv 2) ae))) (cO bY ag)) ae))))))),?_⟩;apply uS (cV H) hl (fun e=>by have:=wx.1; rw [e] at this; simp at this) (fun v hv=>wx.mem v hv) fun v hv hmin=>?_;obtain ⟨a,rfl,ha⟩:=wx.mem v hv;have hq:cV H (.ref a)∈qa::qb::m:=by rw [<- wx.map]; exact F1.mpr ⟨_,hv,rfl⟩
  have hmn:∀ r∈qa::qb::m,Ts.ple (cV H (.ref a)) r:=by
   intro r hr;rw [<- wx.map] at hr;obtain ⟨u,hu,rfl⟩:=F1.mp hr;exact hmin u hu
  generalize cV H (.ref a)=q at ha hq hmn
  have iq:dD cs rs q:=by
   rcases BF.mp hq with e | hq
   ·rw [e]; exact ia
   ·exact fH rd.adj rd.go q hq
  have sh:=rd.shut G;have two:=rd.two G;have enb:=qG (two q hq) fun r hr=>hmn r (sh q hq r hr);apply ⟨p,a,q,s,cs,rs,rfl,hc,ha,iq,fun lj ys H1 s1 _ e1 w1=>?_⟩;rw [enb] at w1;obtain ⟨v,hv1,pv⟩:=eV w1;obtain ⟨b,rfl,hb⟩:=pv;apply aG (SqL.of e1) hv1 ?_;left;have adj:((q.1+1,q.2):Int×Int)∈nb cs rs q:=by rw [enb]; exact E3 _ (A_.mpr rfl)
  refine ⟨p,a,b,q,(q.1+1,q.2),s,cs,rs,rfl,hc.mono s1,lc,lr,s1 _ _ ha,hb,iq,adj,fun l zs m' H2 s2 n2 e2 wk w2=>?_⟩;have rd2:=wk.round G sh two hq;have sub:∀ x∈q::(q.1+1,q.2)::m',x∈qa::qb::m:=Sm.i7 G sh rd2.adj rd2.go q θ hq;refine k l zs (q::(q.1+1,q.2)::m') H2 (s1.trans s2) (s1.free n2) e2 ⟨(fun e=>by cases e),fun _=>⟨q,_,m',rfl,rd2,fun x hx=>hmn x (sub x hx),rfl⟩⟩ ?_ w2;exact Sm.i7 G (rd2.shut G) rd.adj rd.go q hq θ qa θ
def sp_aG (C:Δ):Sp:=fun vs H Q _=>∃ (p a:Δ) (q:Int×Int) (s:Int) (cs rs:List Int),vs=[.ref p,.ref a]/\aF C H p s cs rs/\cs.length<=39/\rs.length<=39/\H a=some (.tup [.int q.1,.int q.2])/\(nb cs rs q).length=1/\dD cs rs q /\
 ∀ l ys L H',ah H H'->H l=none->H' l=some (.lst ys)->Sm.dn (nb cs rs) false L->q∈L->aH H' ys L->Q (.ref l) H'
theorem ok_aG (T:Txt K mg t):aN P w K mg base CX0 8 t.f_aG t.d_aG ["cloth","end"] (sp_aG t.a_aa):=by
 refine T.F_aG.ok sc_aG (by walk_at "l") (fun _ _ _ s H vs Q E hr h=>?_)
 ·obtain ⟨p,a,q,s,cs,rs,rfl,hc,lc,lr,ha,one,iq,k⟩:=h;have G:=dk cs rs;refine aJ (aM 2 sc_aG.nd (aj (ok_a7 T) (rmo hr) rfl T.mg_a7 T.F_a7.kp T.b_a7 .nil ao (aa (pv 0) (aa (pv 1) (aa (aD (aq K rfl) (aj (ok_av T) (rmo hr) rfl T.mg_av T.F_av.kp T.b_av .nil ao (aa (pv 0) (aa (pv 1) ae))) ag) ae))))) fun _ _=>aJ (aO (aW (yB hr.units) (aD (aq K rfl) (pv 2) (cO bY ag)) (pv 1)) (ai (aA (AW K rfl rfl rfl T.no_list rfl T.no_reversed (pv 2)))) aC) fun _ _=>cM (aA (pv 2)) fun _ _=>?_;apply ⟨p,a,q,s,cs,rs,rfl,hc,ha,iq,fun lj ys H1 s1 _ e1 w1=>?_⟩;obtain ⟨y,ey⟩:∃ y,nb cs rs q=[y]:=by
   match hz:nb cs rs q,one with
   | [y],_=>exact ⟨y,rfl⟩
  rw [ey] at w1;obtain ⟨v,r,e,hv,wr⟩:=w1.inv;subst e;obtain ⟨b,rfl,hb⟩:=hv;apply aG (SqL.of e1) (cg (j:=0) rfl) ?_;apply ⟨p,a,b,q,y,s,cs,rs,rfl,hc.mono s1,lc,lr,s1 _ _ ha,hb,iq,by rw [ey]; exact A_.mpr rfl,fun l zs m' H2 s2 n2 e2 wk w2=>?_⟩;have op:=wk.open G one;obtain ⟨t1,t2⟩:=Sm.nJ G op;obtain ⟨ps,eps⟩:=dU (a:=q) (b:=y) (m:=m');obtain ⟨vl,hvl,pl⟩:=eV (by rw [<- eps]; exact w2);apply aG (SqL.of e2) hvl ?_;apply zm (p:=(Sm.fin q y m').2) (q:=q) pl ⟨a,rfl,s2 _ _ (s1 _ _ ha)⟩ ?_
  cases hlt:Ts.plt (Sm.fin q y m').2 q with
  | true =>
   apply Bq ?_;apply zu e2 fun l3 n3=>?_;left;have s3:=ah.new (o:=HO.lst zs.reverse) n3;exact k l3 _ _ _ (s1.trans (s2.trans s3)) (s1.free (s2.free n3)) af (t1 hlt) (Ga.mpr θ) (w2.rev.mono s3)
  | false =>
   left;exact k l zs _ H2 (s1.trans s2) (s1.free n2) e2 (t2 hlt) θ w2
def sp_bh (C:Δ):Sp:=fun vs H Q _=>∃ (p a:Δ) (q:Int×Int) (s:Int) (cs rs:List Int),vs=[.ref p,.ref a]/\aF C H p s cs rs/\cs.length<=39/\rs.length<=39/\H a=some (.tup [.int q.1,.int q.2])/\dD cs rs q /\
 (nb cs rs q=[]->∀ H',ah H H'->Q .non H') /\
 (nb cs rs q≠[]->∀ TT l f ys L H',ah H H'->H TT=none->H l=none->H' TT=some (.tup [.bl f,.ref l])->H' l=some (.lst ys)->Sm.dn (nb cs rs) f L->q∈L->aH H' ys L->Q (.ref TT) H')
theorem ok_bh (T:Txt K mg t):aN P w K mg base CX0 9 t.f_bh t.d_bh ["cloth","point"] (sp_bh t.a_aa):=by
 refine T.F_bh.ok sc_bh (by walk_at "l") (fun _ _ _ s H vs Q E hr h=>?_)
 ·obtain ⟨p,a,q,s,cs,rs,rfl,hc,lc,lr,ha,iq,k0,k⟩:=h;have G:=dk cs rs;refine aJ (aM 2 sc_bh.nd (aj (ok_av T) (rmo hr) rfl T.mg_av T.F_av.kp T.b_av .nil ao (aa (pv 0) (aa (pv 1) ae)))) fun _ _=>aJ (aO (aW b8 (aw (aU K rfl) rfl T.no_len (by rfl) (aa (pv 2) ae)) ag) (ai (aA jI)) aC) fun _ _=>aJ (aM 3 sc_bh.nd (aj (ok_a7 T) (rmo hr) rfl T.mg_a7 T.F_a7.kp T.b_a7 .nil ao (aa (pv 0) (aa (pv 1) (aa (aD (aq K rfl) (pv 2) ag) ae))))) fun _ _=>aJ (aO (aW b8 (aw (aU K rfl) rfl T.no_len (by rfl) (aa (aj (ok_av T) (rmo hr) rfl T.mg_av T.F_av.kp T.b_av .nil ao (aa (pv 0) (aa (aD (aq K rfl) (pv 3) (cO bY ag)) ae))) ae)) ag) (ai (aA (bJ (aa dE (aa (aj (ok_aG T) (rmo hr) rfl T.mg_aG T.F_aG.kp T.b_aG .nil ao (aa (pv 0) (aa (aD (aq K rfl) (pv 3) (cO bY ag)) ae))) ae))))) aC) fun _ _=>cM (aA (bJ (aa dE (aa (aj (ok_ay T) (rmo hr) rfl T.mg_ay T.F_ay.kp T.b_ay .nil ao (aa (pv 0) (aa (pv 3) ae))) ae)))) fun _ _=>?_;apply ⟨p,a,q,s,cs,rs,rfl,hc,ha,iq,fun lj ys H1 s1 _ e1 w1=>?_⟩;apply aV e1 ?_;left
  match hz:nb cs rs q,w1 with
  | [], w1 =>
   have:ys=[]:=F2 w1.1
   subst this;rw [show decide ((([]:List V).length:Int)=0)=true from rfl];left;exact k0 hz _ s1
  | y :: eC, w1 =>
   have k:=k (by rw [hz]; simp);obtain ⟨v,r,e,hv,wr⟩:=w1.inv;subst e;obtain ⟨b,rfl,hb⟩:=hv;rw [bA (show ¬ (((V.ref b::r).length:Nat):Int)=0 by rw [EX]; omega)];apply aG (SqL.of e1) (cg (j:=0) rfl) ?_;apply ⟨p,a,b,q,y,s,cs,rs,rfl,hc.mono s1,lc,lr,s1 _ _ ha,hb,iq,by rw [hz]; exact θ,fun l zs m' H2 s2 n2 e2 wk w2=>?_⟩;obtain ⟨ps,eps⟩:=dU (a:=q) (b:=y) (m:=m');obtain ⟨vl,hvl,pl⟩:=eV (by rw [<- eps]; exact w2);obtain ⟨al,rfl,hal⟩:=pl;have il:dD cs rs (Sm.fin q y m').2:=fH wk.adj wk.go _ (Sm.bZ q y m').1;apply aG (SqL.of e2) hvl ?_;apply ⟨p,al,(Sm.fin q y m').2,s,cs,rs,rfl,hc.mono (s1.trans s2),hal,il,fun lj us H3 s3 _ e3 w3=>?_⟩;apply aV e3 ?_;rw [w3.1];left;by_cases c1:(nb cs rs (Sm.fin q y m').2).length=1
   ·rw [c1,show decide (((1:Nat):Int)=1)=true from rfl];apply aG (SqL.of (s3 _ _ e2)) hvl ?_;apply ⟨p,al,(Sm.fin q y m').2,s,cs,rs,rfl,hc.mono (s1.trans (s2.trans s3)),lc,lr,s3 _ _ hal,c1,il,fun lo os L H4 s4 n4 e4 td hin w4=>?_⟩;apply ⟨by show 2<=E4; decide,fun TT nT=>?_⟩;left;have sT:=ah.new (o:=HO.tup [V.bl false,V.ref lo]) nT;refine k TT lo false os L _ (s1.trans (s2.trans (s3.trans (s4.trans sT)))) (s1.free (s2.free (s3.free (s4.free nT)))) (s1.free (s2.free (s3.free n4))) af (sT _ _ e4) td ?_ (w4.mono sT);exact Sm.i7 G (td.shut G) wk.adj wk.go _ (Ξ _ (Sm.bZ q y m').1) hin q θ
   ·rw [bA (show ¬ (((nb cs rs (Sm.fin q y m').2).length:Nat):Int)=1 by omega)];have rd:Sm.Rnd (nb cs rs) q y m':=⟨wk.adj,wk.go,by
     rcases wk.stop with h | h
     ·exact absurd ((wk.ended G).mpr h) c1
     ·exact h,wk.nd⟩
    apply ⟨p,l,zs,q,y,m',s,cs,rs,rfl,hc.mono (s1.trans (s2.trans s3)),lc,lr,s3 _ _ e2,w2.mono s3,rd,iq,fun lo os L H4 s4 n4 e4 td hin w4=>?_⟩;apply ⟨by show 2<=E4; decide,fun TT nT=>?_⟩;left;have sT:=ah.new (o:=HO.tup [V.bl true,V.ref lo]) nT;exact k TT lo true os L _ (s1.trans (s2.trans (s3.trans (s4.trans sT)))) (s1.free (s2.free (s3.free (s4.free nT)))) (s1.free (s2.free (s3.free n4))) af (sT _ _ e4) td hin (w4.mono sT)
end
noncomputable def ky (q:Int×Int):List Key:=[Ke q.1,Ke q.2]
theorem CN {p q:Int×Int} (h:ky p=ky q):p=q:=by
 unfold ky at h;simp only [JT,Sum.inl.injEq,and_true] at h;exact G5 h.1 h.2
def cR (kvs:List (List Key×V)) (ps:List (Int×Int)):Prop:=kvs.map (·.1)=ps.map ky
theorem cR.len {kvs:List (List Key×V)} {ps:List (Int×Int)} (h:cR kvs ps):kvs.length=ps.length:=by
 have:=congrArg Jd h
 rwa [Θ,Θ] at this
theorem cR.val {kvs:List (List Key×V)} {ps:List (Int×Int)} (h:cR kvs ps) (q:Int×Int):(iQ kvs (ky q)).isSome=decide (q∈ps):=by
 rw [<- jw];have e:(kvs.any fun kv=>decide (kv.1=ky q))=(kvs.map (·.1)).any fun k=>decide (k=ky q):=by rw [List.any_map]; rfl
 rw [e,show kvs.map (·.1)=ps.map ky from h,JC,List.any_eq_true,decide_eq_true_eq];constructor
 ·rintro ⟨k,hk,z⟩;obtain ⟨p,hp,rfl⟩:=F1.mp hk;exact CN (of_decide_eq_true z) ▸ hp
 ·intro hq;exact ⟨ky q,F1.mpr ⟨q,hq,rfl⟩,aS rfl⟩
theorem cR.put {kvs:List (List Key×V)} {ps:List (Int×Int)} {q:Int×Int} {v:V} (h:cR kvs ps) (hq:q∉ps):cR (jj kvs (ky q) v) (ps++[q]):=by
 have hn:iQ kvs (ky q)=none:=by
  have:=h.val q
  rw [bA hq] at this
  cases e:iQ kvs (ky q) with
  | none => rfl
  | some z => rw [e] at this; cases this
 rw [yY v hn];unfold cR;rw [GL,GL,show kvs.map (·.1)=ps.map ky from h];rfl
section
variable {P:FP} {w:F0} {K:W.Frag} {mg:Str->Option χ} {base:F6} {t:Ad}
noncomputable abbrev Sm1:=Bool×List (Int×Int)
def Nw (H0:Hp) (lf l:Δ):Prop:=l≠lf/\H0 l=none
def SeV (H0 H:Hp) (lf:Δ) (v:V) (e:Sm1):Prop:=∃ T l ys,v=.ref T/\Nw H0 lf l/\H T=some (.tup [.bl e.1,.ref l])/\H l=some (.lst ys)/\aH H ys e.2
theorem SeV.mono {H0 H H':Hp} {lf:Δ} {v:V} {e:Sm1} (s:ah H H') (h:SeV H0 H lf v e):SeV H0 H' lf v e:=by
 obtain ⟨T,l,ys,h1,h2,h3,h4,h5⟩:=h;exact ⟨T,l,ys,h1,h2,s _ _ h3,s _ _ h4,h5.mono s⟩
theorem SeV.lst {H0 H:Hp} {lf:Δ} {v:V} {e:Sm1} {us:List V} {o:HO} (h:SeV H0 H lf v e) (q:H lf=some (.lst us)):SeV H0 (upd H lf o) lf v e:=by
 obtain ⟨T,l,ys,h1,h2,h3,h4,h5⟩:=h;exact ⟨T,l,ys,h1,h2,by rw [ar (cA h3 q (by intro z; cases z))]; exact h3,by rw [ar h2.1]; exact h4,h5.upd q (by intro ys z; cases z)⟩
theorem SeV.dct {H0 H:Hp} {lf d:Δ} {v:V} {e:Sm1} {us:List (List Key×V)} {o:HO} (h:SeV H0 H lf v e) (q:H d=some (.dT us)):SeV H0 (upd H d o) lf v e:=by
 obtain ⟨T,l,ys,h1,h2,h3,h4,h5⟩:=h;exact ⟨T,l,ys,h1,h2,by rw [ar (cA h3 q (by intro z; cases z))]; exact h3,by rw [ar (cA h4 q (by intro z; cases z))]; exact h4,h5.upd q (by intro ys z; cases z)⟩
def PwS (H0 H:Hp) (lf:Δ) (xs:List V) (L:List Sm1):Prop:=xs.length=L.length/\∀ (i:Nat) v e,xs[i]?=some v->L[i]?=some e->SeV H0 H lf v e
theorem PwS.nil {H0 H:Hp} {lf:Δ}:PwS H0 H lf [] []:=⟨rfl,fun i v e h=>by simp at h⟩
theorem PwS.mono {H0 H H':Hp} {lf:Δ} {xs:List V} {L:List Sm1} (s:ah H H') (h:PwS H0 H lf xs L):PwS H0 H' lf xs L:=⟨h.1,fun i v e a b=>(h.2 i v e a b).mono s⟩
theorem PwS.lst {H0 H:Hp} {lf:Δ} {xs us:List V} {L:List Sm1} {o:HO} (h:PwS H0 H lf xs L) (q:H lf=some (.lst us)):PwS H0 (upd H lf o) lf xs L:=⟨h.1,fun i v e a b=>(h.2 i v e a b).lst q⟩
theorem PwS.dct {H0 H:Hp} {lf d:Δ} {xs:List V} {L:List Sm1} {us:List (List Key×V)} {o:HO} (h:PwS H0 H lf xs L) (q:H d=some (.dT us)):PwS H0 (upd H d o) lf xs L:=⟨h.1,fun i v e a b=>(h.2 i v e a b).dct q⟩
theorem PwS.snoc {H0 H:Hp} {lf:Δ} {xs:List V} {L:List Sm1} {v:V} {e:Sm1} (h:PwS H0 H lf xs L) (hv:SeV H0 H lf v e):PwS H0 H lf (xs++[v]) (L++[e]):=by
 refine ⟨by rw [BG,BG,h.1]; rfl,fun i v' q' h1 h2=>?_⟩;by_cases hi:i<xs.length
 ·rw [GK hi] at h1;rw [GK (by rw [<- h.1]; exact hi)] at h2;exact h.2 i v' q' h1 h2
 ·rw [F4 (by omega)] at h1;rw [F4 (by rw [<- h.1]; omega),<- h.1] at h2
  cases hk:i - xs.length with
  | zero =>
   rw [hk] at h1 h2;simp only [HZ,IL] at h1 h2;rw [<- h1,<- h2]; exact hv
  | succ k => rw [hk] at h1; simp at h1
noncomputable def dH (H:Hp):V->Sm1
 | .ref T=>match H T with
  | some (.tup [.bl f, .ref l]) => match H l with
   | some (.lst ys)=>(f,ys.map (cV H))
   | _=>(false,[])
  | _ => (false, [])
 | _=>(false,[])
theorem SeV.of {H0 H:Hp} {lf:Δ} {v:V} {e:Sm1} (h:SeV H0 H lf v e):dH H v=e:=by
 obtain ⟨T,l,ys,rfl,_,h3,h4,h5⟩:=h;simp only [dH,h3,h4,h5.map]
theorem PwS.map {H0 H:Hp} {lf:Δ} {xs:List V} {L:List Sm1} (h:PwS H0 H lf xs L):xs.map (dH H)=L:=by
 refine Ii fun i=>?_;rw [FE];by_cases hi:i<xs.length
 ·have hi':i<L.length:=by rw [<- h.1]; exact hi
  rw [Ω hi,Ω hi',Option.map_some,(h.2 i _ _ (Ω hi) (Ω hi')).of]
 ·rw [Ic (by omega),Ic (by rw [<- h.1]; omega)]; rfl
theorem PwS.mem {H0 H:Hp} {lf:Δ} {xs:List V} {L:List Sm1} (h:PwS H0 H lf xs L):∀ v∈xs,SeV H0 H lf v (dH H v)/\dH H v∈L:=by
 intro v hv;obtain ⟨i,hi⟩:=GS.mp hv;have hl:i<L.length:=by rw [<- h.1]; exact (C_.mp hi).1
 have:=h.2 i v _ hi (Ω hl)
 rw [this.of];exact ⟨this,II hl⟩
theorem y6 {H0 H:Hp} {lf:Δ}:∀ {xs:List V},(∀ v∈xs,SeV H0 H lf v (dH H v))->PwS H0 H lf xs (xs.map (dH H))
 | [],_=>PwS.nil
 | v::xs,h=>by
  have ih:=y6 (xs:=xs) fun v hv=>h v (Ξ _ hv);refine ⟨by rw [Θ],fun i v' e h1 h2=>?_⟩
  cases i with
  | zero => simp only [HZ, Fg, IL] at h1 h2; rw [<- h1, <- h2]; exact h v θ
  | succ i => simp only [KH, Fg] at h1 h2; exact ih.2 i v' e h1 h2
noncomputable def hd (e:Sm1):Int×Int:=e.2.headD (0,0)
noncomputable def bG (L:List Sm1):List (Int×Int):=L.flatMap (·.2)
theorem b7 (L:List Sm1) (e:Sm1):bG (L++[e])=bG L++e.2:=by
 unfold bG;rw [List.flatMap_append];simp
theorem jc {L:List Sm1} {q:Int×Int}:q∈bG L↔∃ e∈L,q∈e.2:=List.mem_flatMap
structure dO (cs rs:List Int) (L:List Sm1):Prop where
 told:∀ e∈L,Sm.dn (nb cs rs) e.1 e.2
 nd:(bG L).Nodup
theorem dO.in_ {cs rs:List Int} {L:List Sm1} (h:dO cs rs L):∀ q∈bG L,dD cs rs q:=fun q hq=>by
 obtain ⟨e,he,hq⟩:=jc.mp hq;exact rM (h.told e he) q hq
theorem dO.add {cs rs:List Int} {L:List Sm1} (h:dO cs rs L) {e:Sm1} {q:Int×Int} (he:Sm.dn (nb cs rs) e.1 e.2) (hq:q∈e.2) (hn:q∉bG L):dO cs rs (L++[e]):=by
 refine ⟨fun e' he'=>?_,?_⟩
 ·rcases E_.mp he' with z | z
  ·exact h.told e' z
  ·rw [A_.mp z]; exact he
 ·rw [b7,HY];obtain ⟨_,_,_,_,_,_,nd⟩:=he.path;refine ⟨h.nd,nd,fun a ha b hb z=>?_⟩;subst z;obtain ⟨e',he',ha⟩:=jc.mp ha;have:=((h.told e' he').uniq (dk cs rs) he ha hb).2
  exact hn (jc.mpr ⟨e',he',by rw [this]; exact hq⟩)
theorem dO.few {cs rs:List Int} (lc:cs.length<=39) (lr:rs.length<=39) {L:List Sm1} (h:dO cs rs L):(bG L).length<=1681/\L.length<=1681:=by
 have h1:=i0 lc lr h.nd h.in_;refine ⟨h1,?_⟩;have:∀ (M:List Sm1),(∀ e∈M,Sm.dn (nb cs rs) e.1 e.2)->M.length<=(bG M).length:=by
  intro M
  induction M with
  | nil => intro _; exact Fi _
  | cons e M ih =>
   intro hM;have:=ih fun e' he'=>hM e' (Ξ _ he')
   obtain ⟨a,b,l,ee,_⟩:=(hM e θ).path;unfold bG at this ⊢;rw [LO,BG,ee,EX,EX,EX];omega
 exact Fe (this L h.told) h1
theorem jA {L L':List Sm1} (h:L'.Perm L):(bG L').Perm (bG L):=h.flatMap_right _
theorem dO.perm {cs rs:List Int} {L L':List Sm1} (h:dO cs rs L) (p:L'.Perm L):dO cs rs L':=⟨fun e he=>h.told e (p.mem_iff.mp he),(jA p).nodup_iff.mpr h.nd⟩
structure rQ (cs rs:List Int) (L:List Sm1):Prop where
 some:dO cs rs L
 cov:∀ q,dD cs rs q->nb cs rs q≠[]->q∈bG L
 srt:L.Pairwise fun a b=>Ts.ple (hd a) (hd b)
structure vg (H0 H:Hp) (lf ds:Δ) (L:List Sm1):Prop where
 lst:∃ xs,H lf=some (.lst xs)/\PwS H0 H lf xs L
 dct:∃ kvs,H ds=some (.dT kvs)/\cR kvs (bG L)
theorem vg.mono {H0 H H':Hp} {lf ds:Δ} {L:List Sm1} (s:ah H H') (h:vg H0 H lf ds L):vg H0 H' lf ds L :=
 ⟨let ⟨xs,h1,h2⟩:=h.lst; ⟨xs,s _ _ h1,h2.mono s⟩,let ⟨kvs,h1,h2⟩:=h.dct; ⟨kvs,s _ _ h1,h2⟩⟩
def sp_at:Sp:=fun vs H Q _=>∃ (T l:Δ) (f:Bool) (v:V) (ys:List V),vs=[.ref T]/\H T=some (.tup [.bl f,.ref l])/\H l=some (.lst (v::ys))/\Q v H
theorem ok_at (T:Txt K mg t):aN P w K mg base CX0 1 t.f_at t.d_at ["told"] sp_at:=by
 refine T.F_at.ok sc_at (by walk_at "l") (fun _ _ _ s H vs Q E hr h=>?_)
 ·obtain ⟨T,l,f,v,ys,rfl,h1,h2,q⟩:=h;refine ⟨_,(ai (aA (aD (aq K rfl) (aD (aY K rfl) (pv 0) ag) ag))),?_⟩;apply bu (SqT.of h1) (v:=.ref l) rfl ?_;apply aG (SqL.of h2) (cg (j:=0) rfl) ?_;exact q
def sp_aK (C:Δ):Sp:=fun vs H Q _=>∃ (p:Δ) (s:Int) (cs rs:List Int),vs=[.ref p]/\aF C H p s cs rs/\cs.length<=39/\rs.length<=39 /\
 ∀ l ys L H',ah H H'->H l=none->H' l=some (.lst ys)->rQ cs rs L->PwS H H' l ys L->Q (.ref l) H'
theorem ok_aK (T:Txt K mg t):aN P w K mg base CX0 10 t.f_aK t.d_aK ["cloth"] (sp_aK t.a_aa):=by
  refine T.F_aK.ok sc_aK (fun vs H Q E h=>?_) (fun cdv A outer s H vs Q E hr h=>?_)
  · obtain ⟨p,s,cs,rs,rfl,_⟩:=h; rfl
  · obtain ⟨p,s,cs,rs,rfl,hc,lc,lr,k⟩:=h
    obtain ⟨dx,a1,b1,g1,g2,g3⟩:=hc.ob;have nl:∀ {w h:Int} {m:Str},NoF m->(cfl s a1 b1 w h).lookup m=none:=fun x=>bM _ _ _ x;refine aJ (aM 1 sc_aK.nd (bT ae)) fun _ _=>aJ (aM 2 sc_aK.nd qS) fun _ _=>aJ (df F5 rfl (cf rfl T.no_aT (aa (aB aR (aE (pv 0) T.cl_aa T.m_ac (ok_ac T) (rmo hr) T.b_ac .nil ao) ag) ae)) (aK (i:=3) sc_aK.nd rfl (GJ rfl)) (ai (df F5 rfl (cf rfl T.no_aT (aa (aB aR (aE (pv 0) T.cl_aa T.m_ai (ok_ai T) (rmo hr) T.b_ai .nil ao) ag) ae)) (aK (i:=4) sc_aK.nd rfl (GJ rfl)) (aQ (aM 5 sc_aK.nd (qU (yX (CW (ux hr) (bJ (aa (pv 3) (aa (pv 4) ae))) (pv 2))) jI (aj (ok_bh T) (rmo hr) rfl T.mg_bh T.F_bh.kp T.b_bh .nil ao (aa (pv 0) (aa (bJ (aa (pv 3) (aa (pv 4) ae))) ae))))) (ai (aO (aW uG (pv 5) jI) (aQ (bg (cL FF FW FU a8 (pv 1) (aa (pv 5) ae))) (ai (df F5 rfl (bQ (aD (aY K rfl) (pv 5) ag)) (aK (i:=6) sc_aK.nd rfl (GJ rfl)) (ai (uL (ux hr) (pv 2) (pv 6) dE rfl))))) aC)))))) fun _ _=>cM (aA (yM K rfl (ok_at T) (rmo hr) rfl T.no_sorted rfl T.mg_at T.b_at (pv 1))) fun _ _=>?_;apply ⟨Fi _,fun lf nf=>?_⟩;have s1:=ah.new (o:=HO.lst []) nf;have e1:=af (H:=H) (a:=lf) (o:=HO.lst []);generalize upd H lf (HO.lst [])=H1 at s1 e1 ⊢;apply fun ds nd=>?_;have s2:=s1.trans (ah.new (o:=HO.dT []) nd);have nds:H ds=none:=s1.free nd;have ga:vg H (upd H1 ds (.dT [])) lf ds []:=⟨⟨[],ah.new nd _ _ e1,PwS.nil⟩,⟨[],af,rfl⟩⟩
    generalize upd H1 ds (HO.dT [])=H2 at s2 ga ⊢;apply au (s2 _ _ g1) (nl (by decide +kernel)) ?_;apply ⟨p,s,cs,rs,rfl,hc.mono s2,?_⟩;apply ⟨_,rfl,by omega,by omega,?_⟩;rw [show ((cs.length:Int)+1+1).toNat=cs.length+2 by omega];refine dv (fun x σ' H'=>∃ (L:List Sm1) (o3 o4 o5 o6:Option V),σ'=[some (.ref p),some (.ref lf),some (.ref ds),o3,o4,o5,o6]/\ah H H'/\vg H H' lf ds L/\dO cs rs L/\∀ q,dD cs rs q->nb cs rs q≠[]->q.1<(x:Nat)->q∈bG L)
      ⟨[],none,none,none,none,rfl,s2,ga,⟨(fun e he=>nomatch he),Io⟩,fun q hq _ h=>by have:=hq.1.1; omega⟩ ?_ ?_
    · rintro x σ' H3 hx ⟨L,o3,o4,o5,o6,rfl,s3,ga3,so3,cov3⟩
      rw [IW];apply au (s3 _ _ g1) (nl (by decide +kernel)) ?_;apply ⟨p,s,cs,rs,rfl,hc.mono s3,?_⟩;apply ⟨_,rfl,by omega,by omega,?_⟩;rw [show ((rs.length:Int)+1+1).toNat=rs.length+2 by omega];refine dv (fun y σ' H'=>∃ (L:List Sm1) (o4 o5 o6:Option V),σ'=[some (.ref p),some (.ref lf),some (.ref ds),some (.int (x:Nat)),o4,o5,o6]/\ah H H'/\vg H H' lf ds L/\dO cs rs L/\∀ q,dD cs rs q->nb cs rs q≠[]->(q.1<(x:Nat)\/(q.1=(x:Nat)/\q.2<(y:Nat)))->q∈bG L)
        ⟨L,o4,o5,o6,rfl,s3,ga3,so3,fun q hq hn h=>cov3 q hq hn (by have:=hq.2.1; omega)⟩ ?_ ?_
      · rintro y σ' H4 hy ⟨L,o4,o5,o6,rfl,s4,ga4,so4,cov4⟩
        rw [IW];have hin:dD cs rs (((x:Nat):Int),((y:Nat):Int)):=⟨⟨by dsimp only; omega,by dsimp only; omega⟩,by dsimp only; omega,by dsimp only; omega⟩
        have nxt:∀ L',(∀ q∈bG L,q∈bG L')->(nb cs rs (((x:Nat):Int),((y:Nat):Int))≠[]->(((x:Nat):Int),((y:Nat):Int))∈bG L') ->
            ∀ q,dD cs rs q->nb cs rs q≠[]->(q.1<(x:Nat)\/(q.1=(x:Nat)/\q.2<((y+1:Nat):Int)))->q∈bG L':=fun L' sub hp q hq hn h=>by
          by_cases hh:q.1<(x:Nat)\/(q.1=(x:Nat)/\q.2<(y:Nat))
          · exact sub q (cov4 q hq hn hh)
          · have:q=(((x:Nat):Int),((y:Nat):Int)):=G5 (by show q.1=_; omega) (by show q.2=_; omega)
            rw [this] at hn ⊢; exact hp hn
        generalize ((y:Nat):Int)=yy at hin nxt ⊢;clear cov4;apply ⟨by show 2<=E4; decide,fun a na=>?_⟩;have s5:=ah.new (o:=HO.tup [V.int (x:Nat),V.int yy]) na;have ea:=af (H:=H4) (a:=a) (o:=HO.tup [V.int (x:Nat),V.int yy]);generalize upd H4 a (HO.tup [V.int (x:Nat),V.int yy])=H5 at s5 ea ⊢;have ga5:=ga4.mono s5;have s5:=s4.trans s5;obtain ⟨kvs,ed,ke⟩:=ga5.dct;apply ⟨ds,_,rfl,mv.t (k:=ky (((x:Nat):Int),yy)) ed ea,?_⟩;rw [ke.val];by_cases hm:(((x:Nat):Int),yy)∈bG L
        · rw [aS hm]
          apply ⟨rfl,?_⟩;rw [show (!decide (V.non=V.non))=false by simp];left;exact ⟨L,_,_,_,rfl,s5,ga5,so4,nxt L (fun q hq=>hq) fun _=>hm⟩
        · rw [bA hm]
          apply ⟨by show 2<=E4; decide,fun b nb=>?_⟩;have s6:=ah.new (o:=HO.tup [V.int (x:Nat),V.int yy]) nb;have eb:=af (H:=H5) (a:=b) (o:=HO.tup [V.int (x:Nat),V.int yy]);generalize upd H5 b (HO.tup [V.int (x:Nat),V.int yy])=H6 at s6 eb ⊢;have ga6:=ga5.mono s6;have s6:=s5.trans s6;clear ed ke kvs ga5 ga4;apply ⟨p,b,(((x:Nat):Int),yy),s,cs,rs,rfl,hc.mono s6,lc,lr,eb,hin,fun hz H7 s7=>?_,fun hz T l f zs M H7 s7 nT nl eT el td hq px=>?_⟩
          · apply ⟨rfl,?_⟩;rw [show (!decide (V.non=V.non))=false by simp];left;exact ⟨L,_,_,_,rfl,s6.trans s7,ga6.mono s7,so4,nxt L (fun q hq=>hq) fun h=>absurd hz h⟩
          · have ga7:=ga6.mono s7
            obtain ⟨ys,ef,pr⟩:=ga7.lst
            have nlf:l≠lf:=by
              intro z;obtain ⟨ys',ef',_⟩:=ga6.lst;rw [z,ef'] at nl; cases nl
            have s7:=s6.trans s7;have so7:=so4.add (e:=(f,M)) td hq hm;have hsub:∀ q∈bG L,q∈bG (L++[(f,M)]):=fun q hq=>by rw [b7]; exact Ff _ hq
            have hme:(((x:Nat):Int),yy)∈bG (L++[(f,M)]):=by rw [b7]; exact E3 _ hq
            apply ⟨rfl,?_⟩;rw [show (!decide (V.ref T=V.non))=true by simp];apply bN ef ?_;left;have ly:ys.length<=1681:=by rw [pr.1]; exact (so4.few lc lr).2
            refine a9 ef (bf (by omega)) ?_;have pr8:=(pr.lst (o:=.lst (ys++[V.ref T])) ef).snoc (e:=(f,M)) (SeV.lst (o:=.lst (ys++[V.ref T])) ⟨T,l,zs,rfl,⟨nlf,s6.free nl⟩,eT,el,px⟩ ef);have ef8:=af (H:=H7) (a:=lf) (o:=.lst (ys++[V.ref T]));obtain ⟨kvs,ed,ke⟩:=ga7.dct;have ed8:upd H7 lf (.lst (ys++[V.ref T])) ds=some (.dT kvs):=(ar (cA ed ef (by intro z; cases z))).trans ed;have s8:=s7.later (o:=.lst (ys++[V.ref T])) nf;have el8:upd H7 lf (.lst (ys++[V.ref T])) l=some (.lst zs):=(ar nlf).trans el;have px8:=px.upd (o:=.lst (ys++[V.ref T])) ef (by intro ys z; cases z);have eT8:upd H7 lf (.lst (ys++[V.ref T])) T=_:=(ar (cA eT ef (by intro z; cases z))).trans eT;generalize upd H7 lf (.lst (ys++[V.ref T]))=H8 at pr8 ef8 ed8 s8 el8 px8 eT8 ⊢;clear ga7 ga6 ef ed el pr s7 s6 eT ea eb px;apply bu (SqT.of eT8) (v:=.ref l) rfl ?_;apply ⟨⟨_,SqL.of el8⟩,?_⟩;have nd8:(bG L++M).Nodup:=by have:=so7.nd; rwa [b7] at this
            have fw:=(so7.few lc lr).1;rw [b7,BG] at fw;dsimp only at fw;refine fu (K:=K) (a:=l) (xs:=zs) (fun i σ' H'=>∃ (o6:Option V) (kvs:List (List Key×V)),σ'=[some (.ref p),some (.ref lf),some (.ref ds),some (.int (x:Nat)),some (.int yy),some (.ref T),o6]/\ah H H'/\H' lf=some (.lst (ys++[V.ref T]))/\PwS H H' lf (ys++[V.ref T]) (L++[(f,M)]) /\
                H' l=some (.lst zs)/\aH H' zs M/\H' ds=some (.dT kvs)/\cR kvs (bG L++M.take i))
              ⟨_,kvs,rfl,s8,ef8,pr8,el8,px8,ed8,by rw [IG,FH]; exact ke⟩ (fun i σ' H' _ ⟨_,_,_,_,_,_,z,_⟩=>SqL.of z) ?_ ?_
            · rintro i v σ' H9 hv ⟨o6,kvs,rfl,s9,ef9,pr9,el9,px9,ed9,ke9⟩
              have hi:i<zs.length:=(C_.mp hv).1;have hi':i<M.length:=by rw [<- px9.1]; exact hi
              obtain ⟨q,hq⟩:∃ q,M[i]?=some q:=⟨_,Ω hi'⟩
              obtain ⟨c,rfl,hc⟩:=px9.2 i v q hv hq;have ht:M.take (i+1)=M.take i++[q]:=by rw [HX,hq]; rfl
              have nq:q∉bG L++M.take i:=by
                have h1:(bG L++M.take (i+1)).Nodup:=by
                  rw [HY] at nd8 ⊢;refine ⟨nd8.1,nd8.2.1.sublist (GG _ _),fun a ha b hb=>nd8.2.2 a ha b (Fp hb)⟩
                rw [ht,<- E9,HY] at h1;exact fun z=>h1.2.2 q z q (by simp) rfl
              apply ⟨ds,_,rfl,rR.t (k:=ky q) ed9 hc ?_,?_⟩
              · have:=ke9.len
                rw [BG,Fl] at this;exact bf (by omega)
              have ke10:=ke9.put (v:=.bl true) nq;rw [E9,<- ht] at ke10;exact ⟨_,_,rfl,s9.later (o:=.dT _) nds,(ar (cA ef9 ed9 (by intro z; cases z))).trans ef9,pr9.dct ed9,(ar (cA el9 ed9 (by intro z; cases z))).trans el9,px9.upd ed9 (by intro ys z; cases z),af,ke10⟩
            · rintro σ' H9 ⟨o6,kvs,rfl,s9,ef9,pr9,el9,px9,ed9,ke9⟩
              rw [FG (by rw [px9.1]; exact BE _)] at ke9;exact ⟨L++[(f,M)],_,_,_,rfl,s9,⟨⟨_,ef9,pr9⟩,⟨kvs,ed9,by rw [b7]; exact ke9⟩⟩,so7,nxt _ hsub fun _=>hme⟩
      · rintro σ' H4 ⟨L,o4,o5,o6,rfl,s4,ga4,so4,cov4⟩
        refine ⟨L,_,_,_,_,rfl,s4,ga4,so4,fun q hq hn h=>cov4 q hq hn ?_⟩;have h2:=hq.2.2;by_cases hh:q.1<(x:Nat)
        · exact .inl hh
        · exact .inr ⟨by omega,by omega⟩
    · rintro σ' H3 ⟨L,o3,o4,o5,o6,rfl,s3,ga3,so3,cov3⟩
      obtain ⟨xs,ef,px⟩:=ga3.lst;apply wg ?_;left;have px':=px.mem;have hh:∀ v∈xs,∃ (T l b:Δ) (ys:List V),v=.ref T/\H3 T=some (.tup [.bl (dH H3 v).1,.ref l])/\H3 l=some (.lst (.ref b::ys))/\H3 b=some (.tup [.int (hd (dH H3 v)).1,.int (hd (dH H3 v)).2]):=fun v hv=>by
        obtain ⟨⟨T,l,ys,h1,_,h3,h4,h5⟩,h6⟩:=px' v hv;obtain ⟨a,b,m,ee,_⟩:=(so3.told _ h6).path;rw [ee] at h5;obtain ⟨v',r,e,hv',_⟩:=h5.inv;obtain ⟨c,rfl,hc⟩:=hv';refine ⟨T,l,c,r,h1,h3,by rw [<- e]; exact h4,?_⟩;unfold hd; rw [ee]; exact hc
      refine ⟨lf,xs,fun v=>hd (dH H3 v),rfl,SqL.of ef,fun v hv=>?_,fun v hv H4 Q1 s4 k1=>?_,fun l ys H4 s4 nl el pm pw=>?_⟩
      · obtain ⟨T,_,_,_,e,_⟩:=hh v hv
        exact ⟨T,e⟩
      · obtain ⟨T,l,b,ys,e,h1,h2,h3⟩:=hh v hv
        exact ⟨T,l,_,_,ys,by rw [e],s4 _ _ h1,s4 _ _ h2,k1 _ _ (ah.refl _) ⟨b,rfl,s4 _ _ h3⟩⟩
      · left
        have hm:∀ v∈ys,SeV H H4 l v (dH H3 v):=fun v hv=>by
          obtain ⟨⟨T,l',ys',h1,h2,h3,h4,h5⟩,_⟩:=px' v (pm.mem_iff.mp hv);refine ⟨T,l',ys',h1,⟨fun z=>?_,h2.2⟩,s4 _ _ h3,s4 _ _ h4,h5.mono s4⟩;rw [z,nl] at h4; cases h4
        have pws:PwS H H4 l ys (ys.map (dH H3)):=by
          have e:ys.map (dH H3)=ys.map (dH H4):=Ge fun v hv=>(hm v hv).of.symm;rw [e];exact y6 fun v hv=>by rw [(hm v hv).of]; exact hm v hv
        have pL:(ys.map (dH H3)).Perm L:=by
          have:=pm.map (dH H3)
          rwa [px.map] at this
        refine k l ys _ H4 (s3.trans s4) (s3.free nl) el ⟨so3.perm pL,fun q hq hn=>?_,?_⟩ pws
        · exact (jA pL).mem_iff.mpr (cov3 q hq hn (by have:=hq.1.2; omega))
        · rw [Hz]
          exact pw
def Sm (z:Int):Prop:=-1000000000000000000<z/\z<1000000000000000000
theorem kO {zs:List Int} {z:Int} (h:∀ y∈zs,Sm y) (hz:Sm z):∀ y∈zs++[z],Sm y:=fun y hy=>by
 rcases E_.mp hy with q | q
 ·exact h y q
 ·rw [A_.mp q]; exact hz
theorem tM (r:Int) {m:Int} (h0:0<m) (h1:m<=1000003):Sm (r%m):=by
 have:=Ib r (by omega:m≠0)
 have:=LJ r h0
 unfold Sm; omega
def sp_aO (K:W.Frag):Sp:=fun vs H Q _=>∃ (a:Δ) (m:Nat) (ns:List Int),vs=[.ref a,.int m]/\SqL K H a (ns.map V.int)/\ns.length<=63/\m<=200 /\
 ∀ (l:Δ) (zs:List Int) (H':Hp),ah H H'->H' l=some (.lst (zs.map V.int))->m<=zs.length->zs.length<=300->(∀ z∈zs,Sm z)->Q (.ref l) H'
theorem gq (zs:List Int) (z:Int):zs.map V.int++[V.int z]=(zs++[z]).map V.int:=by simp
theorem ok_aO (T:Txt K mg t):aN P w K mg base CX0 1 t.f_aO t.d_aO ["_law_script","_law_many"] (sp_aO K):=by
 refine T.F_aO.ok sc_aO (by walk_at "l") (fun _ _ _ s H vs Q E hr h=>?_)
 ·obtain ⟨a,m,ns,rfl,hS,hl,hm,k⟩:=h;refine aJ (aM 2 sc_aO.nd (bT ae)) fun _ _=>aJ (aM 3 sc_aO.nd ag) fun _ _=>aJ (df F5 rfl (bQ (pv 0)) (aK (i:=4) sc_aO.nd rfl (GJ rfl)) (aQ (aM 3 sc_aO.nd (aB bF (aB aR (aB fN (pv 3) ag) (pv 4)) ag)) (aQ (aM 5 sc_aO.nd (aw Ct rfl T.no_abs (by rfl) (aa (pv 4) ae))) (aQ (aO (aW dP (pv 5) (aB CU ag ag)) (aQ (bg (cL FF FW FU a8 (pv 2) (aa (pv 4) ae))) (ai (aM 5 sc_aO.nd ag))) aC) (ai (gx F5 (PW.pt (fS (aW uF (pv 5) ag) (dQ (aW dP (aw (aU K rfl) rfl T.no_len (by rfl) (aa (pv 2) ae)) (pv 1))))) (aQ (bg (cL FF FW FU a8 (pv 2) (aa (aB bF (pv 5) ag) ae))) (ai (aM 5 sc_aO.nd (aB kH (pv 5) ag)))))))))) fun _ _=>aJ (gx F5 (aW dP (aw (aU K rfl) rfl T.no_len (by rfl) (aa (pv 2) ae)) (pv 1)) (aQ (aM 3 sc_aO.nd (aB bF (aB aR (aB fN (pv 3) ag) ag) ag)) (ai (bg (cL FF FW FU a8 (pv 2) (aa (aB bF (aB fN (pv 3) (pv 3)) ag) ae)))))) fun _ _=>cM (aA (pv 2)) fun _ _=>?_;apply ⟨Fi _,fun l hn=>?_⟩;left;have hz:∀ {zs:List Int},zs.length<=300->(zs.map V.int).length<sizeLine:=fun h=>by rw [Θ]; exact cJ (by omega)
  refine ⟨⟨_,(ah.new hn).seq hS⟩,fu (K:=K) (a:=a) (xs:=ns.map V.int) (fun i σ' H'=>∃ (zs:List Int) (mix:Int) (c r:Option V),σ'=[some (.ref a),some (.int m),some (.ref l),some (.int mix),c,r]/\ah H H'/\H' l=some (.lst (zs.map V.int))/\zs.length<=i+m/\∀ z∈zs,Sm z)
   ⟨[],1,none,none,rfl,ah.new hn,af,Fi _,fun z hz=>by cases hz⟩ (fun i σ' H' _ ⟨_,_,_,_,_,s,_⟩=>s.seq hS) ?_ ?_⟩
  ·rintro i y σ' H' hi ⟨zs,mix,c,r,rfl,s1,e1,lz,sm⟩;have hil:i<ns.length:=by have:=(C_.mp hi).1; rwa [Θ] at this
   obtain ⟨z,rfl⟩:∃ z,y=V.int z:=by
    rw [FE] at hi
    cases e:ns[i]? with
    | none=>rw [e] at hi; cases hi
    | some z=>rw [e] at hi; exact ⟨z,(Fo hi).symm⟩
   apply bR (.inr ⟨by decide,by decide⟩) ?_;apply bR (by decide) ?_;apply bR ⟨by decide,by decide,by decide⟩ ?_;apply jC (fun hc=>?_) (fun _=>?_)
   ·have hc:=of_decide_eq_true hc
    have hcz:Sm z:=by
     unfold Sm;have e18:(10:Int) ^ 18=1000000000000000000:=by decide
     by_cases hz0:z<0
     ·rw [if_pos hz0] at hc; change -z<(10:Int) ^ 18 at hc; omega
     ·rw [if_neg hz0] at hc; change z<(10:Int) ^ 18 at hc; omega
    apply bN e1 ?_;apply a9 e1 (hz (by omega)) ?_;rw [gq];apply ⟨fun n σ' H'=>∃ (zs:List Int) (mix:Int) (r:Int),σ'=[some (.ref a),some (.int m),some (.ref l),some (.int mix),some (.int z),some (.int r)]/\ah H H'/\H' l=some (.lst (zs.map V.int))/\zs.length<=i+1+m/\n=m - zs.length/\∀ z∈zs,Sm z,
     ⟨_,zs++[z],_,_,rfl,s1.later hn,af,by rw [BG,FA]; omega,rfl,kO sm hcz⟩,?_⟩
    rintro n σ' H' ⟨zs,mix,r,rfl,s1,e1,lz,rfl,sm⟩;apply jC (fun _=>?_) (fun _=>?_)
    ·apply aV e1 ?_;left;rw [Θ];refine jC (fun h2=>?_) (fun h2=>?_)
     ·have h2:=of_decide_eq_true h2;refine ⟨fun σ' H'=>∃ (zs':List Int) (mix:Int) (r:Int),σ'=[some (.ref a),some (.int m),some (.ref l),some (.int mix),some (.int z),some (.int r)]/\ah H H'/\H' l=some (.lst (zs'.map V.int))/\zs'.length=zs.length+1/\∀ z∈zs',Sm z,?_,?_⟩
      ·rintro σ' H' ⟨zs',mix,r,rfl,s1,e1,lz',sm'⟩;exact ⟨m - zs'.length,by omega,zs',mix,r,rfl,s1,e1,by omega,rfl,sm'⟩
      ·apply bN e1 ?_;apply bR (by decide) ?_;apply a9 e1 (hz (by omega)) ?_;rw [gq];apply bR ⟨by decide,by decide⟩ ?_;left;exact ⟨zs++[r%1000003],mix,_,rfl,s1.later hn,af,by rw [BG,FA],kO sm (tM r (by decide) (by decide))⟩
     ·left;exact ⟨zs,mix,_,_,rfl,s1,e1,lz,sm⟩
    ·left;exact ⟨zs,mix,_,_,rfl,s1,e1,lz,sm⟩
   ·apply ⟨fun n σ' H'=>∃ (zs:List Int) (mix:Int) (r:Int),σ'=[some (.ref a),some (.int m),some (.ref l),some (.int mix),some (.int z),some (.int r)]/\ah H H'/\H' l=some (.lst (zs.map V.int))/\zs.length<=i+1+m/\n=m - zs.length/\∀ z∈zs,Sm z,
     ⟨_,zs,_,_,rfl,s1,e1,by omega,rfl,sm⟩,?_⟩
    rintro n σ' H' ⟨zs,mix,r,rfl,s1,e1,lz,rfl,sm⟩;apply jC (fun _=>?_) (fun _=>?_)
    ·apply aV e1 ?_;left;rw [Θ];refine jC (fun h2=>?_) (fun h2=>?_)
     ·have h2:=of_decide_eq_true h2;refine ⟨fun σ' H'=>∃ (zs':List Int) (mix:Int) (r:Int),σ'=[some (.ref a),some (.int m),some (.ref l),some (.int mix),some (.int z),some (.int r)]/\ah H H'/\H' l=some (.lst (zs'.map V.int))/\zs'.length=zs.length+1/\∀ z∈zs',Sm z,?_,?_⟩
      ·rintro σ' H' ⟨zs',mix,r,rfl,s1,e1,lz',sm'⟩;exact ⟨m - zs'.length,by omega,zs',mix,r,rfl,s1,e1,by omega,rfl,sm'⟩
      ·apply bN e1 ?_;apply bR (by decide) ?_;apply a9 e1 (hz (by omega)) ?_;rw [gq];apply bR ⟨by decide,by decide⟩ ?_;left;exact ⟨zs++[r%1000003],mix,_,rfl,s1.later hn,af,by rw [BG,FA],kO sm (tM r (by decide) (by decide))⟩
     ·left;exact ⟨zs,mix,_,_,rfl,s1,e1,lz,sm⟩
    ·left;exact ⟨zs,mix,_,_,rfl,s1,e1,lz,sm⟩
  ·rintro σ' H' ⟨zs,mix,c,r,rfl,s1,e1,lz,sm⟩;rw [Θ] at lz;apply ⟨fun n σ' H'=>∃ (zs:List Int) (mix:Int),σ'=[some (.ref a),some (.int m),some (.ref l),some (.int mix),c,r]/\(-(2 ^ 64)<mix/\mix<2 ^ 64\/True)/\ah H H'/\H' l=some (.lst (zs.map V.int))/\zs.length<=300/\n=m - zs.length/\∀ z∈zs,Sm z,
    ⟨_,zs,mix,rfl,.inr trivial,s1,e1,by omega,rfl,sm⟩,?_⟩
   rintro n σ' H' ⟨zs,mix,rfl,_,s1,e1,lz,rfl,sm⟩;apply aV e1 ?_;left;rw [Θ];refine jC (fun h2=>?_) (fun h2=>?_)
   ·have h2:=of_decide_eq_true h2;refine ⟨fun σ' H'=>∃ (zs':List Int) (mix:Int),σ'=[some (.ref a),some (.int m),some (.ref l),some (.int mix),c,r]/\ah H H'/\H' l=some (.lst (zs'.map V.int))/\zs'.length=zs.length+1/\∀ z∈zs',Sm z,?_,?_⟩
    ·rintro σ' H' ⟨zs',mix,rfl,s1,e1,lz',sm'⟩;exact ⟨m - zs'.length,by omega,zs',mix,rfl,.inr trivial,s1,e1,by omega,rfl,sm'⟩
    ·apply bR (.inr ⟨by decide,by decide⟩) ?_;apply bR (by decide) ?_;apply bN e1 ?_;apply bR (.inl ⟨by omega,by omega⟩) ?_;apply bR (by decide) ?_;apply a9 e1 (hz (by omega)) ?_;rw [gq];left;exact ⟨zs++[_],_,rfl,s1.later hn,af,by rw [BG,FA],kO sm (tM _ (by decide) (by decide))⟩
   ·have h2:¬ ((zs.length:Int)<m):=fun z=>h2 (aS z);left;exact k l zs H' s1 e1 (by omega) (by omega) sm
def sp_ba:Sp:=fun vs H Q _=>∃ (n:Int) (m:Nat),vs=[.int n,.int m]/\m<=100/\∀ (l:Δ) (bs:List Int) (H':Hp),ah H H'->H' l=some (.lst (bs.map V.int))->bs.length=m->(∀ z∈bs,z=0\/z=1)->Q (.ref l) H'
theorem kD {a b:Int} (ha:0<=a) (hb:0<b):a%b<=a:=by
 obtain ⟨m,rfl⟩:=Mv ha;obtain ⟨n,rfl⟩:=Mv (Int.le_of_lt hb);rw [<- Int.natCast_emod];exact Int.ofNat_le.mpr (Nat.mod_le _ _)
theorem DW (n:Int):n%2=0\/n%2=1:=by omega
theorem ok_ba (T:Txt K mg t):aN P w K mg base CX0 1 t.f_ba t.d_ba ["_law_number","_law_many"] sp_ba:=by
 refine T.F_ba.ok sc_ba (by walk_at "l") (fun _ _ _ s H vs Q E hr h=>?_)
 ·obtain ⟨n,m,rfl,hm,k⟩:=h;refine aJ (aM 2 sc_ba.nd (bT ae)) fun _ _=>aJ (df F5 rfl (cf rfl T.no_aT (aa (pv 1) ae)) (aK (i:=3) sc_ba.nd rfl (GJ rfl)) (aQ (bg (cL FF FW FU a8 (pv 2) (aa (aB bF (pv 0) ag) ae))) (ai (aM 0 sc_ba.nd (aB kH (pv 0) ag))))) fun _ _=>cM (aA (pv 2)) fun _ _=>?_;apply ⟨Fi _,fun l hn=>?_⟩;apply ⟨m,rfl,by omega,by omega,?_⟩;rw [F9];refine dv (fun i σ' H'=>∃ (n:Int) (bs:List Int) (c:Option V),σ'=[some (.int n),some (.int m),some (.ref l),c]/\ah H H'/\H' l=some (.lst (bs.map V.int))/\bs.length=i/\∀ z∈bs,z=0\/z=1)
   ⟨n,[],none,rfl,ah.new hn,af,rfl,fun z hz=>by cases hz⟩ ?_ ?_
  ·rintro i σ' H' hi ⟨n,bs,c,rfl,s1,e1,lb,hb⟩;apply bN e1 ?_;apply bR (by decide) ?_;apply a9 e1 (by rw [Θ]; exact cJ (by omega)) ?_;rw [gq];apply bR ⟨by decide,by decide⟩ ?_;apply ⟨_,bs++[n%2],_,rfl,s1.later hn,af,by rw [BG,FA]; omega,fun z hz=>?_⟩;rcases E_.mp hz with h | h
   ·exact hb z h
   ·rw [A_.mp h]; exact DW n
  ·rintro σ' H' ⟨n,bs,c,rfl,s1,e1,lb,hb⟩;left;exact k l bs H' s1 e1 lb hb
def sp_a8:Sp:=fun vs H Q _=>∃ (a:Δ) (m:Nat) (zs:List Int),vs=[.ref a,.int m]/\H a=some (.lst (zs.map V.int))/\4<=zs.length/\m<=100/\∀ (l:Δ) (bs:List Int) (H':Hp),ah H H'->H' l=some (.lst (bs.map V.int))->bs.length=m->(∀ z∈bs,z=0\/z=1)->Q (.ref l) H'
theorem ok_a8 (T:Txt K mg t):aN P w K mg base CX0 2 t.f_a8 t.d_a8 ["_law_some","_law_many"] sp_a8:=by
 refine T.F_a8.ok sc_a8 (by walk_at "l") (fun _ _ _ s H vs Q E hr h=>?_)
 ·obtain ⟨a,m,zs,rfl,ha,hl,hm,k⟩:=h;refine aJ (aM 2 sc_a8.nd (aB aR (aB aR (aD (aq K rfl) (pv 0) ag) (aB fN ag (aD (aq K rfl) (pv 0) ag))) (aB fN (aB fN ag ag) (aD (aq K rfl) (pv 0) ag)))) fun _ _=>aJ (aO (aW b8 (aB bF (aD (aq K rfl) (pv 0) ag) ag) ag) (ai (aM 2 sc_a8.nd (cO bY (aB bF (aD (aq K rfl) (pv 0) ag) ag)))) aC) fun _ _=>aJ (gw (i:=3) sc_a8.nd rfl (Kn rfl) (aj (ok_ba T) (rmo hr) rfl T.mg_ba T.F_ba.kp T.b_ba .nil ao (aa (pv 2) (aa (pv 1) ae)))) fun _ _=>aJ (aO (aW b8 (aB bF (aD (aq K rfl) (pv 0) ag) ag) ag) (ai (gw (i:=3) sc_a8.nd rfl (Kn rfl) (bP (N:=["_law_k","_law_row_here","_law_some"]) (cap:=[none,some 3,some 0]) rfl ⟨rfl,rfl,rfl,rfl,rfl,rfl⟩ (cf rfl T.no_aT (aa (pv 1) ae)) (fun _ _ _=>(aK (i:=0) (show (["_law_k","_law_row_here","_law_some"]:List Str).Nodup by decide +kernel) rfl (GJ rfl))) (fun _ _ _=>cw) (fun _ _ _=>(aD (aq K rfl) (pv 1) (aB bF (pv 0) (aB aR ag (aB bF (aD (aq K rfl) (pv 2) ag) ag)))))))) aC) fun _ _=>cM (aA (pv 3)) fun _ _=>?_;have I0:atI (zs.map V.int) 0=_:=aT (by decide) (by omega);have I1:atI (zs.map V.int) 1=_:=aT (by decide) (by omega);have I2:atI (zs.map V.int) 2=_:=aT (by decide) (by omega);have I3:atI (zs.map V.int) 3=_:=aT (by decide) (by omega);generalize zs.getD (0:Int).toNat 0=z0 at I0;generalize zs.getD (1:Int).toNat 0=z1 at I1;generalize zs.getD (2:Int).toNat 0=z2 at I2;generalize zs.getD (3:Int).toNat 0=z3 at I3
  -- behind the raw number: the bits,and the pattern
  apply aG (SqL.of ha) I0 ?_;apply aG (SqL.of ha) I1 ?_;apply bR (.inl ⟨by decide,by decide⟩) ?_;apply bR (.inl ⟨by decide,by decide⟩) ?_;apply aG (SqL.of ha) I2 ?_;apply bR (.inl ⟨by decide,by decide⟩) ?_;apply aG (SqL.of ha) I3 ?_;apply bR (by decide) ?_;apply jC (fun _=>?_) (fun _=>?_)
  ·apply aG (SqL.of ha) I0 ?_;apply bR (by decide) ?_;apply ⟨_,m,rfl,hm,fun l bs H1 s1 e1 lb hb=>?_⟩;apply aG (SqL.of (s1 _ _ ha)) I3 ?_;apply bR (by decide) ?_;apply jC (fun _=>?_) (fun _=>?_)
   ·apply ⟨m,rfl,by omega,by omega,fun l2 hn=>?_⟩;rw [F9];refine eR (fun i=>.int (bs.getD (((0:Int)+(i:Nat))%(1+z1%4)).toNat 0)) (by omega) hn (fun i o H' Q' hi s2 q=>?_) (fun H' s2 e2=>?_)
    ·apply aG (SqL.of (s2 _ _ (s1 _ _ ha))) I1 ?_;apply bR (by decide) ?_;left;have p1:0<1+z1%4:=by omega
     refine bR p1 ?_;left;have q0:=Ib ((0:Int)+(i:Nat)) (by omega:1+z1%4≠0);have q1:((0:Int)+(i:Nat))%(1+z1%4)<=(0:Int)+(i:Nat):=kD (by omega) (by omega);refine aG (SqL.of (s2 _ _ e1)) (aT q0 (by omega)) ?_;exact q H' (ah.refl _)
    ·apply k l2 ((F3 m).map fun i=>bs.getD (((0:Int)+(i:Nat))%(1+z1%4)).toNat 0) H' (s1.trans s2) (by rw [e2,GF]; rfl) (by rw [Θ,Gg]) fun z hz=>?_;obtain ⟨i,hi,rfl⟩:=F1.mp hz;have hi:=Ip.mp hi;have q0:=Ib ((0:Int)+(i:Nat)) (by omega:1+z1%4≠0);have q1:((0:Int)+(i:Nat))%(1+z1%4)<=(0:Int)+(i:Nat):=kD (by omega) (by omega);exact hb _ (L2.getD_mem (by omega))
   ·left;exact k l bs H1 s1 e1 lb hb
  ·apply ⟨_,m,rfl,hm,fun l bs H1 s1 e1 lb hb=>?_⟩;apply aG (SqL.of (s1 _ _ ha)) I3 ?_;apply bR (by decide) ?_;apply jC (fun _=>?_) (fun _=>?_)
   ·apply ⟨m,rfl,by omega,by omega,fun l2 hn=>?_⟩;rw [F9];refine eR (fun i=>.int (bs.getD (((0:Int)+(i:Nat))%(1+z1%4)).toNat 0)) (by omega) hn (fun i o H' Q' hi s2 q=>?_) (fun H' s2 e2=>?_)
    ·apply aG (SqL.of (s2 _ _ (s1 _ _ ha))) I1 ?_;apply bR (by decide) ?_;left;have p1:0<1+z1%4:=by omega
     refine bR p1 ?_;left;have q0:=Ib ((0:Int)+(i:Nat)) (by omega:1+z1%4≠0);have q1:((0:Int)+(i:Nat))%(1+z1%4)<=(0:Int)+(i:Nat):=kD (by omega) (by omega);refine aG (SqL.of (s2 _ _ e1)) (aT q0 (by omega)) ?_;exact q H' (ah.refl _)
    ·apply k l2 ((F3 m).map fun i=>bs.getD (((0:Int)+(i:Nat))%(1+z1%4)).toNat 0) H' (s1.trans s2) (by rw [e2,GF]; rfl) (by rw [Θ,Gg]) fun z hz=>?_;obtain ⟨i,hi,rfl⟩:=F1.mp hz;have hi:=Ip.mp hi;have q0:=Ib ((0:Int)+(i:Nat)) (by omega:1+z1%4≠0);have q1:((0:Int)+(i:Nat))%(1+z1%4)<=(0:Int)+(i:Nat):=kD (by omega) (by omega);exact hb _ (L2.getD_mem (by omega))
   ·left;exact k l bs H1 s1 e1 lb hb
structure d0 (tupl:Bool) (H:Hp) (p:Δ) (s:Int) (cs rs:List Int):Prop where
 ob:∃ c r,H p=some (if tupl then .tup [.int s,.ref c,.ref r] else .lst [.int s,.ref c,.ref r])/\H c=some (.lst (cs.map V.int))/\H r=some (.lst (rs.map V.int))
 sh:s=0\/s=1
 bc:bC cs
 br:bC rs
theorem d0.mono {b:Bool} {H H':Hp} {p:Δ} {s:Int} {cs rs:List Int} (e:ah H H') (c:d0 b H p s cs rs):d0 b H' p s cs rs:=by
 obtain ⟨⟨a,b,h1,h2,h3⟩,x,y,z⟩:=c;exact ⟨⟨a,b,e _ _ h1,e _ _ h2,e _ _ h3⟩,x,y,z⟩
def sp_bc:Sp:=fun vs H Q _=>∃ (a:Δ) (zs:List Int),vs=[.ref a]/\H a=some (.lst (zs.map V.int))/\12<=zs.length/\∀ p s cs rs H',ah H H'->d0 true H' p s cs rs->Q (.ref p) H'
theorem yO (i:Int):0<([9,9,16,40,6]:List Int).getD (i%5).toNat 0/\([9,9,16,40,6]:List Int).getD (i%5).toNat 0<=40:=by
 have h:=L2.getD_mem (zs:=([9,9,16,40,6]:List Int)) (k:=(i%5).toNat) (d:=0) (by simp; omega);symm at h;rcases h with h | h | h | h | h<;>rw [h]<;>decide
theorem yQ (i:Int):0<([9,16,16,6,40]:List Int).getD (i%5).toNat 0/\([9,16,16,6,40]:List Int).getD (i%5).toNat 0<=40:=by
 have h:=L2.getD_mem (zs:=([9,16,16,6,40]:List Int)) (k:=(i%5).toNat) (d:=0) (by simp; omega);symm at h;rcases h with h | h | h | h | h<;>rw [h]<;>decide
theorem ok_bc (T:Txt K mg t):aN P w K mg base CX0 3 t.f_bc t.d_bc ["_law_some"] sp_bc:=by
 refine T.F_bc.ok sc_bc (by walk_at "l") (fun _ _ _ s H vs Q E hr h=>?_)
 ·obtain ⟨a,zs,rfl,ha,hl,k⟩:=h;refine aJ (aM 1 sc_bc.nd (aB aR ag (aB bF (aD (aq K rfl) (pv 0) ag) (aD (aq K rfl) (bT (aa ag (aa ag (aa ag (aa ag (aa ag ae)))))) (aB bF (aD (aq K rfl) (pv 0) ag) ag))))) fun _ _=>aJ (aM 2 sc_bc.nd (aB aR ag (aB bF (aD (aq K rfl) (pv 0) ag) (aD (aq K rfl) (bT (aa ag (aa ag (aa ag (aa ag (aa ag ae)))))) (aB bF (aD (aq K rfl) (pv 0) ag) ag))))) fun _ _=>cM (aA (bJ (aa (aB bF (aD (aq K rfl) (pv 0) ag) ag) (aa (aj (ok_a8 T) (rmo hr) rfl T.mg_a8 T.F_a8.kp T.b_a8 .nil ao (aa (b9 (cC K rfl) (pv 0) (bE ag) de) (aa (aB cq (pv 1) ag) ae))) (aa (aj (ok_a8 T) (rmo hr) rfl T.mg_a8 T.F_a8.kp T.b_a8 .nil ao (aa (b9 (cC K rfl) (pv 0) (bE ag) de) (aa (aB cq (pv 2) ag) ae))) ae))))) fun _ _=>?_;have I0:atI (zs.map V.int) 0=_:=aT (by decide) (by omega);have I1:atI (zs.map V.int) 1=_:=aT (by decide) (by omega);have I2:atI (zs.map V.int) 2=_:=aT (by decide) (by omega);have I3:atI (zs.map V.int) 3=_:=aT (by decide) (by omega);generalize zs.getD (0:Int).toNat 0=z0 at I0;generalize zs.getD (1:Int).toNat 0=z1 at I1;generalize zs.getD (2:Int).toNat 0=z2 at I2;generalize zs.getD (3:Int).toNat 0=z3 at I3;have m0:0<=z0%5:=by omega
  have m5:z0%5<5:=by omega
  apply aG (SqL.of ha) I1 ?_;apply ⟨by show 5<=E4; decide,fun l1 n1=>?_⟩;have s1:=ah.new (o:=HO.lst (([9,9,16,40,6]:List Int).map V.int)) n1;apply aG (SqL.of (s1 _ _ ha)) I0 ?_;apply bR (by decide) ?_;apply aG (SqL.of (xs:=([9,9,16,40,6]:List Int).map V.int) af) (aT m0 m5) ?_;apply bR (yO z0).1 ?_;apply aG (SqL.of (s1 _ _ ha)) I2 ?_;apply ⟨by show 5<=E4; decide,fun l2 n2=>?_⟩;have s2:=ah.new (o:=HO.lst (([9,16,16,6,40]:List Int).map V.int)) n2;apply aG (SqL.of (s2 _ _ (s1 _ _ ha))) I0 ?_;apply bR (by decide) ?_;apply aG (SqL.of (xs:=([9,16,16,6,40]:List Int).map V.int) af) (aT m0 m5) ?_;apply bR (yQ z0).1 ?_;left;have ha2:=s2 _ _ (s1 _ _ ha);refine aG (SqL.of ha2) I3 ?_;apply bR (by decide) ?_;left;have va:=yO z0;have vb:=yQ z0;generalize ([9,9,16,40,6]:List Int).getD (z0%5).toNat 0=va' at va ⊢;generalize ([9,16,16,6,40]:List Int).getD (z0%5).toNat 0=vb' at vb ⊢;have wa0:=Ib z1 (by omega:va'≠0);have wa1:=LJ z1 va.1;have wb0:=Ib z2 (by omega:vb'≠0);have wb1:=LJ z2 vb.1;refine fc ha2 fun l3 n3=>?_;have s3:=ah.new (o:=HO.lst (di (zs.map V.int) (some 4) none)) n3;apply ⟨l3,(z1%va').toNat,zs.drop 4,(by show [V.ref l3,V.int (1+z1%va' - 1)]=_; rw [show (1+z1%va' - 1:Int)=(((z1%va').toNat:Nat):Int) by omega]),by rw [af]; exact congrArg (fun x=>some (HO.lst x)) (fo (k:=4)),by rw [Fw]; omega,by omega,fun c cs H1 s4 ec lc bc=>?_⟩;left;have ha4:=s4 _ _ (s3 _ _ ha2);refine fc ha4 fun l5 n5=>?_;have s5:=ah.new (o:=HO.lst (di (zs.map V.int) (some 8) none)) n5;apply ⟨l5,(z2%vb').toNat,zs.drop 8,(by show [V.ref l5,V.int (1+z2%vb' - 1)]=_; rw [show (1+z2%vb' - 1:Int)=(((z2%vb').toNat:Nat):Int) by omega]),by rw [af]; exact congrArg (fun x=>some (HO.lst x)) (fo (k:=8)),by rw [Fw]; omega,by omega,fun r rs H2 s6 er lr br=>?_⟩;apply ⟨by show 3<=E4; decide,fun p hp=>?_⟩;have s7:=ah.new (o:=HO.tup [V.int (z3%2),V.ref c,V.ref r]) hp;exact k p (z3%2) cs rs _ (s1.trans (s2.trans (s3.trans (s4.trans (s5.trans (s6.trans s7)))))) ⟨⟨c,r,af,s7 _ _ (s6 _ _ (s5 _ _ ec)),s7 _ _ er⟩,DW z3,⟨by omega,bc⟩,⟨by omega,br⟩⟩
def sp_bf (C:Δ):Sp:=fun vs H Q _=>∃ (p:Δ) (b:Bool) (s:Int) (cs rs:List Int),vs=[.ref p]/\d0 b H p s cs rs/\∀ x H',ah H H'->aF C H' x s cs rs->Q (.ref x) H'
theorem ok_bf (T:Txt K mg t):aN P w K mg base CX0 8 t.f_bf t.d_bf ["_law_plan_here"] (sp_bf t.a_aa):=by
 refine T.F_bf.ok sc_bf (by walk_at "l") (fun _ _ _ s H vs Q E hr h=>?_)
 ·obtain ⟨p,b,s,cs,rs,rfl,pl,k⟩:=h;obtain ⟨⟨c,r,hp,hc,hr'⟩,sh,bc,br⟩:=id pl;refine ⟨_,(ai (aA (fO T.mk_aa (ok_ak T) (rmo hr) rfl T.mg_aa T.b_ak .nil ao (aa (aD (oB K rfl) (pv 0) ag) (aa (cF (iW K rfl) rfl T.no_list (by rfl) (aa (aD (oB K rfl) (pv 0) ag) ae)) (aa (cF (iW K rfl) rfl T.no_list (by rfl) (aa (aD (oB K rfl) (pv 0) ag) ae)) ae)))))),?_⟩;have ix:∀ {H':Hp} {i:Int} {v:V} {Q:VK},ah H H'->atI [V.int s,V.ref c,V.ref r] i=some v->Q v H'->rIx K (.ref p) (.int i) H' Q:=fun {H' i v Q} s1 e q=>by
   cases b
   ·exact Bh (SqL.of (s1 _ _ hp)) e q
   ·exact Bi (SqT.of (s1 _ _ hp)) e q
  apply ix (ah.refl _) rfl ?_;apply ix (ah.refl _) rfl ?_;apply rh hc fun l1 n1=>?_;have s1:=ah.new (o:=HO.lst (cs.map V.int)) n1;apply ix s1 rfl ?_;apply rh (s1 _ _ hr') fun l2 n2=>?_;have s2:=ah.new (o:=HO.lst (rs.map V.int)) n2;left;intro x dx nx ndx nex;have s12:=s1.trans s2;have h1:upd (upd H l1 (.lst (cs.map V.int))) l2 (.lst (rs.map V.int)) l1=some (.lst (cs.map V.int)):=s2 _ _ af;have h2:upd (upd H l1 (.lst (cs.map V.int))) l2 (.lst (rs.map V.int)) l2=some (.lst (rs.map V.int)):=af;generalize upd (upd H l1 (.lst (cs.map V.int))) l2 (.lst (rs.map V.int))=H3 at h1 h2 s12 nx ndx ⊢;have s3:ah H3 (upd (upd H3 dx (.own x)) x (.ins t.a_aa dx [])):=(ah.new ndx).later nx;refine ⟨x,dx,l1,l2,s,cs,rs,rfl,af,s3 _ _ h1,s3 _ _ h2,sh,bc,br,fun H4 kp hC=>⟨rfl,?_⟩⟩;exact k x H4 (fun b o e=>kp b o (s3 b o (s12 b o e)) (bz (s12 b o e) nx)) hC
def sp_a4:Sp:=fun vs H Q _=>∃ (q:Δ) (w:Str) (k st s:Int) (cs rs bs:List Int),vs=[.ref q,.str w,.int k,.int st]/\d0 true H q s cs rs/\gc w cs rs bs/\0<=k/\k<bs.length/\Q (.bl (decide ((st+bs.getD k.toNat 0)%2=1))) H
theorem DP:¬ (("col":Str)="row"):=by decide +kernel
theorem ok_a4 (T:Txt K mg t):aN P w K mg base CX0 1 t.f_a4 t.d_a4 ["_law_plan_here","_law_way","_law_k","_law_step"] sp_a4:=by
 refine T.F_a4.ok sc_a4 (by walk_at "l") (fun _ _ _ s H vs Q E hr h=>?_)
 ·obtain ⟨q,w,k,st,s,cs,rs,bs,rfl,pl,hw,h0,h1,z⟩:=h;obtain ⟨⟨c,r,hq,hc,hr'⟩,sh,bc,br⟩:=id pl;refine aJ (aM 4 sc_a4.nd (aD (aY K rfl) (pv 0) ag)) fun _ _=>aJ (aO (aW b8 (pv 1) bh) (ai (aM 4 sc_a4.nd (aD (aY K rfl) (pv 0) ag))) aC) fun _ _=>cM (aA (gu b8 (aB bF (aB aR (pv 3) (aD (aq K rfl) (pv 4) (pv 2))) ag) ag)) fun _ _=>?_;apply bu (SqT.of hq) (v:=.ref c) rfl ?_;left;rcases hw with ⟨rfl,rfl⟩ | ⟨rfl,rfl⟩
  ·rw [bA DP];apply aG (SqL.of hc) (aT h0 h1) ?_;apply bR (by decide) ?_;left;exact z
  ·rw [aS (rfl:("row":Str)="row")];apply bu (SqT.of hq) (v:=.ref r) rfl ?_;apply aG (SqL.of hr') (aT h0 h1) ?_;apply bR (by decide) ?_;left;exact z
def EC (d:Gm):Prop:=(∃ i,d=.int i)\/(∃ b,d=.bool b)\/d=.none
def OkS (S:Gm->Prop) (d:Gm):Prop:=EC d\/(∃ ds,d=.list ds/\ds.length<=5000/\∀ e∈ds,S e)\/∃ ds,d=.tuple ds/\ds.length<=5000/\∀ e∈ds,S e
def pV (S:Gm->Prop):Sp:=fun vs H Q _=>∃ (x y:V) (d:Gm),vs=[x,y]/\S d/\Rep H d x/\Rep H d y/\∀ H',ah H H'->Q (.bl true) H'
theorem fz {S:Gm->Prop} {n:Nat} (T:Txt K mg t) (G_aD:aN P w K mg base CX0 n t.f_aD t.d_aD ["_law_told","_law_due"] (pV S)):aN P w K mg base CX0 (n+1) t.f_aD t.d_aD ["_law_told","_law_due"] (pV (OkS S)):=by
 refine T.F_aD.ok sc_aD (by walk_at "l") (fun _ _ _ s H vs Q E hr h=>?_)
 ·obtain ⟨x,y,d,rfl,ok,rx,ry,k⟩:=h;refine aJ (aO (PW.pt (jk (aW j3 (aw (bo K rfl) rfl T.no_bg (by rfl) (aa (pv 0) (aa (cu (v:=.ty "bool") rfl T.no_bool (by rfl:GD "bool"=some (.type "bool")) rfl) ae))) (aw (bo K rfl) rfl T.no_bg (by rfl) (aa (pv 1) (aa (cu (v:=.ty "bool") rfl T.no_bool (by rfl:GD "bool"=some (.type "bool")) rfl) ae)))) (gy (aW j3 (aw (bo K rfl) rfl T.no_bg (by rfl) (aa (pv 0) (aa (cu (v:=.ty "int") rfl T.no_int (by rfl:GD "int"=some (.type "int")) rfl) ae))) (aw (bo K rfl) rfl T.no_bg (by rfl) (aa (pv 1) (aa (cu (v:=.ty "int") rfl T.no_int (by rfl:GD "int"=some (.type "int")) rfl) ae))))))) (ai (aA dE)) aC) fun _ _=>aJ (aO (PW.pt (jk (aW j3 (aw (bo K rfl) rfl T.no_bg (by rfl) (aa (pv 0) (aa (cu (v:=.ty "list") rfl T.no_list (by rfl:GD "list"=some (.type "list")) rfl) ae))) (aw (bo K rfl) rfl T.no_bg (by rfl) (aa (pv 1) (aa (cu (v:=.ty "list") rfl T.no_list (by rfl:GD "list"=some (.type "list")) rfl) ae)))) (gy (aW j3 (aw (bo K rfl) rfl T.no_bg (by rfl) (aa (pv 0) (aa (cu (v:=.ty "tuple") rfl T.no_aN (by rfl:GD "tuple"=some (.type "tuple")) rfl) ae))) (aw (bo K rfl) rfl T.no_bg (by rfl) (aa (pv 1) (aa (cu (v:=.ty "tuple") rfl T.no_aN (by rfl:GD "tuple"=some (.type "tuple")) rfl) ae))))))) (ai (aA dE)) aC) fun _ _=>aJ (aO (PW.pt (fS (bX (aZ (aw (bo K rfl) rfl T.no_bg (by rfl) (aa (pv 1) (aa (cu (v:=.ty "list") rfl T.no_list (by rfl:GD "list"=some (.type "list")) rfl) ae))))) (dQ (bX (aZ (aw (bo K rfl) rfl T.no_bg (by rfl) (aa (pv 1) (aa (cu (v:=.ty "tuple") rfl T.no_aN (by rfl:GD "tuple"=some (.type "tuple")) rfl) ae)))))))) (ai (aA (gr (gu b8 (aw (bo K rfl) rfl T.no_bg (by rfl) (aa (pv 0) (aa (cu (v:=.ty "str") rfl T.no_str (by rfl:GD "str"=some (.type "str")) rfl) ae))) (aw (bo K rfl) rfl T.no_bg (by rfl) (aa (pv 1) (aa (cu (v:=.ty "str") rfl T.no_str (by rfl:GD "str"=some (.type "str")) rfl) ae)))) (iE (gu (jG hr.units) (pv 0) (pv 1)))))) aC) fun _ _=>cM (aA (gr (gu b8 (aw (aU K rfl) rfl T.no_len (by rfl) (aa (pv 0) ae)) (aw (aU K rfl) rfl T.no_len (by rfl) (aa (pv 1) ae))) (iE (aw (kA K rfl rfl) rfl T.no_all (by rfl) (aa (bP (N:=["_law_one","_law_other"]) (cap:=[none,none]) rfl ⟨rfl,rfl,rfl,rfl,rfl,rfl⟩ (AY rfl T.no_zip (aa (pv 0) (aa (pv 1) ae))) (fun _ _ _=>(fP (n:=2) K rfl rfl (bV (aK (i:=0) (show (["_law_one","_law_other"]:List Str).Nodup by decide +kernel) rfl (GJ rfl)) (bV (aK (i:=1) (show (["_law_one","_law_other"]:List Str).Nodup by decide +kernel) rfl (GJ rfl)) fQ)))) (fun _ _ _=>cw) (fun _ _ _=>(aj G_aD (rmo hr) rfl T.mg_aD T.F_aD.kp T.b_aD .nil ao (aa (pv 0) (aa (pv 1) ae))))) ae))))) fun _ _=>?_;apply cW rx.ty (qy d) ?_;apply cW ry.ty (qy d) ?_;left;rw [aS rfl];apply cW rx.ty (uB d) ?_;apply cW ry.ty (uB d) ?_;left;rw [aS rfl];apply cW rx.ty (lq d) ?_;apply cW ry.ty (lq d) ?_;left;rw [aS rfl];apply cW rx.ty (gS d) ?_;apply cW ry.ty (gS d) ?_;left;rw [aS rfl];apply cW ry.ty (lq d) ?_;left;rcases ok with sc | ⟨ds,rfl,hl,hS⟩ | ⟨ds,rfl,hl,hS⟩
  ·have e1:isD "list" d=false:=by rcases sc with ⟨i,rfl⟩ | ⟨b,rfl⟩ | rfl<;>simp [isD]
   have e2:isD "tuple" d=false:=by rcases sc with ⟨i,rfl⟩ | ⟨b,rfl⟩ | rfl<;>simp [isD]
   rw [e1];apply cW ry.ty (gS d) ?_;rw [e2];apply cW rx.ty (uC d) ?_;apply cW ry.ty (uC d) ?_;left;rw [aS rfl];left;have sd:IM d=true:=by rcases sc with ⟨i,rfl⟩ | ⟨b,rfl⟩ | rfl<;>rfl
   refine ⟨d,d,rx,ry,sd,sd,?_⟩;have e3:GH d d=true:=by rcases sc with ⟨i,rfl⟩ | ⟨b,rfl⟩ | rfl<;>simp [GH]
   rw [e3];exact k _ (ah.refl _)
  ·have e1:isD "list" (.list ds)=true:=by simp [isD]
   rw [e1];simp only [Rep] at rx ry;obtain ⟨a,xs,rfl,ha,ra⟩:=rx;obtain ⟨b,ys,rfl,hb,rb⟩:=ry;obtain ⟨l1,g1⟩:=gA ra;obtain ⟨l2,g2⟩:=gA rb;apply aV ha ?_;apply aV hb ?_;left;rw [aS (by omega:(xs.length:Int)=ys.length)];apply ⟨a,b,rfl,.inl ⟨⟨_,SqL.of ha⟩,⟨_,SqL.of hb⟩,fun l hn=>?_⟩⟩;refine se (fun _=>.bl true) ha hb (by omega) (by omega) hn (fun i x y H' Q' ex ey s1 q=>?_) (fun H' s1 e=>?_)
   ·left;obtain ⟨d,hd,rd⟩:=g1 i x ex;obtain ⟨d',hd',rd'⟩:=g2 i y ey;rw [hd] at hd'
    cases hd';exact ⟨x,y,d,rfl,hS d (FN hd),rd.mono s1,rd'.mono s1,q⟩
   ·left;have e':H' l=some (.lst (((F3 xs.length).map fun _=>true).map V.bl)):=by rw [e,GF]; rfl
    refine lK e' ?_;have e4:((F3 xs.length).map fun _=>true).all id=true:=by simp
    rw [e4];exact k H' s1
  ·have e1:isD "list" (.tuple ds)=false:=by simp [isD]
   have e2:isD "tuple" (.tuple ds)=true:=by simp [isD]
   rw [e1];apply cW ry.ty (gS _) ?_;rw [e2];simp only [Rep] at rx ry;obtain ⟨a,xs,rfl,ha,ra⟩:=rx;obtain ⟨b,ys,rfl,hb,rb⟩:=ry;obtain ⟨l1,g1⟩:=gA ra;obtain ⟨l2,g2⟩:=gA rb;apply kJ ha ?_;apply kJ hb ?_;left;rw [aS (by omega:(xs.length:Int)=ys.length)];apply ⟨a,b,rfl,.inr ⟨⟨_,SqT.of ha⟩,⟨_,SqT.of hb⟩,fun l hn=>?_⟩⟩;refine qo (fun _=>.bl true) ha hb (by omega) (by omega) hn (fun i x y H' Q' ex ey s1 q=>?_) (fun H' s1 e=>?_)
   ·left;obtain ⟨d,hd,rd⟩:=g1 i x ex;obtain ⟨d',hd',rd'⟩:=g2 i y ey;rw [hd] at hd'
    cases hd';exact ⟨x,y,d,rfl,hS d (FN hd),rd.mono s1,rd'.mono s1,q⟩
   ·left;have e':H' l=some (.lst (((F3 xs.length).map fun _=>true).map V.bl)):=by rw [e,GF]; rfl
    refine lK e' ?_;have e4:((F3 xs.length).map fun _=>true).all id=true:=by simp
    rw [e4];exact k H' s1
def Ok5:Gm->Prop:=OkS (OkS (OkS (OkS (OkS fun _=>False))))
theorem ok_aD (T:Txt K mg t):aN P w K mg base CX0 5 t.f_aD t.d_aD ["_law_told","_law_due"] (pV Ok5) :=
 fz T (fz T (fz T (fz T (fz T ⟨fun vs H Q E h=>(by obtain ⟨_,_,_,_,h,_⟩:=h; exact h.elim),fun A outer s H args us vs Q E _ _ _ _ h=>(by obtain ⟨_,_,_,_,h,_⟩:=h; exact h.elim)⟩))))
theorem vP (cs rs:List Int) (q:Int×Int):(nb cs rs q).Pairwise Ts.ple:=by
 unfold nb;obtain ⟨x,y⟩:=q;dsimp only;by_cases h1:rt cs rs (x - 1) y=true<;>by_cases h2:ups cs rs x (y - 1)=true<;>by_cases h3:ups cs rs x y=true<;>by_cases h4:rt cs rs x y=true <;>
  simp only [h1,h2,h3,h4,if_true,if_false,IX,G8,IT,BF,FJ,or_false,false_or,forall_eq_or_imp,forall_eq,false_implies,implies_true,and_true,true_and,Gq,Ts.ple,F_]<;>omega
noncomputable def nbL (cs rs:List Int) (q:Int×Int):List (Int×Int) :=
 (if rt cs rs (q.1 - 1) q.2=true then [(q.1 - 1,q.2)] else [])++(if rt cs rs q.1 q.2=true then [(q.1+1,q.2)] else [])++((if ups cs rs q.1 (q.2 - 1)=true then [(q.1,q.2 - 1)] else [])++(if ups cs rs q.1 q.2=true then [(q.1,q.2+1)] else []))
theorem AM (cs rs:List Int) (q:Int×Int):(nb cs rs q).Perm (nbL cs rs q):=by
 unfold nb nbL;generalize (if rt cs rs (q.1 - 1) q.2=true then [(q.1 - 1,q.2)] else [])=A;generalize (if ups cs rs q.1 (q.2 - 1)=true then [(q.1,q.2 - 1)] else [])=B;generalize (if ups cs rs q.1 q.2=true then [(q.1,q.2+1)] else [])=C;generalize (if rt cs rs q.1 q.2=true then [(q.1+1,q.2)] else [])=D;rw [E9 A B C,E9 A (B++C) D,E9 A D (B++C)];exact Hq _ JR
def sp_aQ:Sp:=fun vs H Q _=>∃ (q:Δ) (x y s:Int) (cs rs:List Int),vs=[.ref q,.int x,.int y]/\d0 true H q s cs rs/\∀ l ys H',ah H H'->H l=none->H' l=some (.lst ys)->aH H' ys (nb cs rs (x,y))->Q (.ref l) H'
theorem ok_aQ (T:Txt K mg t):aN P w K mg base CX0 2 t.f_aQ t.d_aQ ["_law_plan_here","_law_x","_law_y"] sp_aQ:=by
 refine T.F_aQ.ok sc_aQ (by walk_at "l") (fun _ _ _ s H vs Q E hr h=>?_)
 ·obtain ⟨q,x,y,s,cs,rs,rfl,pl,z⟩:=h;obtain ⟨⟨c,r,hq,hc,hr'⟩,sh,bc,br⟩:=id pl;refine aJ (aM 3 sc_aQ.nd (aB aR (aw (aU K rfl) rfl T.no_len (by rfl) (aa (aD (aY K rfl) (pv 0) ag) ae)) ag)) fun _ _=>aJ (aM 4 sc_aQ.nd (aB aR (aw (aU K rfl) rfl T.no_len (by rfl) (aa (aD (aY K rfl) (pv 0) ag) ae)) ag)) fun _ _=>aJ (aM 5 sc_aQ.nd (bT ae)) fun _ _=>aJ (cv (aO (dG dP dP ag (pv 2) (pv 4)) (ai (df F5 rfl (yN (bJ (aa (aB cq (pv 1) ag) (aa (pv 1) ae)))) (aK (i:=6) sc_aQ.nd rfl (GJ rfl)) (ai (aO (PW.pt (fS (dG qQ dP ag (pv 6) (pv 3)) (dQ (aZ (aj (ok_a4 T) (rmo hr) rfl T.mg_a4 T.F_a4.kp T.b_a4 .nil ao (aa (pv 0) (aa bh (aa (aB cq (pv 2) ag) (aa (pv 6) ae))))))))) (ai (bg (cL FF FW FU a8 (pv 5) (aa (bJ (aa (aB cq (aB aR (aB fN ag (pv 6)) ag) (pv 1)) (aa (pv 2) ae))) ae)))) aC)))) aC)) fun _ _=>aJ (cv (aO (dG dP dP ag (pv 1) (pv 3)) (ai (df F5 rfl (yN (bJ (aa (aB cq (pv 2) ag) (aa (pv 2) ae)))) (aK (i:=6) sc_aQ.nd rfl (GJ rfl)) (ai (aO (PW.pt (fS (dG qQ dP ag (pv 6) (pv 4)) (dQ (aZ (aj (ok_a4 T) (rmo hr) rfl T.mg_a4 T.F_a4.kp T.b_a4 .nil ao (aa (pv 0) (aa bh (aa (aB cq (pv 1) ag) (aa (pv 6) ae))))))))) (ai (bg (cL FF FW FU a8 (pv 5) (aa (bJ (aa (pv 1) (aa (aB cq (aB aR (aB fN ag (pv 6)) ag) (pv 2)) ae))) ae)))) aC)))) aC)) fun _ _=>cM (aA (aw (rY K rfl) rfl T.no_sorted (by rfl) (aa (pv 5) ae))) fun _ _=>?_;apply bu (SqT.of hq) (v:=.ref c) rfl ?_;apply aV hc ?_;apply bu (SqT.of hq) (v:=.ref r) rfl ?_;apply aV hr' ?_;rw [Θ,Θ];apply ⟨Fi _,fun l n1=>?_⟩;have s1:=ah.new (o:=HO.lst []) n1;have f1:=af (H:=H) (a:=l) (o:=HO.lst []);generalize upd H l (HO.lst [])=H1 at s1 f1 ⊢;obtain ⟨xs,f1,w1,lx⟩:∃ xs,H1 l=some (.lst xs)/\aH H1 xs []/\xs.length<=0:=⟨[],f1,aH.nil,BE 0⟩
  apply cx (fun σ' H'=>∃ xs o6,σ'=[some (.ref q),some (.int x),some (.int y),some (.int ((cs.length:Int)+1)),some (.int ((rs.length:Int)+1)),some (.ref l),o6]/\ah H H'/\H' l=some (.lst xs)/\xs.length<=0+2/\aH H' xs ([]++((if rt cs rs (x - 1) y=true then [(x - 1,y)] else [])++(if rt cs rs x y=true then [(x+1,y)] else [])))) ?_ ?_
  ·left;by_cases c1:0<y
   ·rw [aS c1];left;by_cases c2:y<(rs.length:Int)+1
    ·rw [aS c2];apply ⟨by show 2<=E4; decide,fun b hb=>?_⟩;have sb:=ah.new (o:=HO.tup [V.int (x - 1),V.int x]) hb;have eb:=af (H:=H1) (a:=b) (o:=HO.tup [V.int (x - 1),V.int x]);have f1:=sb _ _ f1;have w1:=w1.mono sb;have s1:=s1.trans sb;generalize upd H1 b (HO.tup [V.int (x - 1),V.int x])=H2 at sb eb f1 w1 s1 ⊢;apply ⟨⟨_,SqT.of eb⟩,qv (K:=K) (a:=b) (xs:=[V.int (x - 1),V.int x]) (fun i σ' H'=>∃ (xs:List V) (o6:Option V),σ'=[some (.ref q),some (.int x),some (.int y),some (.int ((cs.length:Int)+1)),some (.int ((rs.length:Int)+1)),some (.ref l),o6]/\ah H H'/\H' b=some (.tup [V.int (x - 1),V.int x])/\H' l=some (.lst xs)/\xs.length<=0+i/\aH H' xs ([]++((if 0<i/\rt cs rs (x - 1) y=true then [(x - 1,y)] else [])++(if 1<i/\rt cs rs x y=true then [(x+1,y)] else []))))
      ⟨xs,none,rfl,s1,eb,f1,lx,by rw [if_neg (by simp),if_neg (by simp),FH,FH]; exact w1⟩ (fun i σ' H' _ ⟨_,_,_,_,e,_⟩=>SqT.of e) ?_ ?_⟩
     ·rintro i v σ' H3 hv ⟨ys,o6,rfl,s3,e3,f3,l3,w3⟩;have hi:i<2:=(C_.mp hv).1;obtain ⟨st,rfl,hst⟩:∃ st:Int,v=.int st/\((i=0/\st=x - 1)\/(i=1/\st=x)):=by
       match i,hi,hv with
       | 0,_,hv=>exact ⟨x - 1,(Fo hv).symm,.inl ⟨rfl,rfl⟩⟩
       | 1,_,hv=>exact ⟨x,(Fo hv).symm,.inr ⟨rfl,rfl⟩⟩
      have rte:rt cs rs st y=(decide (0<=st)&&decide (st<(cs.length:Int)+1)&&decide ((st+rs.getD (y - 1).toNat 0)%2=1)):=by
       unfold rt;rw [aS c1,aS c2]; rfl
      have keep:rt cs rs st y=false->aH H3 ys ([]++((if 0<i+1/\rt cs rs (x - 1) y=true then [(x - 1,y)] else [])++(if 1<i+1/\rt cs rs x y=true then [(x+1,y)] else []))):=by
       intro hf;rcases hst with ⟨rfl,rfl⟩ | ⟨rfl,rfl⟩
       ·rw [if_neg (by simp),if_neg (by simp)] at w3;rw [if_neg (by rw [hf]; simp),if_neg (by simp)]; exact w3
       ·rw [if_neg (c:=1<1/\_) (by simp)] at w3;rw [if_neg (c:=1<1+1/\_) (by rw [hf]; simp)];have g:∀ (p:Prop) [Decidable p] (L:List (Int×Int)),(if 0<1/\p then L else [])=(if 0<1+1/\p then L else []):=fun p _ L=>by simp
        rw [g] at w3;exact w3
      left;by_cases c3:0<=st
      ·rw [aS c3] at rte ⊢;left;by_cases c4:st<(cs.length:Int)+1
       ·rw [aS c4] at rte ⊢;apply ⟨q,"row",y - 1,st,s,cs,rs,rs,rfl,pl.mono s3,.inr ⟨rfl,rfl⟩,by omega,by omega,?_⟩;left;have rte:rt cs rs st y=decide ((st+rs.getD (y - 1).toNat 0)%2=1):=rte;rw [<- rte];by_cases c5:rt cs rs st y=true
        ·rw [if_pos c5];apply bN f3 ?_;apply bR (.inl ⟨by decide,by decide⟩) ?_;apply ⟨by show 2<=E4; decide,fun d hd=>?_⟩;have sd:=ah.new (o:=HO.tup [V.int (2*st+1 - x),V.int y]) hd;apply a9 (sd _ _ f3) (bf (by omega)) ?_;apply ⟨_,_,rfl,(s3.trans sd).later n1,?_,af,by rw [BG,FA]; omega,?_⟩
         ·rw [ar (cA (sd _ _ e3) (sd _ _ f3) (by intro z; cases z))]; exact sd _ _ e3
         ·have w4:=((w3.mono sd).upd (o:=.lst (ys++[V.ref d])) (sd _ _ f3) (by intro ys z; cases z)).snoc (Pt.upd (o:=.lst (ys++[V.ref d])) (q:=(2*st+1 - x,y)) ⟨d,rfl,af⟩ (sd _ _ f3) (by intro ys z; cases z));rcases hst with ⟨rfl,rfl⟩ | ⟨rfl,rfl⟩
          ·rw [if_neg (by simp),if_neg (by simp),FH,FH] at w4;rw [if_pos (by rw [c5]; simp),if_neg (by simp),FH];have e:(2*(x - 1)+1 - x,y)=(x - 1,y):=G5 (by dsimp only; omega) rfl;rw [e] at w4;exact w4
          ·rw [if_neg (c:=1<1/\_) (by simp),FH,E9] at w4;rw [if_pos (c:=1<1+1/\_) (by rw [c5]; simp)];have e:(2*st+1 - st,y)=(st+1,y):=G5 (by dsimp only; omega) rfl;rw [e] at w4;have g:∀ (p:Prop) [Decidable p] (L:List (Int×Int)),(if 0<1/\p then L else [])=(if 0<1+1/\p then L else []):=fun p _ L=>by simp
           rw [g] at w4;exact w4
        ·rw [if_neg c5];left;exact ⟨_,_,rfl,s3,e3,f3,by omega,keep (by simpa using c5)⟩
       ·rw [bA c4] at rte ⊢;left;exact ⟨_,_,rfl,s3,e3,f3,by omega,keep (by rw [rte]; rfl)⟩
      ·rw [bA c3] at rte ⊢;left;exact ⟨_,_,rfl,s3,e3,f3,by omega,keep (by rw [rte]; rfl)⟩
     ·rintro σ' H3 ⟨ys,o6,rfl,s3,e3,f3,l3,w3⟩;refine ⟨_,_,rfl,s3,f3,l3,?_⟩;simp only [EX,Km] at w3;have g1:(0<0+1+1)=True:=by simp
      have g2:(1<0+1+1)=True:=by simp
      simp only [g1,g2,true_and] at w3;exact w3
    ·rw [bA c2];apply ⟨_,_,rfl,s1,f1,by omega,?_⟩;have e:∀ z,rt cs rs z y=false:=fun z=>by unfold rt; rw [bA c2]; simp
     rw [e,e];simp only [F_,if_false,FH]; exact w1
   ·rw [bA c1];apply ⟨_,_,rfl,s1,f1,by omega,?_⟩;have e:∀ z,rt cs rs z y=false:=fun z=>by unfold rt; rw [bA c1]; simp
    rw [e,e];simp only [F_,if_false,FH]; exact w1
  ·clear s1 f1 w1 lx;rintro σ' H1 ⟨xs,o6,rfl,s1,f1,lx,w1⟩;rw [IX] at w1;generalize hA:((if rt cs rs (x - 1) y=true then [(x - 1,y)] else [])++(if rt cs rs x y=true then [(x+1,y)] else []))=PA at w1;apply cx (fun σ' H'=>∃ xs o6,σ'=[some (.ref q),some (.int x),some (.int y),some (.int ((cs.length:Int)+1)),some (.int ((rs.length:Int)+1)),some (.ref l),o6]/\ah H H'/\H' l=some (.lst xs)/\xs.length<=2+2/\aH H' xs (PA++((if ups cs rs x (y - 1)=true then [(x,y - 1)] else [])++(if ups cs rs x y=true then [(x,y+1)] else [])))) ?_ ?_
   ·left;by_cases c1:0<x
    ·rw [aS c1];left;by_cases c2:x<(cs.length:Int)+1
     ·rw [aS c2];apply ⟨by show 2<=E4; decide,fun b hb=>?_⟩;have sb:=ah.new (o:=HO.tup [V.int (y - 1),V.int y]) hb;have eb:=af (H:=H1) (a:=b) (o:=HO.tup [V.int (y - 1),V.int y]);have f1:=sb _ _ f1;have w1:=w1.mono sb;have s1:=s1.trans sb;generalize upd H1 b (HO.tup [V.int (y - 1),V.int y])=H2 at sb eb f1 w1 s1 ⊢;apply ⟨⟨_,SqT.of eb⟩,qv (K:=K) (a:=b) (xs:=[V.int (y - 1),V.int y]) (fun i σ' H'=>∃ (xs:List V) (o6:Option V),σ'=[some (.ref q),some (.int x),some (.int y),some (.int ((cs.length:Int)+1)),some (.int ((rs.length:Int)+1)),some (.ref l),o6]/\ah H H'/\H' b=some (.tup [V.int (y - 1),V.int y])/\H' l=some (.lst xs)/\xs.length<=2+i/\aH H' xs (PA++((if 0<i/\ups cs rs x (y - 1)=true then [(x,y - 1)] else [])++(if 1<i/\ups cs rs x y=true then [(x,y+1)] else []))))
       ⟨xs,o6,rfl,s1,eb,f1,lx,by rw [if_neg (by simp),if_neg (by simp),FH,FH]; exact w1⟩ (fun i σ' H' _ ⟨_,_,_,_,e,_⟩=>SqT.of e) ?_ ?_⟩
      ·rintro i v σ' H3 hv ⟨ys,o6,rfl,s3,e3,f3,l3,w3⟩;have hi:i<2:=(C_.mp hv).1;obtain ⟨st,rfl,hst⟩:∃ st:Int,v=.int st/\((i=0/\st=y - 1)\/(i=1/\st=y)):=by
        match i,hi,hv with
        | 0,_,hv=>exact ⟨y - 1,(Fo hv).symm,.inl ⟨rfl,rfl⟩⟩
        | 1,_,hv=>exact ⟨y,(Fo hv).symm,.inr ⟨rfl,rfl⟩⟩
       have rte:ups cs rs x st=(decide (0<=st)&&decide (st<(rs.length:Int)+1)&&decide ((st+cs.getD (x - 1).toNat 0)%2=1)):=by
        unfold ups;rw [aS c1,aS c2]; rfl
       have keep:ups cs rs x st=false->aH H3 ys (PA++((if 0<i+1/\ups cs rs x (y - 1)=true then [(x,y - 1)] else [])++(if 1<i+1/\ups cs rs x y=true then [(x,y+1)] else []))):=by
        intro hf;rcases hst with ⟨rfl,rfl⟩ | ⟨rfl,rfl⟩
        ·rw [if_neg (by simp),if_neg (by simp)] at w3;rw [if_neg (by rw [hf]; simp),if_neg (by simp)]; exact w3
        ·rw [if_neg (c:=1<1/\_) (by simp)] at w3;rw [if_neg (c:=1<1+1/\_) (by rw [hf]; simp)];have g:∀ (p:Prop) [Decidable p] (L:List (Int×Int)),(if 0<1/\p then L else [])=(if 0<1+1/\p then L else []):=fun p _ L=>by simp
         rw [g] at w3;exact w3
       left;by_cases c3:0<=st
       ·rw [aS c3] at rte ⊢;left;by_cases c4:st<(rs.length:Int)+1
        ·rw [aS c4] at rte ⊢;apply ⟨q,"col",x - 1,st,s,cs,rs,cs,rfl,pl.mono s3,.inl ⟨rfl,rfl⟩,by omega,by omega,?_⟩;left;have rte:ups cs rs x st=decide ((st+cs.getD (x - 1).toNat 0)%2=1):=rte;rw [<- rte];by_cases c5:ups cs rs x st=true
         ·rw [if_pos c5];apply bN f3 ?_;apply bR (.inl ⟨by decide,by decide⟩) ?_;apply ⟨by show 2<=E4; decide,fun d hd=>?_⟩;have sd:=ah.new (o:=HO.tup [V.int x,V.int (2*st+1 - y)]) hd;apply a9 (sd _ _ f3) (bf (by omega)) ?_;apply ⟨_,_,rfl,(s3.trans sd).later n1,?_,af,by rw [BG,FA]; omega,?_⟩
          ·rw [ar (cA (sd _ _ e3) (sd _ _ f3) (by intro z; cases z))]; exact sd _ _ e3
          ·have w4:=((w3.mono sd).upd (o:=.lst (ys++[V.ref d])) (sd _ _ f3) (by intro ys z; cases z)).snoc (Pt.upd (o:=.lst (ys++[V.ref d])) (q:=(x,2*st+1 - y)) ⟨d,rfl,af⟩ (sd _ _ f3) (by intro ys z; cases z));rcases hst with ⟨rfl,rfl⟩ | ⟨rfl,rfl⟩
           ·rw [if_neg (by simp),if_neg (by simp),FH,FH] at w4;rw [if_pos (by rw [c5]; simp),if_neg (by simp),FH];have e:(x,2*(y - 1)+1 - y)=(x,y - 1):=G5 rfl (by dsimp only; omega);rw [e] at w4;exact w4
           ·rw [if_neg (c:=1<1/\_) (by simp),FH,E9] at w4;rw [if_pos (c:=1<1+1/\_) (by rw [c5]; simp)];have e:(x,2*st+1 - st)=(x,st+1):=G5 rfl (by dsimp only; omega);rw [e] at w4;have g:∀ (p:Prop) [Decidable p] (L:List (Int×Int)),(if 0<1/\p then L else [])=(if 0<1+1/\p then L else []):=fun p _ L=>by simp
            rw [g] at w4;exact w4
         ·rw [if_neg c5];left;exact ⟨_,_,rfl,s3,e3,f3,by omega,keep (by simpa using c5)⟩
        ·rw [bA c4] at rte ⊢;left;exact ⟨_,_,rfl,s3,e3,f3,by omega,keep (by rw [rte]; rfl)⟩
       ·rw [bA c3] at rte ⊢;left;exact ⟨_,_,rfl,s3,e3,f3,by omega,keep (by rw [rte]; rfl)⟩
      ·rintro σ' H3 ⟨ys,o6,rfl,s3,e3,f3,l3,w3⟩;refine ⟨_,_,rfl,s3,f3,l3,?_⟩;simp only [EX,Km] at w3;have g1:(0<0+1+1)=True:=by simp
       have g2:(1<0+1+1)=True:=by simp
       simp only [g1,g2,true_and] at w3;exact w3
     ·rw [bA c2];apply ⟨_,_,rfl,s1,f1,by omega,?_⟩;have e:∀ z,ups cs rs x z=false:=fun z=>by unfold ups; rw [bA c2]; simp
      rw [e,e];simp only [F_,if_false,FH]; exact w1
    ·rw [bA c1];apply ⟨_,_,rfl,s1,f1,by omega,?_⟩;have e:∀ z,ups cs rs x z=false:=fun z=>by unfold ups; rw [bA c1]; simp
     rw [e,e];simp only [F_,if_false,FH]; exact w1
   ·clear s1 f1 w1 lx;rintro σ' H1 ⟨xs,o6,rfl,s1,f1,lx,w1⟩;left;rw [<- hA] at w1;refine wm f1 w1 (AM cs rs (x,y)) (vP cs rs (x,y)) fun l2 ys n2 w2=>?_;refine z l2 ys _ (s1.trans (ah.new n2)) (s1.free n2) af w2
noncomputable def ptD (q:Int×Int):PyData:=.tuple [.int q.1,.int q.2]
theorem zE {H:Hp} {v:V} {q:Int×Int} (h:Pt H v q):Rep H (ptD q) v:=by
 obtain ⟨a,rfl,ha⟩:=h;unfold ptD;simp only [Rep,RepL];exact ⟨a,_,rfl,ha,_,_,rfl,rfl,_,_,rfl,rfl,rfl⟩
theorem lN {H:Hp}:∀ {xs:List V} {ps:List (Int×Int)},aH H xs ps->RepL H (ps.map ptD) xs
 | [],[],_=>by simp only [Ir,RepL]
 | [],_::_,h=>by have:=h.1; simp at this
 | _::_,[],h=>by have:=h.1; simp at this
 | v::xs,p::ps,h=>by
  obtain ⟨v',r,e,h1,h2⟩:=h.inv
  cases e;simp only [Fg,RepL];exact ⟨v,xs,rfl,zE h1,lN h2⟩
theorem oV {H:Hp} {l:Δ} {xs:List V} {ps:List (Int×Int)} (e:H l=some (.lst xs)) (h:aH H xs ps):Rep H (.list (ps.map ptD)) (.ref l):=by
 simp only [Rep];exact ⟨l,xs,rfl,e,lN h⟩
theorem oE:∀ ps:List (Int×Int),Gx (ps.map ptD)=true
 | []=>rfl
 | _::r=>by simp [Gx,JE,ptD,oE r]
theorem kI {H:Hp} {xs:List V} {ps:List (Int×Int)} (h:aH H xs ps) {ys:List V} (hs:∀ v∈ys,v∈xs):aH H ys (ys.map (cV H)):=by
 refine ⟨by rw [Θ],fun i v q h1 h2=>?_⟩;rw [FE,h1] at h2;rw [<- Fo h2];exact h.mem v (hs v (FN h1))
theorem C4 {H:Hp} {xs:List V} {ps:List (Int×Int)} (h:aH H xs ps) (j:Nat):aH H (xs.drop j++xs.take j) (ps.drop j++ps.take j):=by
 have:=kI h (ys:=xs.drop j++xs.take j) (fun v hv=>(E_.mp hv).elim GP Fp)
 rwa [GL,MW,MV,h.map] at this
theorem A0 {H:Hp} {v:V} {xs:List V} {p:Int×Int} {ps:List (Int×Int)} (h:aH H (v::xs) (p::ps)):aH H ([v]++xs.reverse) (p::ps.reverse):=by
 have:=kI h (ys:=[v]++xs.reverse) (fun u hu=>by
  rcases E_.mp hu with z | z
  ·rw [A_.mp z]; exact θ
  ·exact Ξ _ (Ga.mp z))
 have e:=h.map;rw [Fg] at e;injection e with e1 e2
 rwa [GL,List.map_reverse,e2,Nd,e1] at this
theorem mT {cs rs:List Int} {a b:Int×Int} {l:List (Int×Int)} (r:Sm.Rnd (nb cs rs) a b l) (hm:∀ x∈a::b::l,Ts.ple a x) :
  (¬ b.1=a.1->Sm.dn (nb cs rs) true (a::b::l))/\(b.1=a.1->Sm.dn (nb cs rs) true (a::(b::l).reverse)):=by
 have G:=dk cs rs;have h2:=r.two G a θ;have sh:=r.shut G;have nbl:=qG h2 fun x hx=>hm x (sh a θ x hx);have hb:=r.adj;rw [nbl] at hb;constructor
 ·intro h;refine ⟨(fun z=>by cases z),fun _=>⟨a,b,l,rfl,r,hm,?_⟩⟩;rcases E_.mp hb with z | z
  ·exact absurd (by rw [A_.mp z]) h
  ·exact A_.mp z
 ·intro h;obtain ⟨m,e,r'⟩:=r.back G;refine ⟨(fun z=>by cases z),fun _=>⟨a,_,m,e,r',fun x hx=>hm x ?_,?_⟩⟩
  ·rcases BF.mp hx with z | z
   ·rw [z]; exact θ
   ·exact Ξ _ (Ga.mp z)
  ·obtain ⟨l1,l2⟩:=r.last G;rw [nbl] at l1;rcases E_.mp l1 with z | z
   ·exfalso
    have z:=A_.mp z;rcases E_.mp hb with y | y
    ·exact l2 (z.trans (A_.mp y).symm)
    ·have y:=A_.mp y;rw [y] at h;dsimp only at h;omega
   ·exact A_.mp z
def sp_aX:Sp:=fun vs H Q _=>∃ (l:Δ) (zs:List V) (a b:Int×Int) (m:List (Int×Int)) (cs rs:List Int),vs=[.ref l]/\H l=some (.lst zs)/\aH H zs (a::b::m)/\Sm.Rnd (nb cs rs) a b m/\zs.length<=1681 /\
 ∀ T l' ys M H',ah H H'->H T=none->H l'=none->H' T=some (.tup [.bl true,.ref l'])->H' l'=some (.lst ys)->aH H' ys M->Sm.dn (nb cs rs) true M->(∀ x∈a::b::m,x∈M)->Q (.ref T) H'
theorem ok_aX (T:Txt K mg t):aN P w K mg base CX0 1 t.f_aX t.d_aX ["_law_line"] sp_aX:=by
 refine T.F_aX.ok sc_aX (by walk_at "l") (fun _ _ _ s H vs Q E hr h=>?_)
 ·obtain ⟨l,zs,a,b,m,cs,rs,rfl,el,py,rd,lz,k⟩:=h;have G:=dk cs rs;refine aJ (aM 1 sc_aX.nd (cL FF PySem.F.slot_list_index PySem.F.type_list_index (vO hr.units) (pv 0) (aa (aw (qe K rfl rfl hr.units) rfl T.no_min (by rfl) (aa (pv 0) ae)) ae))) fun _ _=>aJ (aM 0 sc_aX.nd (aB lE (b9 (cC K rfl) (pv 0) (bE (pv 1)) de) (b9 (cC K rfl) (pv 0) de (bE (pv 1))))) fun _ _=>aJ (cv (aO (aW b8 (aD (aY K rfl) (aD (aq K rfl) (pv 0) ag) ag) (aD (aY K rfl) (aD (aq K rfl) (pv 0) ag) ag)) (ai (aM 0 sc_aX.nd (aB lE (bT (aa (aD (aq K rfl) (pv 0) ag) ae)) (lF K rfl (pv 0) (bE ag) (bE (cO bY ag)))))) aC)) fun _ _=>cM (aA (bJ (aa dE (aa (pv 0) ae)))) fun _ _=>?_;apply bN el ?_;left;have hne:zs≠[]:=fun z=>by have:=py.1; rw [z] at this; simp at this
  refine uS (cV H) el hne (fun v hv=>py.mem v hv) fun v hv hmin=>?_;left;obtain ⟨c,rfl,hc⟩:=py.mem v hv;have hpm:cV H (.ref c)∈a::b::m:=by rw [<- py.map]; exact F1.mpr ⟨_,hv,rfl⟩
  have hall:∀ x∈a::b::m,Ts.ple (cV H (.ref c)) x:=fun x hx=>by
   rw [<- py.map] at hx;obtain ⟨u,hu,rfl⟩:=F1.mp hx;exact hmin u hu
  generalize cV H (.ref c)=p0 at hc hpm hall;clear hmin;obtain ⟨j,hj⟩:=GS.mp hpm;have hjl:=(C_.mp hj).1;have ly:=py.1;refine ⟨l,zs,(a::b::m).map ptD,ptD p0,.ref c,j,ptD p0,rfl,rfl,el,lN py,zE ⟨c,rfl,hc⟩,oE _,by simp [ptD,JE,Gx],by simp [ptD,JD,HV],by rw [FE,hj]; rfl,by unfold ptD; rw [Az,aS rfl],fun i dm hi hdm=>?_,?_⟩
  ·rw [FE] at hdm;obtain ⟨pi,hpi,rfl⟩:=KA.mp hdm;unfold ptD;rw [Az,bA];intro z;have:=(List.getElem?_inj (i:=i) (j:=j) (by omega) rd.nd).mp (by rw [hpi,hj,show pi=p0 from z])
   omega
  apply fc el fun l1 n1=>?_;rw [sf];have s1:=ah.new (o:=HO.lst (zs.drop j)) n1;have e1:=af (H:=H) (a:=l1) (o:=HO.lst (zs.drop j));generalize upd H l1 (HO.lst (zs.drop j))=H1 at s1 e1 ⊢;apply fc (s1 _ _ el) fun l2 n2=>?_;rw [si];have s2:=ah.new (o:=HO.lst (zs.take j)) n2;have e2:=af (H:=H1) (a:=l2) (o:=HO.lst (zs.take j));generalize upd H1 l2 (HO.lst (zs.take j))=H2 at s2 e2 ⊢;apply lL (s2 _ _ e1) e2 (by rw [Fw,Fl]; exact Fe (by omega:_<=1999) (by decide)) fun l3 n3=>?_;have s12:=s1.trans s2;have nl3:H l3=none:=s12.free n3;have s3:=ah.new (o:=HO.lst (zs.drop j++zs.take j)) n3;have e3:=af (H:=H2) (a:=l3) (o:=HO.lst (zs.drop j++zs.take j));generalize upd H2 l3 (HO.lst (zs.drop j++zs.take j))=H3 at s3 e3 ⊢;have s3:=s12.trans s3;have py3:=(C4 py j).mono s3;obtain ⟨a1,b1,l1',eM,r1⟩:=Sm.Rnd.rot G (L:=a::b::m) j (by omega) ⟨a,b,m,rfl,rd⟩
  have ea1:a1=p0:=by
   rw [F8 hjl,G8] at eM;injection eM with e _;rw [<- e];exact (C_.mp hj).2
  subst ea1;have memr:∀ x∈a::b::m,x∈a1::b1::l1':=fun x hx=>by
   rw [<- eM];rw [<- GI j (a::b::m)] at hx;exact E_.mpr ((E_.mp hx).symm)
  have memb:∀ x∈a1::b1::l1',x∈a::b::m:=fun x hx=>by
   rw [<- eM] at hx;exact (E_.mp hx).elim GP Fp
  obtain ⟨tA,tB⟩:=mT r1 fun x hx=>hall x (memb x hx);rw [eM] at py3;have l3':(zs.drop j++zs.take j).length<=1681:=by rw [BG,Fw,Fl]; omega
  generalize zs.drop j++zs.take j=ws at e3 py3 l3';obtain ⟨v0,r0,rfl,hv0,w0⟩:=py3.inv;obtain ⟨c0,rfl,hc0⟩:=hv0;obtain ⟨v1,r1',rfl,hv1,w1⟩:=w0.inv;obtain ⟨c1,rfl,hc1⟩:=hv1;apply cx (fun σ' H'=>∃ (l':Δ) (ys:List V) (M:List (Int×Int)),σ'=[some (.ref l'),some (.int (j:Nat))]/\ah H H'/\H l'=none/\H' l'=some (.lst ys)/\aH H' ys M/\Sm.dn (nb cs rs) true M/\∀ x∈a::b::m,x∈M) ?_ ?_
  ·apply aG (SqL.of e3) (cg (j:=1) rfl) ?_;apply bu (SqT.of hc1) (v:=.int b1.1) rfl ?_;apply aG (SqL.of e3) (cg (j:=0) rfl) ?_;apply bu (SqT.of hc0) (v:=.int a1.1) rfl ?_;left;by_cases hx:b1.1=a1.1
   ·rw [aS hx];apply aG (SqL.of e3) (cg (j:=0) rfl) ?_;apply ⟨by show 1<=E4; decide,fun l4 n4=>?_⟩;have s4:=ah.new (o:=HO.lst [V.ref c0]) n4;have e4:=af (H:=H3) (a:=l4) (o:=HO.lst [V.ref c0]);generalize upd H3 l4 (HO.lst [V.ref c0])=H4 at s4 e4 ⊢;apply uU ?_;apply ⟨rfl,rfl,uT (s4 _ _ e3) (by simp) fun l5 n5=>?_⟩;have s5:=ah.new (o:=HO.lst ((V.ref c0::V.ref c1::r1').drop 1).reverse) n5;have e5:=af (H:=H4) (a:=l5) (o:=HO.lst ((V.ref c0::V.ref c1::r1').drop 1).reverse);generalize upd H4 l5 (HO.lst ((V.ref c0::V.ref c1::r1').drop 1).reverse)=H5 at s5 e5 ⊢;refine lL (s5 _ _ e4) e5 (by rw [IC,Fw,FA]; exact Fe (by omega:_<=1999) (by decide)) fun l6 n6=>?_;left;have s45:=s3.trans (s4.trans s5);have s6:=ah.new (o:=HO.lst ([V.ref c0]++((V.ref c0::V.ref c1::r1').drop 1).reverse)) n6;refine ⟨l6,_,_,rfl,s45.trans s6,s45.free n6,af,((A0 py3).mono (s4.trans (s5.trans s6))),tB hx,fun x hx=>?_⟩;rcases BF.mp (memr x hx) with z | z
    ·rw [z]; exact θ
    ·exact Ξ _ (Ga.mpr z)
   ·rw [bA hx];left;exact ⟨l3,_,_,rfl,s3,nl3,e3,py3,tA hx,memr⟩
  ·rintro σ2 H4 ⟨l',ys,M,rfl,s4,n4,e4,p4,td,mm⟩;apply ⟨by show 2<=E4; decide,fun T1 nT=>?_⟩;left;have sT:=ah.new (o:=HO.tup [V.bl true,V.ref l']) nT;exact k T1 l' ys M _ (s4.trans sT) (s4.free nT) n4 af (sT _ _ e4) (p4.mono sT) td mm
theorem uv {H:Hp} {xs:List V} {ps:List (Int×Int)} (h:aH H xs ps) (z:Int×Int):aH H (xs.filter fun v=>!decide (cV H v=z)) (ps.filter fun c=>!decide (c=z)):=by
 have:=kI h (ys:=xs.filter fun v=>!decide (cV H v=z)) (fun v hv=>(G1.mp hv).1)
 rw [<- h.map,List.filter_map];exact this
theorem rf {H:Hp} {Q:VK} {l m:Δ} {xs:List V} {ps:List (Int×Int)} (e:H l=some (.lst xs)) (h:aH H xs ps) (e':H m=some (.lst [])) (q:Q (.bl ps.isEmpty) H) (hl:ps.length<=4):tj false (.ref l) (.ref m) H Q:=by
 refine ⟨.list (ps.map ptD),.list [],oV e h,by rw [Rep]; exact ⟨m,[],rfl,e',by rw [RepL]⟩,?_,by decide,?_⟩
 ·unfold IM;rw [GB];refine ⟨by simp only [JE]; exact oE ps,aS ?_⟩
  have dp:∀ ps:List (Int×Int),HV (ps.map ptD)<=1:=by
   intro ps
   induction ps with
   | nil=>exact Fi _
   | cons q r ih =>
    have e:JD (ptD q)<=1:=by simp [ptD,JD,HV]
    simp only [Fg,HV];omega
  have:=dp ps
  simp only [JD];omega
 ·rw [if_neg (by decide)]
  cases ps with
  | nil => simp only [Ir, GH, Gw]; exact q
  | cons p r => simp only [Fg, GH, Gw]; exact q
theorem xx {α:Type} {xs:List α} (h:2<=xs.length):atI xs (-2)=xs[xs.length - 2]?:=by
 have e:ixN xs.length (-2)=some (xs.length - 2):=by
  unfold ixN;rw [if_neg (by decide),if_pos (by omega)]
  congr 1
  omega
 unfold atI;rw [e]; rfl
theorem ow:∀ (a b:Int×Int) (m:List (Int×Int)),∃ ps,a::b::m=ps++[(Sm.fin a b m).1,(Sm.fin a b m).2]
 | a,b,[]=>⟨[],rfl⟩
 | a,b,c::m=>by
  obtain ⟨ps,e⟩:=ow b c m;exact ⟨a::ps,by rw [e]; rfl⟩
theorem qY {H:Hp} {xs:List V} {ps:List (Int×Int)} {p q:Int×Int} (h:aH H xs (ps++[p,q])):∃ v,atI xs (-2)=some v/\Pt H v p:=by
 have hl:=h.1;rw [BG] at hl;have hl:xs.length=ps.length+2:=hl;refine ⟨xs[ps.length]'(by omega),by rw [xx (by omega),show xs.length - 2=ps.length by omega]; exact Ω _,h.2 ps.length _ p (Ω _) ?_⟩;rw [F4 (BE _),Kf]; rfl
theorem vo {xs:List V}:di xs none (some (-1))=xs.dropLast:=by
 unfold di;rw [HT.gB,IJ,List.dropLast_eq_take]
 congr 1
 unfold HT.sIx;simp
 omega
theorem A1 {H:Hp} {xs:List V} {ps:List (Int×Int)} {p:Int×Int} (h:aH H xs (ps++[p])):aH H xs.dropLast ps:=by
 have:=kI h (ys:=xs.dropLast) (fun v hv=>List.dropLast_subset _ hv)
 rwa [List.map_dropLast,h.map,Je] at this
theorem yZ {H:Hp}:∀ {xs ys:List V} {ps qs:List (Int×Int)},aH H xs ps->aH H ys qs->aH H (xs++ys) (ps++qs)
 | [],_,[],_,_,h=>h
 | [],_,_::_,_,h,_=>by have:=h.1; simp at this
 | _::_,_,[],_,h,_=>by have:=h.1; simp at this
 | v::xs,ys,p::ps,qs,h,h'=>by
  obtain ⟨v',r,e,h1,h2⟩:=h.inv
  cases e;exact aH.cons h1 (yZ h2 h')
def sp_a3:Sp:=fun vs H Q _=>∃ (pp a:Δ) (q:Int×Int) (s:Int) (cs rs:List Int),vs=[.ref pp,.ref a]/\d0 true H pp s cs rs/\cs.length<=39/\rs.length<=39/\H a=some (.tup [.int q.1,.int q.2])/\dD cs rs q /\
 (nb cs rs q=[]->∀ H',ah H H'->Q .non H') /\
 (nb cs rs q≠[]->∀ TT l f ys L H',ah H H'->H TT=none->H l=none->H' TT=some (.tup [.bl f,.ref l])->H' l=some (.lst ys)->Sm.dn (nb cs rs) f L->q∈L->aH H' ys L->Q (.ref TT) H')
theorem ok_a3 (T:Txt K mg t):aN P w K mg base CX0 3 t.f_a3 t.d_a3 ["_law_plan_here","_law_point"] sp_a3:=by
  refine T.F_a3.ok sc_a3 (fun vs H Q E h=>?_) (fun cdv A outer s H vs Q E hr h=>?_)
  · obtain ⟨pp,a,q,s,cs,rs,rfl,_⟩:=h; rfl
  · obtain ⟨pp,a,q,s,cs,rs,rfl,pl,lc,lr,ha,iq,k0,k⟩:=h
    have G:=dk cs rs;refine aJ (aM 2 sc_a3.nd (aj (ok_aQ T) (rmo hr) rfl T.mg_aQ T.F_aQ.kp T.b_aQ .nil ao (aa (pv 0) (aa (aD (aY K rfl) (pv 1) ag) (aa (aD (aY K rfl) (pv 1) ag) ae))))) fun _ _=>aJ (aO (aW (jG hr.units) (pv 2) (bT ae)) (ai (aA jI)) aC) fun _ _=>aJ (gw (i:=3) sc_a3.nd rfl (Kn rfl) (bT (aa (pv 1) (aa (aD (aq K rfl) (pv 2) ag) ae)))) fun _ _=>aJ (cv (gx F5 (aW (jH hr.units) (aD (aq K rfl) (pv 3) (cO bY ag)) (pv 1)) (aQ (oQ (i:=4) sc_a3.nd rfl (GJ rfl) (N:=["_law_one","_law_line"]) (cap:=[none,some 3]) rfl ⟨rfl,rfl,rfl,rfl,rfl,rfl⟩ (bQ (aj (ok_aQ T) (rmo hr) rfl T.mg_aQ T.F_aQ.kp T.b_aQ .nil ao (aa (pv 0) (aa (aD (aY K rfl) (aD (aq K rfl) (pv 3) (cO bY ag)) ag) (aa (aD (aY K rfl) (aD (aq K rfl) (pv 3) (cO bY ag)) ag) ae))))) (fun _ _ _=>(aK (i:=0) (show (["_law_one","_law_line"]:List Str).Nodup by decide +kernel) rfl (GJ rfl))) (fun _ _ _=>(fR (aW (jH hr.units) (pv 0) (aD (aq K rfl) (pv 1) (cO bY ag))))) (fun _ _ _=>(pv 0)) (by rfl)) (aQ (aO (aW (jG hr.units) (pv 4) (bT ae)) (ai yU) aC) (ai (bg (cL FF FW FU a8 (pv 3) (aa (aD (aq K rfl) (pv 4) ag) ae)))))))) fun _ _=>aJ (aO (aW (jG hr.units) (aD (aq K rfl) (pv 3) (cO bY ag)) (pv 1)) (ai (aA (aj (ok_aX T) (rmo hr) rfl T.mg_aX T.F_aX.kp T.b_aX .nil ao (aa (b9 (cC K rfl) (pv 3) de (bE (cO bY ag))) ae)))) aC) fun _ _=>aJ (cv (aO (aW b8 (aw (aU K rfl) rfl T.no_len (by rfl) (aa (pv 2) ae)) ag) (aQ (gw (i:=5) sc_a3.nd rfl (Kn rfl) (bT (aa (pv 1) (aa (aD (aq K rfl) (pv 2) ag) ae)))) (aQ (cv (gx F5 (aW b8 (aw (aU K rfl) rfl T.no_len (by rfl) (aa (aj (ok_aQ T) (rmo hr) rfl T.mg_aQ T.F_aQ.kp T.b_aQ .nil ao (aa (pv 0) (aa (aD (aY K rfl) (aD (aq K rfl) (pv 5) (cO bY ag)) ag) (aa (aD (aY K rfl) (aD (aq K rfl) (pv 5) (cO bY ag)) ag) ae)))) ae)) ag) (ai (bg (cL FF FW FU a8 (pv 5) (aa (aD (aq K rfl) (bP (N:=["_law_one","_law_back"]) (cap:=[none,some 5]) rfl ⟨rfl,rfl,rfl,rfl,rfl,rfl⟩ (bQ (aj (ok_aQ T) (rmo hr) rfl T.mg_aQ T.F_aQ.kp T.b_aQ .nil ao (aa (pv 0) (aa (aD (aY K rfl) (aD (aq K rfl) (pv 5) (cO bY ag)) ag) (aa (aD (aY K rfl) (aD (aq K rfl) (pv 5) (cO bY ag)) ag) ae))))) (fun _ _ _=>(aK (i:=0) (show (["_law_one","_law_back"]:List Str).Nodup by decide +kernel) rfl (GJ rfl))) (fun _ _ _=>(fR (aW (jH hr.units) (pv 0) (aD (aq K rfl) (pv 1) (cO bY ag))))) (fun _ _ _=>(pv 0))) ag) ae)))))) (ai (gw (i:=3) sc_a3.nd rfl (Kn rfl) (aB lE (lF K rfl (pv 5) (bE ag) (bE (cO bY ag))) (pv 3)))))) aC)) fun _ _=>aJ (cv (aO (aW (yB hr.units) (aD (aq K rfl) (pv 3) (cO bY ag)) (aD (aq K rfl) (pv 3) ag)) (ai (gw (i:=3) sc_a3.nd rfl (Kn rfl) (vZ K rfl (pv 3) (bE (cO bY ag))))) aC)) fun _ _=>cM (aA (bJ (aa dE (aa (pv 3) ae)))) fun _ _=>?_;apply bu (SqT.of ha) (v:=.int q.1) rfl ?_;apply bu (SqT.of ha) (v:=.int q.2) rfl ?_;apply ⟨pp,q.1,q.2,s,cs,rs,rfl,pl,fun ln us H1 s1 nn en wn=>?_⟩;have wn:aH H1 us (nb cs rs q):=wn;apply ⟨Fi _,fun l0 n0=>?_⟩;have s2:=ah.new (o:=HO.lst []) n0;have e0:=af (H:=H1) (a:=l0) (o:=HO.lst []);generalize upd H1 l0 (HO.lst [])=H2 at s2 e0 ⊢;left;have wn:=wn.mono s2;have en:=s2 _ _ en;have s2:=s1.trans s2;refine rf en wn e0 ?_ (oF cs rs q)
    match hz:nb cs rs q,wn with
    | [],wn =>
      left;exact k0 hz _ s2
    | y::eC,wn =>
      have k:=k (by rw [hz]; simp);have hy:y∈nb cs rs q:=by rw [hz]; exact θ
      obtain ⟨v,r,e,hv,wr⟩:=wn.inv;subst e;obtain ⟨b,rfl,hb⟩:=hv;rw [show (y::eC).isEmpty=false from rfl];apply aG (SqL.of en) (cg (j:=0) rfl) ?_;apply ⟨by show 2<=E4; decide,fun ll nl=>?_⟩;have s3:=ah.new (o:=HO.lst [V.ref a,V.ref b]) nl;have e3:=af (H:=H2) (a:=ll) (o:=HO.lst [V.ref a,V.ref b]);generalize upd H2 ll (HO.lst [V.ref a,V.ref b])=H3 at s3 e3 ⊢;have w3:aH H3 [V.ref a,V.ref b] [q,y]:=aH.cons ⟨a,rfl,s3 _ _ (s2 _ _ ha)⟩ (aH.cons ⟨b,rfl,s3 _ _ hb⟩ aH.nil);have nll:H ll=none:=s2.free nl;have nlh2:=nl;have en3:=s3 _ _ en;have wn3:=wn.mono s3;have s3:=s2.trans s3;apply cx (fun σ' H'=>∃ (o4:Option V) (xs:List V) (m':List (Int×Int)),σ'=[some (.ref pp),some (.ref a),some (.ref ln),some (.ref ll),o4,none]/\ah H H'/\H' ln=some (.lst (V.ref b::r))/\aH H' (V.ref b::r) (y::eC)/\H' ll=some (.lst xs)/\aH H' xs (q::y::m')/\Sm.Go (nb cs rs) q y m'/\m'.length<=1681 /\
          ((∃ m0,m'=m0++[q]/\Sm.Rnd (nb cs rs) q y m0)\/(q∉y::m'/\Sm.oth (nb cs rs) (Sm.fin q y m').1 (Sm.fin q y m').2=[]))) ?_ ?_
      · apply ⟨fun m σ' H'=>∃ (o4:Option V) (xs:List V) (m':List (Int×Int)),m=2000 - m'.length/\σ'=[some (.ref pp),some (.ref a),some (.ref ln),some (.ref ll),o4,none]/\ah H H'/\H' ln=some (.lst (V.ref b::r))/\aH H' (V.ref b::r) (y::eC)/\H' ll=some (.lst xs)/\aH H' xs (q::y::m')/\Sm.Go (nb cs rs) q y m'/\m'.length<=1681/\q∉(y::m').dropLast,
          ⟨_,none,_,[],rfl,rfl,s3,en3,wn3,e3,w3,trivial,Fi _,by simp⟩,?_⟩
        rintro m σ' H4 ⟨o4,xs,m',rfl,rfl,s4,en4,wn4,e4,w4,go,lm,nd0⟩;obtain ⟨ps,eps⟩:=dU (a:=q) (b:=y) (m:=m');obtain ⟨vl,hvl,plast⟩:=eV (by rw [<- eps]; exact w4);obtain ⟨al,rfl,hal⟩:=plast;apply aG (SqL.of e4) hvl ?_;apply lM hal (s4 _ _ ha) ?_;by_cases c:(Sm.fin q y m').2=q
        · rw [aS (show (((Sm.fin q y m').2.1,(Sm.fin q y m').2.2):Int×Int)=(q.1,q.2) from c)]
          apply ⟨_,xs,m',rfl,s4,en4,wn4,e4,w4,go,lm,.inl ?_⟩
          cases m' with
          | nil=>exact absurd (show y=q from c) (fun e=>G.irr q (by rw [e] at hy; exact hy))
          | cons c0 mm =>
            obtain ⟨m0,z,hm⟩:∃ m0 z,c0::mm=m0++[z]:=⟨(c0::mm).dropLast,(c0::mm).getLast (by simp),(GN _).symm⟩
            rw [hm] at go nd0 c ⊢;rw [Sm.ft] at c;dsimp only at c;subst c;obtain ⟨g1,g2⟩:=Sm.cT.mp go;have e:(y::(m0++[z])).dropLast=y::m0:=by rw [<- G8,Je]
            rw [e] at nd0;exact ⟨m0,rfl,hy,g1,g2,Sm.cD G hy m0 g1 fun x=>nd0 (Ξ _ x)⟩
        · rw [bA (show ¬ (((Sm.fin q y m').2.1,(Sm.fin q y m').2.2):Int×Int)=(q.1,q.2) from c)]
          have nq:q∉y::m':=fun x=>by
            have e:y::m'=(y::m').dropLast++[(Sm.fin q y m').2]:=by
              have h1:=Sm.gp q y m';rw [KD] at h1;obtain ⟨d,hd⟩:=List.getLast?_eq_some_iff.mp h1;rw [hd,Je]
            rw [e] at x;rcases E_.mp x with x | x
            · exact nd0 x
            · exact c (A_.mp x).symm
          have nd:=Sm.cD G hy m' go fun x=>nq (Ξ _ x);have few:=i0 lc lr nd (fun x hx=>by
            rcases BF.mp hx with e | hx
            · rw [e]; exact iq
            · exact fH hy go x hx)
          rw [EX,EX] at few;obtain ⟨ps2,eps2⟩:=ow q y m';obtain ⟨v2,hv2,pl2⟩:=qY (by rw [<- eps2]; exact w4);obtain ⟨a2,rfl,ha2⟩:=pl2;apply ⟨fun σ' H'=>∃ (o4:Option V) (xs:List V) (qc:Int×Int),σ'=[some (.ref pp),some (.ref a),some (.ref ln),some (.ref ll),o4,none]/\ah H H'/\H' ln=some (.lst (V.ref b::r))/\aH H' (V.ref b::r) (y::eC)/\H' ll=some (.lst xs)/\aH H' xs (q::y::(m'++[qc]))/\Sm.oth (nb cs rs) (Sm.fin q y m').1 (Sm.fin q y m').2=[qc],?_,?_⟩
          · rintro σ' H' ⟨o4,xs,qc,rfl,s5,en5,wn5,e5,w5,eo⟩
            refine ⟨_,?_,o4,xs,m'++[qc],rfl,rfl,s5,en5,wn5,e5,w5,Sm.cT.mpr ⟨go,eo⟩,?_,?_⟩
            · rw [BG,FA]; omega
            · rw [BG,FA]; omega
            · rw [<- G8,Je]; exact nq
          · apply aG (SqL.of e4) hvl ?_;apply bu (SqT.of hal) (v:=.int (Sm.fin q y m').2.1) rfl ?_;apply aG (SqL.of e4) hvl ?_;apply bu (SqT.of hal) (v:=.int (Sm.fin q y m').2.2) rfl ?_;apply ⟨pp,(Sm.fin q y m').2.1,(Sm.fin q y m').2.2,s,cs,rs,rfl,pl.mono s4,fun lj us H5 s5 nj ej wj=>?_⟩;have wj:aH H5 us (nb cs rs (Sm.fin q y m').2):=wj;apply ⟨⟨_,SqL.of ej⟩,fun lw nw=>?_⟩;have l4:us.length<=4:=by rw [wj.1]; exact oF cs rs _
            refine fE (fun v=>v) (fun v=>!decide (cV H5 v=(Sm.fin q y m').1)) (SqL.of ej) (by omega) nw (fun x o H6 Q' hx s6 q=>?_) (fun x o H6 Q' hx _ s6 q=>?_) (fun H6 s6 e6=>?_)
            · apply aG (SqL.of (s6 _ _ (s5 _ _ e4))) hv2 ?_;left;obtain ⟨ax,rfl,hax⟩:=wj.mem x hx;refine lM (s6 _ _ hax) (s6 _ _ (s5 _ _ ha2)) ?_;left;exact q H6 (ah.refl _)
            · left
              exact q H6 (ah.refl _)
            rw [Mr] at e6;have w6:=(uv wj (Sm.fin q y m').1).mono s6;have w6:aH H6 _ (Sm.oth (nb cs rs) (Sm.fin q y m').1 (Sm.fin q y m').2):=w6;generalize (us.filter fun v=>!decide (cV H5 v=(Sm.fin q y m').1))=ws at e6 w6;have s46:=s5.trans s6;have en6:=s46 _ _ en4;have wn6:=wn4.mono s46;have e46:=s46 _ _ e4;have w46:=w4.mono s46;have s46:=s4.trans s46;apply ⟨Fi _,fun l7 n7=>?_⟩;have s7:=ah.new (o:=HO.lst []) n7;have e7:=af (H:=H6) (a:=l7) (o:=HO.lst []);generalize upd H6 l7 (HO.lst [])=H7 at s7 e7 ⊢;have hadj:=G.sym (Sm.c7 G hy go);apply rf (s7 _ _ e6) (w6.mono s7) e7 ?_ (by rcases Sm.iD G hadj with h | ⟨z,h⟩<;>rw [h]<;>simp);rcases Sm.iD G hadj with h | ⟨qc,h⟩
            · rw [h]
              left;exact ⟨_,xs,m',rfl,s46.trans s7,s7 _ _ en6,wn6.mono s7,s7 _ _ e46,w46.mono s7,go,lm,.inr ⟨nq,h⟩⟩
            · rw [h] at w6 ⊢
              rw [show ([qc]:List (Int×Int)).isEmpty=false from rfl];left;obtain ⟨vc,r6,rfl,hvc,_⟩:=w6.inv;obtain ⟨cc,rfl,hcc⟩:=hvc;have e47:=s7 _ _ e46;refine bN e47 ?_;apply aG (SqL.of (s7 _ _ e6)) (cg (j:=0) rfl) ?_;left;have lx:=w4.1;rw [EX,EX] at lx;refine a9 e47 (bf (by omega)) ?_;have w8:=((w46.mono s7).upd (o:=.lst (xs++[V.ref cc])) e47 (by intro ys z; cases z)).snoc (Pt.upd (o:=.lst (xs++[V.ref cc])) (q:=qc) ⟨cc,rfl,s7 _ _ hcc⟩ e47 (by intro ys z; cases z));have lnl:ln≠ll:=by intro z; rw [z,nlh2] at en; cases en
              refine ⟨_,_,qc,rfl,(s46.trans s7).later (o:=.lst (xs++[V.ref cc])) nll,(ar lnl).trans (s7 _ _ en6),(wn6.mono s7).upd e47 (by intro ys z; cases z),af,?_,rfl⟩
              simpa using w8
      · rintro σ2 H4 ⟨o4,xs,m',rfl,s4,en4,wn4,e4,w4,go,lm,hcase⟩
        obtain ⟨ps,eps⟩:=dU (a:=q) (b:=y) (m:=m');obtain ⟨vl,hvl,plast⟩:=eV (by rw [<- eps]; exact w4);obtain ⟨al,rfl,hal⟩:=plast;have lx:=w4.1;rw [EX,EX] at lx;apply aG (SqL.of e4) hvl ?_;apply Dk hal (s4 _ _ ha) ?_;rcases hcase with ⟨m0,rfl,rn⟩ | ⟨nq,hst⟩
        · have c:(Sm.fin q y (m0++[q])).2=q:=by rw [Sm.ft]
          rw [aS (show (((Sm.fin q y (m0++[q])).2.1,(Sm.fin q y (m0++[q])).2.2):Int×Int)=(q.1,q.2) from c)];apply fc e4 fun l5 n5=>?_;rw [vo];have s5:=ah.new (o:=HO.lst xs.dropLast) n5;have e5:=af (H:=H4) (a:=l5) (o:=HO.lst xs.dropLast);generalize upd H4 l5 (HO.lst xs.dropLast)=H5 at s5 e5 ⊢;have w5:=(A1 (ps:=q::y::m0) (by simpa using w4)).mono s5;apply ⟨l5,_,q,y,m0,cs,rs,rfl,e5,w5,rn,by rw [w5.1]; exact i0 lc lr rn.nd (fun x hx=>(BF.mp hx).elim (fun e=>by rw [e]; exact iq) (fH hy rn.go x)),fun T1 l' ys M H6 s6 nT nl' eT el' py td mm=>?_⟩;have s45:=s4.trans s5;exact k T1 l' true ys M H6 (s45.trans s6) (s45.free nT) (s45.free nl') eT el' td (mm q θ) py
        · have c:(Sm.fin q y m').2≠q:=fun z=>nq (by rw [<- z]; exact (Sm.bZ q y m').1)
          rw [bA (show ¬ (((Sm.fin q y m').2.1,(Sm.fin q y m').2.2):Int×Int)=(q.1,q.2) from c)];left;have hadj:=G.sym (Sm.c7 G hy go);refine cx (fun σ' H'=>∃ (l':Δ) (o4 o5:Option V) (ys:List V) (a1 b1:Int×Int) (l1:List (Int×Int)),σ'=[some (.ref pp),some (.ref a),some (.ref ln),some (.ref l'),o4,o5]/\ah H H'/\H l'=none/\H' l'=some (.lst ys)/\aH H' ys (a1::b1::l1)/\Sm.ka (nb cs rs) a1 b1 l1/\q∈a1::b1::l1) ?_ ?_
          · apply aV en4 ?_;have lr1:=wn4.1;rw [lr1];left;have nd:=Sm.cD G hy m' go fun x=>nq (Ξ _ x)
            match eC,hz,wn4 with
            | [],hz,wn4 =>
              rw [show decide ((([y]:List (Int×Int)).length:Int)=2)=false from rfl];left;exact ⟨ll,_,_,xs,q,y,m',rfl,s4,nll,e4,w4,⟨hy,go,by rw [hz]; rfl,hst,nd⟩,θ⟩
            | y2::y3::_,hz,wn4=>exact absurd (G.le2 q) (by rw [hz]; simp)
            | [y2],hz,wn4 =>
              rw [show decide ((([y,y2]:List (Int×Int)).length:Int)=2)=true from rfl];have hy2:y2∈nb cs rs q:=by rw [hz]; simp
              have hne:y≠y2:=fun z=>by have:=G.nd q; rw [hz,z] at this; simp at this
              obtain ⟨_,r2,e,_,wr2⟩:=wn4.inv;injection e with e1 e2;subst e1 e2;obtain ⟨v2,r3,e,hv2,_⟩:=wr2.inv;subst e;obtain ⟨b2,rfl,hb2⟩:=hv2;apply aG (SqL.of en4) (cg (j:=1) rfl) ?_;apply ⟨by show 2<=E4; decide,fun lb nlb=>?_⟩;have s5:=ah.new (o:=HO.lst [V.ref a,V.ref b2]) nlb;have e5:=af (H:=H4) (a:=lb) (o:=HO.lst [V.ref a,V.ref b2]);generalize upd H4 lb (HO.lst [V.ref a,V.ref b2])=H5 at s5 e5 ⊢;have w5:aH H5 [V.ref a,V.ref b2] [q,y2]:=aH.cons ⟨a,rfl,s5 _ _ (s4 _ _ ha)⟩ (aH.cons ⟨b2,rfl,s5 _ _ hb2⟩ aH.nil);have llb:ll≠lb:=by intro z; rw [z,nlb] at e4; cases e4
              have nlbH:H lb=none:=s4.free nlb;apply cx (fun σ' H'=>∃ (o4:Option V) (zs:List V) (m2:List (Int×Int)),σ'=[some (.ref pp),some (.ref a),some (.ref ln),some (.ref ll),o4,some (.ref lb)]/\ah H H'/\H' ll=some (.lst xs)/\aH H' xs (q::y::m')/\H' lb=some (.lst zs)/\aH H' zs (q::y2::m2)/\Sm.Go (nb cs rs) q y2 m2/\m2.length<=1681/\Sm.oth (nb cs rs) (Sm.fin q y2 m2).1 (Sm.fin q y2 m2).2=[]) ?_ ?_
              · apply ⟨fun m σ' H'=>∃ (o4:Option V) (zs:List V) (m2:List (Int×Int)),m=2000 - m2.length/\σ'=[some (.ref pp),some (.ref a),some (.ref ln),some (.ref ll),o4,some (.ref lb)]/\ah H H'/\H' ll=some (.lst xs)/\aH H' xs (q::y::m')/\H' lb=some (.lst zs)/\aH H' zs (q::y2::m2)/\Sm.Go (nb cs rs) q y2 m2/\m2.length<=1681/\q∉y2::m2,
                  ⟨_,_,_,[],rfl,rfl,s4.trans s5,s5 _ _ e4,w4.mono s5,e5,w5,trivial,Fi _,fun z=>G.irr q (by rw [<- A_.mp z] at hy2; exact hy2)⟩,?_⟩
                rintro m σ' H6 ⟨o4,zs,m2,rfl,rfl,s6,e6,w6,eb6,wb6,gb,lm2,nq2⟩;obtain ⟨ps3,eps3⟩:=dU (a:=q) (b:=y2) (m:=m2);obtain ⟨v3,hv3,pl3⟩:=eV (by rw [<- eps3]; exact wb6);obtain ⟨a3,rfl,ha3⟩:=pl3;obtain ⟨ps4,eps4⟩:=ow q y2 m2;obtain ⟨v4,hv4,pl4⟩:=qY (by rw [<- eps4]; exact wb6);obtain ⟨a4,rfl,ha4⟩:=pl4;have hadj2:=G.sym (Sm.c7 G hy2 gb);apply aG (SqL.of eb6) hv3 ?_;apply bu (SqT.of ha3) (v:=.int (Sm.fin q y2 m2).2.1) rfl ?_;apply aG (SqL.of eb6) hv3 ?_;apply bu (SqT.of ha3) (v:=.int (Sm.fin q y2 m2).2.2) rfl ?_;apply ⟨pp,(Sm.fin q y2 m2).2.1,(Sm.fin q y2 m2).2.2,s,cs,rs,rfl,pl.mono s6,fun lj us H7 s7 nj ej wj=>?_⟩;have wj:aH H7 us (nb cs rs (Sm.fin q y2 m2).2):=wj;apply aV ej ?_;rw [wj.1];left;have nd2:=Sm.cD G hy2 m2 gb fun x=>nq2 (Ξ _ x);have few2:=i0 lc lr nd2 (fun x hx=>(BF.mp hx).elim (fun e=>by rw [e]; exact iq) (fH hy2 gb x));rw [EX,EX] at few2;by_cases hd:(nb cs rs (Sm.fin q y2 m2).2).length=2
                · rw [aS (by rw [hd]; rfl)]
                  obtain ⟨qc,hqc⟩:∃ qc,Sm.oth (nb cs rs) (Sm.fin q y2 m2).1 (Sm.fin q y2 m2).2=[qc]:=by
                    rcases Sm.iD G hadj2 with h | h
                    · have w:Sm.Wlk (nb cs rs) q y2 m2:=⟨hy2,gb,nd2,.inl h⟩
                      have:=(w.ended G).mpr h
                      omega
                    · exact h
                  apply ⟨fun σ' H'=>∃ (o4:Option V) (zs:List V),σ'=[some (.ref pp),some (.ref a),some (.ref ln),some (.ref ll),o4,some (.ref lb)]/\ah H H'/\H' ll=some (.lst xs)/\aH H' xs (q::y::m')/\H' lb=some (.lst zs)/\aH H' zs (q::y2::(m2++[qc])),?_,?_⟩
                  · rintro σ' H' ⟨o4,zs,rfl,s8,e8,w8,eb8,wb8⟩
                    refine ⟨_,?_,o4,zs,m2++[qc],rfl,rfl,s8,e8,w8,eb8,wb8,Sm.cT.mpr ⟨gb,hqc⟩,?_,?_⟩
                    · rw [BG,FA]; omega
                    · rw [BG,FA]; omega
                    · intro z
                      rw [<- G8] at z;rcases E_.mp z with z | z
                      · exact nq2 z
                      · have z:=A_.mp z
                        rw [<- z] at hqc;have rn:Sm.Rnd (nb cs rs) q y2 m2:=⟨hy2,gb,hqc,nd2⟩
                        have wk:Sm.Wlk (nb cs rs) q y m':=⟨hy,go,nd,.inl hst⟩
                        have h1:=(wk.ended G).mpr hst;have h2:=rn.two G _ (Sm.i7 G (rn.shut G) hy go q θ θ _ (Ξ _ (Sm.bZ q y m').1));omega
                  · have s67:=s6.trans s7
                    have eb7:=s7 _ _ eb6;apply bN eb7 ?_;apply aG (SqL.of eb7) hv3 ?_;apply bu (SqT.of (s7 _ _ ha3)) (v:=.int (Sm.fin q y2 m2).2.1) rfl ?_;apply aG (SqL.of eb7) hv3 ?_;apply bu (SqT.of (s7 _ _ ha3)) (v:=.int (Sm.fin q y2 m2).2.2) rfl ?_;apply ⟨pp,(Sm.fin q y2 m2).2.1,(Sm.fin q y2 m2).2.2,s,cs,rs,rfl,pl.mono s67,fun lk us2 H8 s8 nk ek wk=>?_⟩;have wk:aH H8 us2 (nb cs rs (Sm.fin q y2 m2).2):=wk;apply ⟨⟨_,SqL.of ek⟩,fun lw nw=>?_⟩;have l4:us2.length<=4:=by rw [wk.1]; exact oF cs rs _
                    refine fE (fun v=>v) (fun v=>!decide (cV H8 v=(Sm.fin q y2 m2).1)) (SqL.of ek) (by omega) nw (fun x o H9 Q' hx s9 qq=>?_) (fun x o H9 Q' hx _ s9 qq=>?_) (fun H9 s9 e9=>?_)
                    · apply aG (SqL.of (s9 _ _ (s8 _ _ eb7))) hv4 ?_;left;obtain ⟨ax,rfl,hax⟩:=wk.mem x hx;refine lM (s9 _ _ hax) (s9 _ _ (s8 _ _ (s7 _ _ ha4))) ?_;left;exact qq H9 (ah.refl _)
                    · left
                      exact qq H9 (ah.refl _)
                    rw [Mr] at e9;have w9:=(uv wk (Sm.fin q y2 m2).1).mono s9;have w9:aH H9 _ (Sm.oth (nb cs rs) (Sm.fin q y2 m2).1 (Sm.fin q y2 m2).2):=w9;rw [hqc] at w9;generalize (us2.filter fun v=>!decide (cV H8 v=(Sm.fin q y2 m2).1))=ws at e9 w9;obtain ⟨vc,r9,rfl,hvc,_⟩:=w9.inv;obtain ⟨cc,rfl,hcc⟩:=hvc;have s79:=s7.trans (s8.trans s9);have eb9:=s79 _ _ eb6;apply aG (SqL.of e9) (cg (j:=0) rfl) ?_;left;have lzz:=wb6.1;rw [EX,EX] at lzz;refine a9 eb9 (bf (by omega)) ?_;have wz:=((wb6.mono s79).upd (o:=.lst (zs++[V.ref cc])) eb9 (by intro ys z; cases z)).snoc (Pt.upd (o:=.lst (zs++[V.ref cc])) (q:=qc) ⟨cc,rfl,hcc⟩ eb9 (by intro ys z; cases z));refine ⟨_,_,rfl,(s6.trans s79).later (o:=.lst (zs++[V.ref cc])) nlbH,(ar llb).trans (s79 _ _ e6),(w6.mono s79).upd eb9 (by intro ys z; cases z),af,?_⟩
                    simpa using wz
                · rw [bA (by omega)]
                  apply ⟨_,zs,m2,rfl,s6.trans s7,s7 _ _ e6,w6.mono s7,s7 _ _ eb6,wb6.mono s7,gb,lm2,?_⟩;rcases Sm.iD G hadj2 with h | ⟨c2,h⟩
                  · exact h
                  · exfalso
                    have hc2:c2∈Sm.oth (nb cs rs) (Sm.fin q y2 m2).1 (Sm.fin q y2 m2).2:=by rw [h]; exact A_.mpr rfl
                    obtain ⟨x1,x2⟩:=Sm.aP.mp hc2;exact hd (Sm.two_len G x1 hadj2 x2)
              · rintro σ2 H6 ⟨o4,zs,m2,rfl,s6,e6,w6,eb6,wb6,gb,lm2,hst2⟩
                apply uU ?_;left;obtain ⟨vz,zs',ez,_,wz'⟩:=wb6.inv;subst ez;refine ⟨rfl,rfl,uT eb6 (by simp) fun l7 n7=>?_⟩;have s7:=ah.new (o:=HO.lst ((vz::zs').drop 1).reverse) n7;have e7:=af (H:=H6) (a:=l7) (o:=HO.lst ((vz::zs').drop 1).reverse);generalize upd H6 l7 (HO.lst ((vz::zs').drop 1).reverse)=H7 at s7 e7 ⊢;have e7:H7 l7=some (.lst zs'.reverse):=e7;have lzz:=wb6.1;rw [EX,EX,EX] at lzz;apply lL e7 (s7 _ _ e6) (by rw [IC]; exact Fe (by omega:_<=5000) (by decide)) fun l8 n8=>?_;left;have s67:=s6.trans s7;have s8:=ah.new (o:=HO.lst (zs'.reverse++xs)) n8;obtain ⟨a1,b1,l1,ej,oj,_⟩:=Sm.vX G hy hy2 hne go gb hst hst2;have wj:=(yZ ((wz'.mono s7).rev) (w6.mono s7)).mono s8;rw [ej] at wj;refine ⟨l8,_,_,_,a1,b1,l1,rfl,s67.trans s8,s67.free n8,af,wj,oj,?_⟩;rw [<- ej];exact E3 _ θ
          · rintro σ2 H5 ⟨l',o4,o5,ys,a1,b1,l1,rfl,s5,nl',e5,w5,op,hq⟩
            obtain ⟨tA,tB⟩:=Sm.nJ G op;obtain ⟨ps,eps⟩:=dU (a:=a1) (b:=b1) (m:=l1);obtain ⟨vl,hvl,plast⟩:=eV (by rw [<- eps]; exact w5);obtain ⟨v0,r0,e0,hv0,_⟩:=w5.inv;have ly:=w5.1;apply cx (fun σ' H'=>∃ (l':Δ) (o4 o5:Option V) (ys:List V) (M:List (Int×Int)),σ'=[some (.ref pp),some (.ref a),some (.ref ln),some (.ref l'),o4,o5]/\ah H H'/\H l'=none/\H' l'=some (.lst ys)/\aH H' ys M/\Sm.dn (nb cs rs) false M/\q∈M) ?_ ?_
            · apply aG (SqL.of e5) hvl ?_;apply aG (SqL.of e5) (cg (j:=0) (by rw [e0]; rfl)) ?_;apply zm plast hv0 ?_;left
              cases hlt:Ts.plt (Sm.fin a1 b1 l1).2 a1 with
              | true =>
                apply Bu ?_;apply ⟨rfl,zu e5 fun l6 n6=>?_⟩;left;have s6:=ah.new (o:=HO.lst ys.reverse) n6;exact ⟨l6,_,_,_,_,rfl,s5.trans s6,s5.free n6,af,w5.rev.mono s6,tA hlt,Ga.mpr hq⟩
              | false =>
                left;exact ⟨l',_,_,_,_,rfl,s5,nl',e5,w5,tB hlt,hq⟩
            · rintro σ2 H6 ⟨l2,o4,o5,ys2,M,rfl,s6,n6,e6,w6,td,hqM⟩
              apply ⟨by show 2<=E4; decide,fun TT nT=>?_⟩;left;have sT:=ah.new (o:=HO.tup [V.bl false,V.ref l2]) nT;exact k TT l2 false ys2 M _ (s6.trans sT) (s6.free nT) n6 af (sT _ _ e6) td hqM (w6.mono sT)
end
section
theorem jB {cs rs:List Int} {e:Sm1} (h:Sm.dn (nb cs rs) e.1 e.2):hd e∈e.2/\nb cs rs (hd e)≠[]:=by
 obtain ⟨a,b,l,z,hb,_⟩:=h.path;unfold hd;rw [z];exact ⟨θ,fun z=>by rw [List.headD_cons] at z; rw [z] at hb; cases hb⟩
theorem ug {cs rs:List Int} {L:List Sm1} (h:dO cs rs L):L.Nodup:=by
 have key:∀ (L:List Sm1),(∀ e∈L,e.2≠[])->(bG L).Nodup->L.Nodup:=by
  intro L
  induction L with
  | nil => intro _ _; exact Io
  | cons e L ih =>
   intro hne hn;unfold bG at hn ih;rw [LO,HY] at hn;refine Fb.mpr ⟨fun hm=>?_,ih (fun e he=>hne e (Ξ _ he)) hn.2.1⟩;obtain ⟨q,hq⟩:=List.exists_mem_of_ne_nil _ (hne e θ);exact hn.2.2 q hq q (List.mem_flatMap.mpr ⟨e,hm,hq⟩) rfl
 refine key L (fun e he z=>?_) h.nd;have:=(jB (h.told e he)).1
 rw [z] at this; cases this
theorem p8 {cs rs:List Int} {L L':List Sm1} (h:rQ cs rs L) (h':rQ cs rs L') {e:Sm1} (he:e∈L):e∈L':=by
 have td:=h.some.told e he;obtain ⟨m1,m2⟩:=jB td;obtain ⟨e',he',hq⟩:=jc.mp (h'.cov _ (rM td _ m1) m2);obtain ⟨z1,z2⟩:=td.uniq (dk cs rs) (h'.some.told e' he') m1 hq;rw [show e=e' from G5 z1 z2]; exact he'
theorem iV {cs rs:List Int} {L L':List Sm1} (h:rQ cs rs L) (h':rQ cs rs L'):L=L':=by
 have:=Sm.ot (c:=fun _=>true) (le:=fun a b=>Ts.ple (hd a) (hd b)) (ug h.some) (ug h'.some) h.srt h'.srt (fun a ha b hb h1 h2=>by
  have e:hd a=hd b:=Sm.yT h1 h2;have t1:=h.some.told a ha;have t2:=h.some.told b hb;obtain ⟨z1,z2⟩:=t1.uniq (dk cs rs) t2 (jB t1).1 (by rw [e]; exact (jB t2).1);exact G5 z1 z2) fun e _=>⟨p8 h h',p8 h' h⟩
 rwa [NN.mpr fun _ _=>rfl,NN.mpr fun _ _=>rfl] at this
end
section
noncomputable def seD (e:Sm1):PyData:=.tuple [.bool e.1,.list (e.2.map Ts.ptD)]
theorem zO (e:Sm1):GH (seD e) (seD e)=true:=by
 have k:∀ ps:List (Int×Int),Gw (ps.map Ts.ptD) (ps.map Ts.ptD)=true:=fun ps=>by rw [Ts.qW]; exact aS rfl
 unfold seD;simp only [GH,Gw,k,Ma,beq_self_eq_true]
theorem tJ (e:Sm1):IM (seD e)=true:=by
 have h1:=Ts.qX e.2;have h3:=Ts.lJ e.2;unfold IM seD;rw [GB];refine ⟨?_,aS ?_⟩
 ·simp only [JE,Gx,h1,Ma]
 ·simp only [JD,HV];omega
theorem zF {H0 H:Hp} {lf:Δ} {v:V} {e:Sm1} (h:SeV H0 H lf v e):Rep H (seD e) v:=by
 obtain ⟨T,l,ys,rfl,_,h3,h4,h5⟩:=h;have r:=oV h4 h5;unfold seD;rw [Rep];refine ⟨T,_,rfl,h3,?_⟩;rw [RepL];refine ⟨_,_,rfl,by rw [Rep],?_⟩;rw [RepL];refine ⟨_,_,rfl,r,?_⟩;rw [RepL]
theorem zD {H0 H:Hp} {lf:Δ}:∀ {xs:List V} {L:List Sm1},PwS H0 H lf xs L->RepL H (L.map seD) xs:=by
 intro xs
 induction xs with
 | nil =>
  intro L h
  cases L with
  | nil => simp only [Ir, RepL]
  | cons e L => have := h.1; simp at this
 | cons v xs ih =>
  intro L h
  cases L with
  | nil => have := h.1; simp at this
  | cons e L =>
   rw [Fg,RepL];exact ⟨v,xs,rfl,zF (h.2 0 v e rfl rfl),ih ⟨by have:=h.1; simpa using this,fun i v' e' h1 h2=>h.2 (i+1) v' e' (by simpa using h1) (by simpa using h2)⟩⟩
theorem kL {H0 H:Hp} {l lf:Δ} {xs:List V} {L:List Sm1} (e:H l=some (.lst xs)) (h:PwS H0 H lf xs L):Rep H (.list (L.map seD)) (.ref l):=by
 rw [Rep];exact ⟨l,xs,rfl,e,zD h⟩
noncomputable def AO:Hp:=fun _=>none
def RoV (H:Hp) (lf:Δ) (v:V) (e:Sm1):Prop:=∃ R x T,v=.ref R/\H R=some (.tup [x,.ref T])/\Pt H x (hd e)/\SeV AO H lf (.ref T) e
theorem RoV.mono {H H':Hp} {lf:Δ} {v:V} {e:Sm1} (s:ah H H') (h:RoV H lf v e):RoV H' lf v e:=by
 obtain ⟨R,x,T,h1,h2,h3,h4⟩:=h;exact ⟨R,x,T,h1,s _ _ h2,h3.mono s,h4.mono s⟩
theorem RoV.lst {H:Hp} {lf:Δ} {v:V} {e:Sm1} {us:List V} {o:HO} (h:RoV H lf v e) (q:H lf=some (.lst us)):RoV (upd H lf o) lf v e:=by
 obtain ⟨R,x,T,h1,h2,h3,h4⟩:=h;exact ⟨R,x,T,h1,by rw [ar (cA h2 q (by intro z; cases z))]; exact h2,h3.upd q (by intro ys z; cases z),h4.lst q⟩
theorem RoV.dct {H:Hp} {lf d:Δ} {v:V} {e:Sm1} {us:List (List Key×V)} {o:HO} (h:RoV H lf v e) (q:H d=some (.dT us)):RoV (upd H d o) lf v e:=by
 obtain ⟨R,x,T,h1,h2,h3,h4⟩:=h;exact ⟨R,x,T,h1,by rw [ar (cA h2 q (by intro z; cases z))]; exact h2,h3.upd q (by intro ys z; cases z),h4.dct q⟩
noncomputable def roT (H:Hp):V->V
 | .ref R=>match H R with
  | some (.tup [_, y]) => y
  | _ => .non
 | _=>.non
noncomputable def ie (H:Hp) (v:V):Sm1:=dH H (roT H v)
theorem RoV.of {H:Hp} {lf:Δ} {v:V} {e:Sm1} (h:RoV H lf v e):ie H v=e/\SeV AO H lf (roT H v) e:=by
 obtain ⟨R,x,T,rfl,h2,h3,h4⟩:=h;have e1:roT H (.ref R)=.ref T:=by simp only [roT,h2]
 unfold ie;rw [e1];exact ⟨h4.of,h4⟩
def PwR (H:Hp) (lf:Δ) (xs:List V) (L:List Sm1):Prop:=(∀ v∈xs,RoV H lf v (ie H v))/\xs.map (ie H)=L
theorem PwR.imp {H H':Hp} {lf:Δ} {xs:List V} {L:List Sm1} (h:PwR H lf xs L) (k:∀ v e,RoV H lf v e->RoV H' lf v e):PwR H' lf xs L:=by
 have e:∀ v∈xs,ie H' v=ie H v:=fun v hv=>(k v _ (h.1 v hv)).of.1;exact ⟨fun v hv=>by rw [e v hv]; exact k v _ (h.1 v hv),by rw [<- h.2]; exact Ge e⟩
theorem PwR.snoc {H:Hp} {lf:Δ} {xs:List V} {L:List Sm1} {v:V} {e:Sm1} (h:PwR H lf xs L) (hv:RoV H lf v e):PwR H lf (xs++[v]) (L++[e]):=by
 have e1:=hv.of.1;refine ⟨fun u hu=>?_,by rw [GL,h.2,Nd,e1]⟩;rcases E_.mp hu with z | z
 ·exact h.1 u z
 ·rw [A_.mp z,e1];exact hv
structure rT (H:Hp) (lf ds:Δ) (L:List Sm1):Prop where
 lst:∃ xs,H lf=some (.lst xs)/\PwR H lf xs L
 dct:∃ kvs,H ds=some (.dT kvs)/\cR kvs (bG L)
theorem rT.mono {H H':Hp} {lf ds:Δ} {L:List Sm1} (s:ah H H') (h:rT H lf ds L):rT H' lf ds L :=
 ⟨let ⟨xs,h1,h2⟩:=h.lst; ⟨xs,s _ _ h1,h2.imp fun _ _ r=>r.mono s⟩,let ⟨kvs,h1,h2⟩:=h.dct; ⟨kvs,s _ _ h1,h2⟩⟩
end
section
variable {P:FP} {w:F0} {K:W.Frag} {mg:Str->Option χ} {base:F6} {t:Ad}
def sp_aR:Sp:=fun vs H Q _=>∃ (pp:Δ) (s:Int) (cs rs:List Int),vs=[.ref pp]/\d0 true H pp s cs rs/\cs.length<=39/\rs.length<=39 /\
 ∀ l ys L H',ah H H'->H l=none->H' l=some (.lst ys)->rQ cs rs L->PwS AO H' l ys L->Q (.ref l) H'
theorem ok_aR (T:Txt K mg t):aN P w K mg base CX0 10 t.f_aR t.d_aR ["_law_plan_here"] sp_aR:=by
  refine T.F_aR.ok sc_aR (fun vs H Q E h=>?_) (fun cdv A outer s H vs Q E hr h=>?_)
  · obtain ⟨pp,s,cs,rs,rfl,_⟩:=h; rfl
  · obtain ⟨pp,s,cs,rs,rfl,pl,lc,lr,k⟩:=h
    refine aJ (aM 1 sc_aR.nd (bT ae)) fun _ _=>aJ (aM 2 sc_aR.nd qS) fun _ _=>aJ (df F5 rfl (cf rfl T.no_aT (aa (aB aR (aw (aU K rfl) rfl T.no_len (by rfl) (aa (aD (aY K rfl) (pv 0) ag) ae)) ag) ae)) (aK (i:=3) sc_aR.nd rfl (GJ rfl)) (ai (df F5 rfl (cf rfl T.no_aT (aa (aB aR (aw (aU K rfl) rfl T.no_len (by rfl) (aa (aD (aY K rfl) (pv 0) ag) ae)) ag) ae)) (aK (i:=4) sc_aR.nd rfl (GJ rfl)) (aQ (aM 5 sc_aR.nd jI) (aQ (cv (aO (yX (vY (ux hr) (bJ (aa (pv 3) (aa (pv 4) ae))) (pv 2))) (ai (aM 5 sc_aR.nd (aj (ok_a3 T) (rmo hr) rfl T.mg_a3 T.F_a3.kp T.b_a3 .nil ao (aa (pv 0) (aa (bJ (aa (pv 3) (aa (pv 4) ae))) ae))))) aC)) (ai (aO (aW uG (pv 5) jI) (aQ (bg (cL FF FW FU a8 (pv 1) (aa (bJ (aa (aD (aq K rfl) (aD (aY K rfl) (pv 5) ag) ag) (aa (pv 5) ae))) ae))) (ai (df F5 rfl (bQ (aD (aY K rfl) (pv 5) ag)) (aK (i:=6) sc_aR.nd rfl (GJ rfl)) (ai (uL (ux hr) (pv 2) (pv 6) dE rfl))))) aC))))))) fun _ _=>cM (aA (bP (N:=["_law_first","_law_one"]) (cap:=[none,none]) rfl ⟨rfl,rfl,rfl,rfl,rfl,rfl⟩ (bQ (aw (vm K rfl hr.u160) rfl T.no_sorted (by rfl) (aa (pv 1) ae))) (fun _ _ _=>(fP (n:=2) K rfl rfl (bV (aK (i:=0) (show (["_law_first","_law_one"]:List Str).Nodup by decide +kernel) rfl (GJ rfl)) (bV (aK (i:=1) (show (["_law_first","_law_one"]:List Str).Nodup by decide +kernel) rfl (GJ rfl)) fQ)))) (fun _ _ _=>cw) (fun _ _ _=>(pv 1)))) fun _ _=>?_;apply ⟨Fi _,fun lf nf=>?_⟩;have s1:=ah.new (o:=HO.lst []) nf;have e1:=af (H:=H) (a:=lf) (o:=HO.lst []);generalize upd H lf (HO.lst [])=H1 at s1 e1 ⊢;apply fun ds nd=>?_;have s2:=s1.trans (ah.new (o:=HO.dT []) nd);have nds:H ds=none:=s1.free nd;have ga:rT (upd H1 ds (.dT [])) lf ds []:=⟨⟨[],ah.new nd _ _ e1,⟨fun v hv=>(nomatch hv),rfl⟩⟩,⟨[],af,rfl⟩⟩
    generalize upd H1 ds (HO.dT [])=H2 at s2 ga ⊢;obtain ⟨⟨c,r,hp,hc,hr'⟩,_⟩:=id pl;apply bu (SqT.of (s2 _ _ hp)) (v:=.ref c) rfl ?_;apply aV (s2 _ _ hc) ?_;rw [Θ];apply ⟨_,rfl,by omega,by omega,?_⟩;rw [show ((cs.length:Int)+2).toNat=cs.length+2 by omega];refine dv (fun x σ' H'=>∃ (L:List Sm1) (o3 o4 o5 o6:Option V),σ'=[some (.ref pp),some (.ref lf),some (.ref ds),o3,o4,o5,o6]/\ah H H'/\rT H' lf ds L/\dO cs rs L/\∀ q,dD cs rs q->nb cs rs q≠[]->q.1<(x:Nat)->q∈bG L)
      ⟨[],none,none,none,none,rfl,s2,ga,⟨(fun e he=>nomatch he),Io⟩,fun q hq _ h=>by have:=hq.1.1; omega⟩ ?_ ?_
    · rintro x σ' H3 hx ⟨L,o3,o4,o5,o6,rfl,s3,ga3,so3,cov3⟩
      rw [IW];apply bu (SqT.of (s3 _ _ hp)) (v:=.ref r) rfl ?_;apply aV (s3 _ _ hr') ?_;rw [Θ];apply ⟨_,rfl,by omega,by omega,?_⟩;rw [show ((rs.length:Int)+2).toNat=rs.length+2 by omega];refine dv (fun y σ' H'=>∃ (L:List Sm1) (o4 o5 o6:Option V),σ'=[some (.ref pp),some (.ref lf),some (.ref ds),some (.int (x:Nat)),o4,o5,o6]/\ah H H'/\rT H' lf ds L/\dO cs rs L/\∀ q,dD cs rs q->nb cs rs q≠[]->(q.1<(x:Nat)\/(q.1=(x:Nat)/\q.2<(y:Nat)))->q∈bG L)
        ⟨L,o4,o5,o6,rfl,s3,ga3,so3,fun q hq hn h=>cov3 q hq hn (by have:=hq.2.1; omega)⟩ ?_ ?_
      · rintro y σ' H4 hy ⟨L,o4,o5,o6,rfl,s4,ga4,so4,cov4⟩
        rw [IW];have hin:dD cs rs (((x:Nat):Int),((y:Nat):Int)):=⟨⟨by dsimp only; omega,by dsimp only; omega⟩,by dsimp only; omega,by dsimp only; omega⟩
        have nxt:∀ L',(∀ q∈bG L,q∈bG L')->(nb cs rs (((x:Nat):Int),((y:Nat):Int))≠[]->(((x:Nat):Int),((y:Nat):Int))∈bG L') ->
            ∀ q,dD cs rs q->nb cs rs q≠[]->(q.1<(x:Nat)\/(q.1=(x:Nat)/\q.2<((y+1:Nat):Int)))->q∈bG L':=fun L' sub hp q hq hn h=>by
          by_cases hh:q.1<(x:Nat)\/(q.1=(x:Nat)/\q.2<(y:Nat))
          · exact sub q (cov4 q hq hn hh)
          · have:q=(((x:Nat):Int),((y:Nat):Int)):=G5 (by show q.1=_; omega) (by show q.2=_; omega)
            rw [this] at hn ⊢; exact hp hn
        generalize ((y:Nat):Int)=yy at hin nxt ⊢;clear cov4;apply cx (fun σ' H'=>ah H H'/\rT H' lf ds L/\((σ'=[some (.ref pp),some (.ref lf),some (.ref ds),some (.int (x:Nat)),some (.int yy),some V.non,o6]/\(nb cs rs (((x:Nat):Int),yy)=[]\/(((x:Nat):Int),yy)∈bG L)) \/
          ∃ T l f zs M,σ'=[some (.ref pp),some (.ref lf),some (.ref ds),some (.int (x:Nat)),some (.int yy),some (.ref T),o6]/\(((x:Nat):Int),yy)∉bG L/\l≠lf/\H' T=some (.tup [.bl f,.ref l])/\H' l=some (.lst zs)/\Sm.dn (nb cs rs) f M/\(((x:Nat):Int),yy)∈M/\aH H' zs M)) ?_ ?_
        · apply nwT fun a H5 sa na ea=>?_;have ga5:=ga4.mono sa;have s5:=s4.trans sa;obtain ⟨kvs,ed,ke⟩:=ga5.dct;apply ⟨ds,_,rfl,mv.t (k:=ky (((x:Nat):Int),yy)) ed ea,?_⟩;rw [ke.val];by_cases hm:(((x:Nat):Int),yy)∈bG L
          · rw [aS hm]
            left;exact ⟨s5,ga5,.inl ⟨rfl,.inr hm⟩⟩
          · rw [bA hm]
            apply nwT fun b H6 sb nb eb=>?_;have ga6:=ga5.mono sb;have s6:=s5.trans sb;clear ed ke kvs ga5 ga4;apply ⟨pp,b,(((x:Nat):Int),yy),s,cs,rs,rfl,pl.mono s6,lc,lr,eb,hin,fun hz H7 s7=>?_,fun hz T l f zs M H7 s7 nT nl eT el td hq px=>?_⟩
            · left
              exact ⟨s6.trans s7,ga6.mono s7,.inl ⟨rfl,.inl hz⟩⟩
            · apply ⟨s6.trans s7,ga6.mono s7,.inr ⟨T,l,f,zs,M,rfl,hm,fun z=>?_,eT,el,td,hq,px⟩⟩;obtain ⟨ys',ef',_⟩:=ga6.lst;rw [z,ef'] at nl
              cases nl
        rintro σ' H7 ⟨s7,ga7,⟨rfl,hno⟩ | ⟨T,l,f,zs,M,rfl,hm,nlf,eT,el,td,hq,px⟩⟩
        · apply ⟨rfl,?_⟩;rw [show (!decide (V.non=V.non))=false by simp];left;exact ⟨L,_,_,_,rfl,s7,ga7,so4,nxt L (fun q hq=>hq) fun h=>hno.elim (fun z=>absurd z h) id⟩
        · have so7:=so4.add (e:=(f,M)) td hq hm
          have hsub:∀ q∈bG L,q∈bG (L++[(f,M)]):=fun q hq=>by rw [b7]; exact Ff _ hq
          have hme:(((x:Nat):Int),yy)∈bG (L++[(f,M)]):=by rw [b7]; exact E3 _ hq
          obtain ⟨u0,u1,um,eM,_⟩:=td.path;have px:=px;obtain ⟨zv,zr,ez,hv0,_⟩:∃ v r,zs=v::r/\Pt H7 v u0/\aH H7 r (u1::um):=by
            rw [eM] at px;exact px.inv
          apply ⟨rfl,?_⟩;rw [show (!decide (V.ref T=V.non))=true by simp];left;obtain ⟨ys,ef,pr⟩:=ga7.lst;refine bN ef ?_;apply bu (SqT.of eT) (v:=.ref l) rfl ?_;apply aG (SqL.of el) (v:=zv) (cg (j:=0) (by rw [ez]; rfl)) ?_;apply nwT fun ro H8 sro nro ero=>?_;have ga8:=ga7.mono sro;obtain ⟨kvs,ed,ke⟩:=ga8.dct;have pr8:=pr.imp fun _ _ r=>r.mono sro;have ef8:=sro _ _ ef;have eT8:=sro _ _ eT;have el8:=sro _ _ el;have px8:=px.mono sro
          have hv8:Pt H8 zv (hd (f,M)):=by
            unfold hd;rw [eM];exact hv0.mono sro
          have s8:=s7.trans sro
          have ly:ys.length<=1681:=by
            have:=congrArg Jd pr.2
            rw [Θ] at this;rw [this];exact (so4.few lc lr).2
          clear ga7 ef pr eT el px sro s7 hv0 ga8;apply a9 ef8 (bf (by omega)) ?_;have pr9:=(pr8.imp (H':=upd H8 lf (.lst (ys++[V.ref ro]))) fun _ _ r=>r.lst ef8).snoc (e:=(f,M)) (RoV.lst (o:=.lst (ys++[V.ref ro])) ⟨ro,zv,T,rfl,ero,hv8,T,l,zs,rfl,⟨nlf,rfl⟩,eT8,el8,px8⟩ ef8);have ef9:=af (H:=H8) (a:=lf) (o:=.lst (ys++[V.ref ro]));have ed9:upd H8 lf (.lst (ys++[V.ref ro])) ds=some (.dT kvs):=(ar (cA ed ef8 (by intro z; cases z))).trans ed;have s9:=s8.later (o:=.lst (ys++[V.ref ro])) nf;have el9:upd H8 lf (.lst (ys++[V.ref ro])) l=some (.lst zs):=(ar nlf).trans el8;have px9:=px8.upd (o:=.lst (ys++[V.ref ro])) ef8 (by intro ys z; cases z);have eT9:upd H8 lf (.lst (ys++[V.ref ro])) T=_:=(ar (cA eT8 ef8 (by intro z; cases z))).trans eT8;generalize upd H8 lf (.lst (ys++[V.ref ro]))=H9 at pr9 ef9 ed9 s9 el9 px9 eT9 ⊢;clear ef8 ed el8 pr8 eT8 px8 ero hv8 s8;apply bu (SqT.of eT9) (v:=.ref l) rfl ?_;apply ⟨⟨_,SqL.of el9⟩,?_⟩;have nd8:(bG L++M).Nodup:=by have:=so7.nd; rwa [b7] at this
          have fw:=(so7.few lc lr).1;rw [b7,BG] at fw;dsimp only at fw;refine fu (K:=K) (a:=l) (xs:=zs) (fun i σ' H'=>∃ (o6:Option V) (kvs:List (List Key×V)),σ'=[some (.ref pp),some (.ref lf),some (.ref ds),some (.int (x:Nat)),some (.int yy),some (.ref T),o6]/\ah H H'/\H' lf=some (.lst (ys++[V.ref ro]))/\PwR H' lf (ys++[V.ref ro]) (L++[(f,M)]) /\
              H' l=some (.lst zs)/\aH H' zs M/\H' ds=some (.dT kvs)/\cR kvs (bG L++M.take i))
            ⟨_,kvs,rfl,s9,ef9,pr9,el9,px9,ed9,by rw [IG,FH]; exact ke⟩ (fun i σ' H' _ ⟨_,_,_,_,_,_,z,_⟩=>SqL.of z) ?_ ?_
          · rintro i v σ' HA hv ⟨o6,kvs,rfl,sA,efA,prA,elA,pxA,edA,keA⟩
            have hi:i<zs.length:=(C_.mp hv).1;have hi':i<M.length:=by rw [<- pxA.1]; exact hi
            obtain ⟨q,hq⟩:∃ q,M[i]?=some q:=⟨_,Ω hi'⟩
            obtain ⟨c,rfl,hc⟩:=pxA.2 i v q hv hq;have ht:M.take (i+1)=M.take i++[q]:=by rw [HX,hq]; rfl
            have nq:q∉bG L++M.take i:=by
              have h1:(bG L++M.take (i+1)).Nodup:=by
                rw [HY] at nd8 ⊢;refine ⟨nd8.1,nd8.2.1.sublist (GG _ _),fun a ha b hb=>nd8.2.2 a ha b (Fp hb)⟩
              rw [ht,<- E9,HY] at h1;exact fun z=>h1.2.2 q z q (by simp) rfl
            apply ⟨ds,_,rfl,rR.t (k:=ky q) edA hc ?_,?_⟩
            · have:=keA.len
              rw [BG,Fl] at this;exact bf (by omega)
            have keB:=keA.put (v:=.bl true) nq;rw [E9,<- ht] at keB;exact ⟨_,_,rfl,sA.later (o:=.dT _) nds,(ar (cA efA edA (by intro z; cases z))).trans efA,prA.imp fun _ _ r=>r.dct edA,(ar (cA elA edA (by intro z; cases z))).trans elA,pxA.upd edA (by intro ys z; cases z),af,keB⟩
          · rintro σ' HA ⟨o6,kvs,rfl,sA,efA,prA,elA,pxA,edA,keA⟩
            rw [FG (by rw [pxA.1]; exact BE _)] at keA;exact ⟨L++[(f,M)],_,_,_,rfl,sA,⟨⟨_,efA,prA⟩,⟨kvs,edA,by rw [b7]; exact keA⟩⟩,so7,nxt _ hsub fun _=>hme⟩
      · rintro σ' H4 ⟨L,o4,o5,o6,rfl,s4,ga4,so4,cov4⟩
        refine ⟨L,_,_,_,_,rfl,s4,ga4,so4,fun q hq hn h=>cov4 q hq hn ?_⟩;have h2:=hq.2.2;by_cases hh:q.1<(x:Nat)
        · exact .inl hh
        · exact .inr ⟨by omega,by omega⟩
    · rintro σ' H3 ⟨L,o3,o4,o5,o6,rfl,s3,ga3,so3,cov3⟩
      obtain ⟨xs,ef,px⟩:=ga3.lst;have mL:∀ v∈xs,ie H3 v∈L:=fun v hv=>by rw [<- px.2]; exact F1.mpr ⟨v,hv,rfl⟩
      have lx:xs.length<=1681:=by
        have:=congrArg Jd px.2
        rw [Θ] at this;rw [this];exact (so3.few lc lr).2
      apply zz (fun v=>hd (ie H3 v)) (fun v=>seD (ie H3 v)) ef (fun v hv=>?_) (fun v hv u hu e=>?_) fun l2 ys nl2 pm pw=>?_
      · obtain ⟨R,x,T,e1,e2,e3,e4⟩:=px.1 v hv
        exact ⟨R,x,.ref T,e1,e2,e3,zF e4,tJ _⟩
      · have t1:=so3.told _ (mL v hv)
        have t2:=so3.told _ (mL u hu);obtain ⟨z1,z2⟩:=t1.uniq (dk cs rs) t2 (jB t1).1 (by rw [show hd (ie H3 v)=hd (ie H3 u) from e]; exact (jB t2).1);rw [show ie H3 u=ie H3 v from (G5 z1 z2).symm];exact zO _
      have e2:=af (H:=H3) (a:=l2) (o:=HO.lst ys);have sl:=ah.new (o:=HO.lst ys) nl2;generalize upd H3 l2 (HO.lst ys)=H4 at e2 sl ⊢;apply ⟨⟨_,SqL.of e2⟩,fun lo no=>?_⟩;have mem:∀ v∈ys,RoV H4 lf v (ie H3 v):=fun v hv=>(px.1 v (pm.mem_iff.mp hv)).mono sl
      have pL:(ys.map (ie H3)).Perm L:=by
        have:=pm.map (ie H3)
        rwa [px.2] at this
      refine oh (ys.map (roT H3)) (Θ _) (SqL.of e2) (by rw [pm.length_eq]; omega) no (fun i v hv=>?_) (fun i b u1 u2 y o1 o2 H' Q' hx hb hy s5 q=>?_) fun H5 s5 e5=>?_
      · obtain ⟨R,x,T,e1,e2,_⟩:=mem v (FN hv)
        exact ⟨R,x,_,e1,e2⟩
      · left
        have:y=u2:=by
          rw [FE,hx,Option.map_some] at hy;obtain ⟨R,x,T,e1,e2,_⟩:=px.1 _ (pm.mem_iff.mp (FN hx))
          cases e1;have e3:=sl _ _ e2;rw [e3] at hb
          cases hb;rw [<- Fo hy];simp only [roT,e2]
        subst this;exact q _ (ah.refl _)
      · refine k lo _ _ H5 (s3.trans (sl.trans s5)) (s3.free (sl.free no)) e5 ⟨so3.perm pL,fun q hq hn=>?_,?_⟩ ?_
        · exact (jA pL).mem_iff.mpr (cov3 q hq hn (by have:=hq.1.2; omega))
        · rw [Hz]
          exact pw.imp fun {a b} h=>Ts.da.mp h
        · refine ⟨by rw [Θ,Θ],fun i v e h1 h2=>?_⟩
          rw [FE] at h1 h2;obtain ⟨u,hu,rfl⟩:=KA.mp h1;rw [hu] at h2
          cases h2;obtain ⟨T,l,zs,h1,h2,h3,h4,h5⟩:=(px.1 u (pm.mem_iff.mp (FN hu))).of.2;have sx:=sl.trans s5;refine ⟨T,l,zs,h1,⟨fun z=>?_,rfl⟩,sx _ _ h3,sx _ _ h4,h5.mono sx⟩;rw [z] at h4;rw [sl _ _ h4] at no
          cases no
theorem yh {L:List Sm1} {e:Sm1} (h:e∈L):e.2.length<=(bG L).length:=by
 induction L with
 | nil=>cases h
 | cons a L ih =>
  unfold bG at ih ⊢;rw [LO,BG];rcases BF.mp h with z | z
  ·rw [z]; omega
  ·have:=ih z; omega
def LnV (H0 H:Hp) (v:V) (M:List (Int×Int)):Prop:=∃ l zs,v=.ref l/\H0 l=none/\H l=some (.lst zs)/\aH H zs M
def iw (H0 H:Hp) (xs:List V) (Ms:List (List (Int×Int))):Prop:=xs.length=Ms.length/\∀ (i:Nat) v M,xs[i]?=some v->Ms[i]?=some M->LnV H0 H v M
theorem iw.mono {H0 H H':Hp} {xs:List V} {Ms:List (List (Int×Int))} (s:ah H H') (h:iw H0 H xs Ms):iw H0 H' xs Ms:=⟨h.1,fun i v M h1 h2=>by
 obtain ⟨l,zs,e,h0,h3,h4⟩:=h.2 i v M h1 h2;exact ⟨l,zs,e,h0,s _ _ h3,h4.mono s⟩⟩
theorem iw.nil {H0 H:Hp}:iw H0 H [] []:=⟨rfl,fun i v M h=>by simp at h⟩
theorem iw.cons {H0 H:Hp} {v:V} {M:List (Int×Int)} {xs:List V} {Ms:List (List (Int×Int))} (h1:LnV H0 H v M) (h:iw H0 H xs Ms):iw H0 H (v::xs) (M::Ms):=by
 refine ⟨by rw [EX,EX,h.1],fun i v' q' e1 e2=>?_⟩
 cases i with
 | zero=>simp only [HZ,IL] at e1 e2; rw [<- e1,<- e2]; exact h1
 | succ i=>simp only [KH] at e1 e2; exact h.2 i v' q' e1 e2
noncomputable def lC (H:Hp):V->V
 | .ref T=>match H T with
  | some (.tup [_, x]) => x
  | _ => .non
 | _=>.non
noncomputable def Rs (L:List Sm1):List (List (Int×Int)):=(L.filter (·.1)).map (·.2)
theorem Co {L:List Sm1} {M:List (Int×Int)}:M∈Rs L↔(true,M)∈L:=by
 unfold Rs;rw [F1];constructor
 ·rintro ⟨e,he,rfl⟩;rw [G1] at he;have:e=(true,e.2):=G5 he.2 rfl
  rw [<- this]; exact he.1
 ·exact fun h=>⟨_,G1.mpr ⟨h,rfl⟩,rfl⟩
theorem jJ {H0 H H':Hp} {lf:Δ} (s:ah H H'):∀ {xs:List V} {L:List Sm1},PwS H0 H lf xs L->iw H0 H' ((xs.filter fun v=>(dH H v).1).map (lC H)) (Rs L)
 | [],[],_=>iw.nil
 | [],_::_,h=>by have:=h.1; simp at this
 | _::_,[],h=>by have:=h.1; simp at this
 | v::xs,e::L,h=>by
  have ih:=jJ s (xs:=xs) (L:=L) ⟨by have:=h.1; simpa using this,fun i v e h1 h2=>h.2 (i+1) v e (by simpa using h1) (by simpa using h2)⟩;have hv:=h.2 0 v e rfl rfl;unfold Rs at ih ⊢;rw [List.filter_cons,List.filter_cons,hv.of];by_cases c:e.1=true
  ·rw [if_pos c,if_pos c,Fg,Fg];obtain ⟨T1,l,ys,rfl,nw,eT,el,py⟩:=hv;exact iw.cons ⟨l,ys,by simp only [lC,eT],nw.2,s _ _ el,py.mono s⟩ ih
  ·rw [if_neg c,if_neg c]; exact ih
def sp_aP (C:Δ):Sp:=fun vs H Q _=>∃ (p:Δ) (s:Int) (cs rs:List Int),vs=[.ref p]/\aF C H p s cs rs/\cs.length<=39/\rs.length<=39 /\
 ∀ l ys L H',ah H H'->H l=none->H' l=some (.lst ys)->rQ cs rs L->iw H H' ys (Rs L)->Q (.ref l) H'
theorem ok_aP (T:Txt K mg t):aN P w K mg base CX0 11 t.f_aP t.d_aP ["cloth"] (sp_aP t.a_aa):=by
 refine T.F_aP.ok sc_aP (by walk_at "l") (fun _ _ _ s H vs Q E hr h=>?_)
 ·obtain ⟨p,s,cs,rs,rfl,hc,lc,lr,k⟩:=h;refine ⟨_,(ai (aA (bP (N:=["told"]) (cap:=[none]) rfl ⟨rfl,rfl,rfl,rfl,rfl,rfl⟩ (bQ (aj (ok_aK T) (rmo hr) rfl T.mg_aK T.F_aK.kp T.b_aK .nil ao (aa (pv 0) ae))) (fun _ _ _=>(aK (i:=0) (show (["told"]:List Str).Nodup by decide +kernel) rfl (GJ rfl))) (fun _ _ _=>(fR (aZ (aD (aY K rfl) (pv 0) ag)))) (fun _ _ _=>(aD (aY K rfl) (pv 0) ag))))),?_⟩;apply ⟨p,s,cs,rs,rfl,hc,lc,lr,fun lf xs L H1 s1 nf ef al px=>?_⟩;have fw:=al.some.few lc lr;apply ⟨⟨_,SqL.of ef⟩,fun lw nw=>?_⟩;refine fE (lC H1) (fun v=>(dH H1 v).1) (SqL.of ef) (by rw [px.1]; omega) nw (fun x o H5 Q' hx s5 q=>?_) (fun x o H5 Q' hx _ s5 q=>?_) (fun H5 s5 e5=>?_)
  ·obtain ⟨⟨T1,l,ys,rfl,_,eT,el,py⟩,_⟩:=px.mem x hx;apply bu (SqT.of (s5 _ _ eT)) (v:=.bl (dH H1 (.ref T1)).1) rfl ?_;left;exact q H5 (ah.refl _)
  ·obtain ⟨⟨T1,l,ys,rfl,_,eT,el,py⟩,_⟩:=px.mem x hx;apply bu (SqT.of (s5 _ _ eT)) (v:=.ref l) rfl ?_;left;have e:lC H1 (.ref T1)=.ref l:=by simp only [lC,eT]
   rw [e] at q;exact q H5 (ah.refl _)
  ·left;exact k lw _ L H5 (s1.trans s5) (s1.free nw) e5 al (jJ s5 px)
theorem fj (l:List Int) {k:Nat} (h:k<l.length):(l.take (k+1)).sum=(l.take k).sum+l.getD k 0:=by
 rw [HX,List.sum_append,E2,Ω h];simp
theorem gh (s:Int) (cs rs:List Int) (x y:Int):bW s cs rs x y=0\/bW s cs rs x y=1:=by unfold bW; omega
theorem rZ {s:Int} {cs rs:List Int} {k:Nat} {y:Int} (h:k<cs.length):bW s cs rs ((k:Int)+1) y=(bW s cs rs k y+(if decide ((y+cs.getD k 0)%2=1)=true then 1 else 0))%2:=by
 unfold bW;rw [show ((k:Int)+1).toNat=k+1 by omega,F9,fj cs h,show ((k:Int)+1)*y=(k:Int)*y+y by rw [NQ,NO]];generalize (k:Int)*y=m;generalize (cs.take k).sum=a;generalize (rs.take y.toNat).sum=b;generalize cs.getD k 0=d;by_cases h2:(y+d)%2=1
 ·rw [aS h2,if_pos rfl]; omega
 ·rw [bA h2,if_neg (by decide)]; omega
theorem Aw {s:Int} {cs rs:List Int} {k:Nat} (h:k<rs.length):bW s cs rs 0 ((k:Int)+1)=if decide ((0+rs.getD k 0)%2=1)=true then 1 - bW s cs rs 0 k else bW s cs rs 0 k:=by
 unfold bW;rw [show ((k:Int)+1).toNat=k+1 by omega,F9,fj rs h,Int.zero_mul,Int.zero_mul];generalize (cs.take (0:Int).toNat).sum=a;generalize (rs.take k).sum=b;generalize rs.getD k 0=d;by_cases h2:(0+d)%2=1
 ·rw [aS h2,if_pos rfl]; omega
 ·rw [bA h2,if_neg (by decide)]; omega
theorem Cy {s:Int} {cs rs:List Int} (h:s=0\/s=1):bW s cs rs 0 0=s:=by
 unfold bW;simp
 omega
noncomputable def cZ (s:Int) (cs rs:List Int) (y:Int) (n:Nat):List Int:=(F3 n).map fun x=>bW s cs rs (x:Nat) y
noncomputable def cQ (s:Int) (cs rs:List Int) (n:Nat):List (List Int):=(F3 n).map fun y=>cZ s cs rs (y:Nat) (cs.length+1)
theorem cn (s:Int) (cs rs:List Int) (y:Int) (n:Nat):(cZ s cs rs y n).length=n:=by unfold cZ; rw [Θ,Gg]
theorem cK (s:Int) (cs rs:List Int) (n:Nat):(cQ s cs rs n).length=n:=by unfold cQ; rw [Θ,Gg]
theorem dW {s:Int} {cs rs:List Int} {y:Int} {n k:Nat} (h:k<n):(cZ s cs rs y n).getD k 0=bW s cs rs k y:=by
 unfold cZ;rw [E2,FE,K2 h]; rfl
theorem dX {s:Int} {cs rs:List Int} {n k:Nat} (h:k<n):(cQ s cs rs n).getD k []=cZ s cs rs k (cs.length+1):=by
 unfold cQ;rw [E2,FE,K2 h]; rfl
noncomputable def shl (bs:List Int) (n:Int):List Int:=bs.map fun b=>(b+n)%2
theorem uX (bs:List Int) (n:Int):(shl bs n).length=bs.length:=by unfold shl; rw [Θ]
theorem gO {bs:List Int} (h:bC bs) (n:Int):bC (shl bs n):=⟨by rw [uX]; exact h.1,fun z hz=>by
 unfold shl at hz;obtain ⟨b,_,rfl⟩:=F1.mp hz;omega⟩
def sp_az:Sp:=fun vs H Q _=>∃ (a:Δ) (n:Int) (bs:List Int),vs=[.ref a,.int n]/\H a=some (.lst (bs.map V.int))/\bs.length<=1000/\∀ l H',ah H H'->H l=none->H' l=some (.lst ((shl bs n).map V.int))->Q (.ref l) H'
theorem ok_az (T:Txt K mg t):aN P w K mg base CX0 1 t.f_az t.d_az ["bits","steps"] sp_az:=by
 refine T.F_az.ok sc_az (by walk_at "l") (fun _ _ _ s H vs Q E hr h=>?_)
 ·obtain ⟨a,n,bs,rfl,ha,hl,k⟩:=h;refine ⟨_,(ai (aA (bP (N:=["bit","steps"]) (cap:=[none,some 1]) rfl ⟨rfl,rfl,rfl,rfl,rfl,rfl⟩ (bQ (pv 0)) (fun _ _ _=>(aK (i:=0) (show (["bit","steps"]:List Str).Nodup by decide +kernel) rfl (GJ rfl))) (fun _ _ _=>cw) (fun _ _ _=>(aB bF (aB aR (pv 0) (pv 1)) ag))))),?_⟩;apply ⟨⟨_,SqL.of ha⟩,fun l hn=>?_⟩;refine iA (fun v=>match v with | .int i=>.int ((i+n)%2) | _=>.non) (SqL.of ha) (by rw [Θ]; exact hl) hn (fun x o H' Q' hx s1 q=>?_) (fun H' s1 e=>?_)
  ·obtain ⟨i,_,rfl⟩:=F1.mp hx;apply bR (by decide) ?_;exact q H' (ah.refl _)
  ·left;exact k l H' s1 hn (by rw [e,GF]; unfold shl; rw [GF]; rfl)
def sp_aj (C:Δ):Sp:=fun vs H Q _=>∃ (p:Δ) (s:Int) (cs rs:List Int),vs=[.ref p]/\aF C H p s cs rs/\(s=0\/s=1)/\bC cs/\bC rs/\∀ x H',ah H H'->aF C H' x s rs cs->Q (.ref x) H'
theorem ok_aj (T:Txt K mg t):aN P w K mg base CX0 8 t.f_aj t.d_aj ["cloth"] (sp_aj t.a_aa):=by
 refine T.F_aj.ok sc_aj (by walk_at "l") (fun _ _ _ s H vs Q E hr h=>?_)
 ·obtain ⟨p,s,cs,rs,rfl,hc,sh,bc,br,k⟩:=h;obtain ⟨dx,a,b,e1,e2,e3⟩:=hc.ob;have nl:∀ {w h:Int} {m:Str},NoF m->(cfl s a b w h).lookup m=none:=fun x=>bM _ _ _ x;refine ⟨_,(ai (aA (fO T.mk_aa (ok_ak T) (rmo hr) rfl T.mg_aa T.b_ak .nil ao (aa (aE (pv 0) T.cl_aa T.m_ad (ok_ad T) (rmo hr) T.b_ad .nil ao) (aa (aE (pv 0) T.cl_aa T.m_ae (ok_ae T) (rmo hr) T.b_ae .nil ao) (aa (aE (pv 0) T.cl_aa T.m_ah (ok_ah T) (rmo hr) T.b_ah .nil ao) ae)))))),?_⟩;apply au e1 (nl (by decide +kernel)) ?_;apply ⟨p,s,cs,rs,rfl,hc,?_⟩;apply au e1 (nl (by decide +kernel)) ?_;apply ⟨p,s,cs,rs,rfl,hc,fun l1 n1=>?_⟩;have s1:=ah.new (o:=HO.lst (rs.map V.int)) n1;apply au (s1 _ _ e1) (nl (by decide +kernel)) ?_;apply ⟨p,s,cs,rs,rfl,hc.mono s1,fun l2 n2=>?_⟩;have s2:=ah.new (o:=HO.lst (cs.map V.int)) n2;left;intro x dx nx ndx nex;have s12:=s1.trans s2;have h1:=s2 _ _ (af (H:=H) (a:=l1) (o:=HO.lst (rs.map V.int)));have h2:=af (H:=upd H l1 (HO.lst (rs.map V.int))) (a:=l2) (o:=HO.lst (cs.map V.int));generalize upd (upd H l1 (HO.lst (rs.map V.int))) l2 (HO.lst (cs.map V.int))=H3 at h1 h2 s12 nx ndx ⊢;have s3:ah H3 (upd (upd H3 dx (.own x)) x (.ins t.a_aa dx [])):=(ah.new ndx).later nx;refine ⟨x,dx,l1,l2,s,rs,cs,rfl,af,s3 _ _ h1,s3 _ _ h2,sh,br,bc,fun H4 kp hC=>⟨rfl,?_⟩⟩;exact k x H4 (fun b o e=>kp b o (s3 b o (s12 b o e)) (bz (s12 b o e) nx)) hC
theorem gT {C p dx c r:Δ} {H1 H4:Hp} (nx:H1 p=none) (ndx:H1 dx=none) (kp:∀ b o,upd (upd H1 dx (.own p)) p (.ins C dx []) b=some o->b≠p->H4 b=some o):ah H1 H4:=fun b o e =>
 kp b o (((ah.new ndx).later nx) b o e) (bz e nx)
theorem m9 {bs:List Int} (h:bC bs) (n:Nat):bC (bs.take n):=⟨by rw [Fl]; have:=h.1; omega,fun z hz=>h.2 z (Fp hz)⟩
theorem m8 {bs:List Int} (h:bC bs) (n:Nat):bC (bs.drop n):=⟨by rw [Fw]; have:=h.1; omega,fun z hz=>h.2 z (GP hz)⟩
theorem Cs {bs:List Int} (h:bC bs) {k:Nat} (hk:k<bs.length):bs.getD k 0=0\/bs.getD k 0=1:=h.2 _ (L2.getD_mem hk)
end
theorem uY {bs:List Int} (h:bC bs) (n:Int):shl (shl bs n) n=bs:=by
 unfold shl;rw [GF];refine (Ge fun b hb=>?_).trans (List.map_id bs);have:=h.2 b hb
 show ((b+n)%2+n)%2=b
 omega
section
variable {P:FP} {w:F0} {K:W.Frag} {mg:Str->Option χ} {base:F6} {t:Ad}
def sp_aU (C:Δ):Sp:=fun vs H Q _=>∃ (p:Δ) (s:Int) (cs rs:List Int),vs=[.ref p]/\aF C H p s cs rs/\(s=0\/s=1)/\bC cs/\bC rs/\∀ x H',ah H H'->aF C H' x s (shl cs 1) (shl rs 1)->Q (.ref x) H'
theorem ok_aU (T:Txt K mg t):aN P w K mg base CX0 8 t.f_aU t.d_aU ["cloth"] (sp_aU t.a_aa):=by
 refine T.F_aU.ok sc_aU (by walk_at "l") (fun _ _ _ s H vs Q E hr h=>?_)
 ·obtain ⟨p,s,cs,rs,rfl,hc,sh,bc,br,z⟩:=h;have lc:=bc.1;have lr:=br.1;obtain ⟨dx,a,b,e1,e2,e3⟩:=hc.ob;have nl:∀ {w h:Int} {m:Str},NoF m->(cfl s a b w h).lookup m=none:=fun x=>bM _ _ _ x;refine ⟨_,(ai (aA (fO T.mk_aa (ok_ak T) (rmo hr) rfl T.mg_aa T.b_ak .nil ao (aa (aE (pv 0) T.cl_aa T.m_ad (ok_ad T) (rmo hr) T.b_ad .nil ao) (aa (aj (ok_az T) (rmo hr) rfl T.mg_az T.F_az.kp T.b_az .nil ao (aa (aE (pv 0) T.cl_aa T.m_ah (ok_ah T) (rmo hr) T.b_ah .nil ao) (aa ag ae))) (aa (aj (ok_az T) (rmo hr) rfl T.mg_az T.F_az.kp T.b_az .nil ao (aa (aE (pv 0) T.cl_aa T.m_ae (ok_ae T) (rmo hr) T.b_ae .nil ao) (aa ag ae))) ae)))))),?_⟩;apply au e1 (nl (by decide +kernel)) ?_;apply ⟨p,s,cs,rs,rfl,hc,?_⟩;apply au e1 (nl (by decide +kernel)) ?_;apply ⟨p,s,cs,rs,rfl,hc,fun l1 n1=>?_⟩;have s1:=ah.new (o:=HO.lst (cs.map V.int)) n1;apply ⟨l1,1,cs,rfl,af,by omega,fun l2 H2 s2 n2 q2=>?_⟩;have s12:=s1.trans s2;apply au (s12 _ _ e1) (nl (by decide +kernel)) ?_;apply ⟨p,s,cs,rs,rfl,hc.mono s12,fun l3 n3=>?_⟩;have s3:=ah.new (o:=HO.lst (rs.map V.int)) n3;apply ⟨l3,1,rs,rfl,af,by omega,fun l4 H4 s4 n4 q4=>?_⟩;left;intro x dxx nx ndx nex;have sM:ah H4 (upd (upd H4 dxx (.own x)) x (.ins t.a_aa dxx [])):=(ah.new ndx).later nx;refine ⟨x,dxx,l2,l4,s,shl cs 1,shl rs 1,rfl,af,sM _ _ (s4 _ _ (s3 _ _ q2)),sM _ _ q4,sh,gO bc 1,gO br 1,fun H5 kp hC=>⟨rfl,?_⟩⟩;exact z x H5 (s12.trans (s3.trans (s4.trans (gT (c:=0) (r:=0) nx ndx kp)))) hC
def sp_al (C:Δ):Sp:=fun vs H Q _=>∃ (p:Δ) (y s:Int) (cs rs:List Int),vs=[.ref p,.int y]/\aF C H p s cs rs/\bC cs/\bC rs/\0<=y/\y<(rs.length:Int)+1 /\
 ∀ l H',ah H H'->H l=none->H' l=some (.lst ((cZ s cs rs y (cs.length+1)).map V.int))->Q (.ref l) H'
theorem ok_al (T:Txt K mg t):aN P w K mg base CX0 6 t.f_al t.d_al ["cloth","y"] (sp_al t.a_aa):=by
 refine T.F_al.ok sc_al (by walk_at "l") (fun _ _ _ s H vs Q E hr h=>?_)
 ·obtain ⟨p,y,s,cs,rs,rfl,hc,bc,br,y0,y1,k⟩:=h;have lc:=bc.1;obtain ⟨dx,a,b,e1,e2,e3⟩:=hc.ob;have nl:∀ {w h:Int} {m:Str},NoF m->(cfl s a b w h).lookup m=none:=fun x=>bM _ _ _ x;refine ⟨_,(ai (aA (bP (N:=["x","cloth","y"]) (cap:=[none,some 0,some 1]) rfl ⟨rfl,rfl,rfl,rfl,rfl,rfl⟩ (cf rfl T.no_aT (aa (aE (pv 0) T.cl_aa T.m_ac (ok_ac T) (rmo hr) T.b_ac .nil ao) ae)) (fun _ _ _=>(aK (i:=0) (show (["x","cloth","y"]:List Str).Nodup by decide +kernel) rfl (GJ rfl))) (fun _ _ _=>cw) (fun _ _ _=>(eU (pv 1) T.cl_aa T.m_af (ok_af T) (rmo hr) T.b_af .nil ao (aa (pv 0) (aa (pv 2) ae))))))),?_⟩;apply au e1 (nl (by decide +kernel)) ?_;apply ⟨p,s,cs,rs,rfl,hc,?_⟩;apply ⟨_,rfl,by omega,by omega,fun l hn=>?_⟩;rw [show ((cs.length:Int)+1).toNat=cs.length+1 by omega];refine eR (fun i=>.int (bW s cs rs (i:Nat) y)) (by omega) hn (fun i o H' Q' hi s1 q=>?_) (fun H' s1 e=>?_)
  ·apply au (s1 _ _ e1) (nl (by decide +kernel)) ?_;left;rw [IW];exact ⟨p,(i:Nat),y,s,cs,rs,rfl,hc.mono s1,bc,br,by omega,by omega,y0,y1,q⟩
  ·left;exact k l H' s1 hn (by rw [e]; unfold cZ; rw [GF]; rfl)
def sp_aS (C:Δ):Sp:=fun vs H Q _=>∃ (p:Δ) (s:Int) (cs rs:List Int),vs=[.ref p]/\aF C H p s cs rs/\bC cs/\bC rs /\
 ∀ l (as:List Δ) H',ah H H'->H l=none->(∀ a∈as,H a=none)->H' l=some (.lst (as.map V.ref))->as.length=rs.length+1->(∀ (i:Nat) a,as[i]?=some a->a≠l/\H' a=some (.lst ((cZ s cs rs (i:Nat) (cs.length+1)).map V.int)))->Q (.ref l) H'
theorem ok_aS (T:Txt K mg t):aN P w K mg base CX0 9 t.f_aS t.d_aS ["cloth"] (sp_aS t.a_aa):=by
 refine T.F_aS.ok sc_aS (by walk_at "l") (fun _ _ _ s H vs Q E hr h=>?_)
 ·obtain ⟨p,s,cs,rs,rfl,hc,bc,br,k⟩:=h;have lr:=br.1;obtain ⟨dx,a,b,e1,e2,e3⟩:=hc.ob;have nl:∀ {w h:Int} {m:Str},NoF m->(cfl s a b w h).lookup m=none:=fun x=>bM _ _ _ x;refine ⟨_,(ai (aA (bP (N:=["y","cloth"]) (cap:=[none,some 0]) rfl ⟨rfl,rfl,rfl,rfl,rfl,rfl⟩ (cf rfl T.no_aT (aa (aE (pv 0) T.cl_aa T.m_ai (ok_ai T) (rmo hr) T.b_ai .nil ao) ae)) (fun _ _ _=>(aK (i:=0) (show (["y","cloth"]:List Str).Nodup by decide +kernel) rfl (GJ rfl))) (fun _ _ _=>cw) (fun _ _ _=>(aj (ok_al T) (rmo hr) rfl T.mg_al T.F_al.kp T.b_al .nil ao (aa (pv 1) (aa (pv 0) ae))))))),?_⟩;apply au e1 (nl (by decide +kernel)) ?_;apply ⟨p,s,cs,rs,rfl,hc,?_⟩;apply ⟨_,rfl,by omega,by omega,fun l hn=>?_⟩;rw [show ((rs.length:Int)+1).toNat=rs.length+1 by omega];refine oo (fun i v H'=>∃ a,v=.ref a/\H a=none/\a≠l/\H' a=some (.lst ((cZ s cs rs (i:Nat) (cs.length+1)).map V.int))) (by omega) hn ?_ (fun i o H' Q' hi s1 ys q=>?_) (fun ys H' s1 e ly hR=>?_)
  ·rintro i v H1 H2 sb ⟨a,rfl,h1,h2,h3⟩;exact ⟨a,rfl,h1,h2,sb _ _ h3 h2⟩
  ·left;rw [IW];refine ⟨p,(i:Nat),s,cs,rs,rfl,hc.mono s1,bc,br,by omega,by omega,fun l2 H5 s5 n5 e5=>?_⟩;exact q _ H5 s5 ⟨l2,rfl,s1.free n5,fun z=>(by obtain ⟨ys,hy⟩:=ys; rw [z,hy] at n5; cases n5),e5⟩
  ·left;obtain ⟨as,rfl,ha⟩:=Bw (R:=fun i a=>H a=none/\a≠l/\H' a=some (.lst ((cZ s cs rs (i:Nat) (cs.length+1)).map V.int))) hR;rw [Θ] at ly;refine k l as H' s1 hn (fun x hx=>?_) e ly fun i x hx=>⟨(ha i x hx).2.1,(ha i x hx).2.2⟩
   obtain ⟨i,hi,rfl⟩:=NF.mp hx;exact (ha i _ (Ω hi)).1
theorem tY {H:Hp} {l:Δ} {rows:List (List Int)} (h:f7 H l rows):∃ xs:List V,H l=some (.lst xs)/\xs.length=rows.length/\∀ (i:Nat) v r,xs[i]?=some v->rows[i]?=some r->∃ a,v=.ref a/\H a=some (.lst (r.map V.int)):=by
 obtain ⟨as,h1,h2,h3⟩:=h.ob;refine ⟨_,h1,by rw [Θ]; exact h2,fun i v r e1 e2=>?_⟩;rw [FE] at e1;obtain ⟨a,ea,rfl⟩:=KA.mp e1;exact ⟨a,rfl,(h3 i a r ea e2).2⟩
theorem lh {n:Nat}:d8 (n:Int)=true↔0<n/\n<41:=by
 unfold d8;rw [GB,decide_eq_true_eq,decide_eq_true_eq]; omega
noncomputable def AB (rows:List (List Int)) (y x:Nat):Int:=(rows.getD y []).getD x 0
theorem EF {r:List Int} {x:Nat} (h:x+1<r.length):di (r.map V.int) (some (x:Int)) (some ((x:Int)+2))=[r.getD x 0,r.getD (x+1) 0].map V.int:=by
 unfold di;rw [show ((x:Int)+2)=((x+2:Nat):Int) by omega,HT.gU,HT.gU,Θ,G2 (by omega),G2 (by omega),show x+2 - x=2 by omega];rw [<- MW,<- MV]
 congr 1
 have e1:=F8 (show x<r.length by omega);have e2:=F8 h;rw [e1,e2,E2,E2,Ω h,Ω (show x<r.length by omega)];rfl
theorem AZ {H':Hp} {l:Δ} {as:List Δ} {s:Int} {cs rs:List Int} (e:H' l=some (.lst (as.map V.ref))) (hl:as.length=rs.length+1) (h:∀ (i:Nat) a,as[i]?=some a->a≠l/\H' a=some (.lst ((cZ s cs rs (i:Nat) (cs.length+1)).map V.int))):f7 H' l (cQ s cs rs (rs.length+1)) :=
 ⟨as,e,by rw [cK]; exact hl,fun i a r e1 e2=>by
  have hi:i<rs.length+1:=by have:=(C_.mp e1).1; omega
  have e3:=dX (s:=s) (cs:=cs) (rs:=rs) hi;rw [E2,e2] at e3;have e3:r=_:=e3;rw [e3];exact h i a e1⟩
noncomputable def unl (r:List Int):List Int:=(F3 (r.length - 1)).map fun k=>(r.getD k 0+r.getD (k+1) 0)%2
theorem vf (r:List Int):(unl r).length=r.length - 1:=by unfold unl; rw [Θ,Gg]
theorem ve {r:List Int} {k:Nat} (h:k<r.length - 1):(unl r).getD k 0=(r.getD k 0+r.getD (k+1) 0)%2:=by
 unfold unl;rw [E2,FE,K2 h]; rfl
noncomputable def og (rows:List (List Int)):List Int:=rows.map fun r=>r.getD 0 0
theorem gf (rows:List (List Int)):(og rows).length=rows.length:=by unfold og; rw [Θ]
theorem ql {rows:List (List Int)} {y:Nat} (h:y<rows.length):(og rows).getD y 0=AB rows y 0:=by
 unfold og AB;have e:rows.getD y []=rows[y]:=by rw [E2,Ω h]; rfl
 rw [e,E2,FE,Ω h]; rfl
theorem xI (s:Int) (cs rs:List Int) (x y:Nat):(bW s cs rs x y+bW s cs rs ((x:Int)+1) y+(bW s cs rs x ((y:Int)+1)+bW s cs rs ((x:Int)+1) ((y:Int)+1)))%2=1:=by
 unfold bW;have e1:((x:Int)+1)*(y:Int)=(x:Int)*y+y:=by rw [NQ,NO]
 have e2:(x:Int)*((y:Int)+1)=(x:Int)*y+x:=by rw [Int.mul_add,Int.mul_one]
 have e3:((x:Int)+1)*((y:Int)+1)=(x:Int)*y+x+y+1:=by rw [NQ,NO,e2]; omega
 rw [e1,e2,e3];generalize (x:Int)*(y:Int)=m;generalize (cs.take (x:Int).toNat).sum=a;generalize (cs.take ((x:Int)+1).toNat).sum=a';generalize (rs.take (y:Int).toNat).sum=c;generalize (rs.take ((y:Int)+1).toNat).sum=c';omega
theorem Ew {s:Int} {cs rs:List Int} {n:Nat} (bc:bC cs):unl ((cQ s cs rs (n+1)).getD 0 [])=cs:=by
 rw [dX (LS _)];refine Lg (by rw [vf,cn]; omega) fun k h1 h2=>?_;have e:=ve (r:=cZ s cs rs ((0:Nat):Int) (cs.length+1)) (k:=k) (by rw [cn]; omega);rw [E2,Ω h1] at e;have e:(unl (cZ s cs rs ((0:Nat):Int) (cs.length+1)))[k]=_:=e;rw [e,dW (by omega),dW (by omega),show (((k+1:Nat)):Int)=(k:Int)+1 by omega,rZ h2];have eb:cs.getD k 0=cs[k]:=by rw [E2,Ω h2]; rfl
 have b:=bc.2 _ (II h2);rw [eb];have cb:=gh s cs rs (k:Int) ((0:Nat):Int);generalize bW s cs rs (k:Int) ((0:Nat):Int)=u at cb ⊢;generalize cs[k]=v at b ⊢;by_cases c:(((0:Nat):Int)+v)%2=1
 ·rw [aS c,if_pos rfl]; omega
 ·rw [bA c,if_neg (by decide)]; omega
theorem Ex {s:Int} {cs rs:List Int} (br:bC rs):unl (og (cQ s cs rs (rs.length+1)))=rs:=by
 refine Lg (by rw [vf,gf,cK]; omega) fun k h1 h2=>?_;have e:=ve (r:=og (cQ s cs rs (rs.length+1))) (k:=k) (by rw [gf,cK]; omega);rw [E2,Ω h1] at e;have e:(unl (og (cQ s cs rs (rs.length+1))))[k]=_:=e;have gt:∀ y:Nat,y<rs.length+1->AB (cQ s cs rs (rs.length+1)) y 0=bW s cs rs 0 (y:Int):=fun y hy=>by
  unfold AB;rw [dX hy,dW (LS _)]; rfl
 rw [e,ql (by rw [cK]; omega),ql (by rw [cK]; omega),gt k (by omega),gt (k+1) (by omega),show (((k+1:Nat)):Int)=(k:Int)+1 by omega,Aw h2];have eb:rs.getD k 0=rs[k]:=by rw [E2,Ω h2]; rfl
 have b:=br.2 _ (II h2);rw [eb];have cb:=gh s cs rs 0 (k:Int);generalize bW s cs rs 0 (k:Int)=u at cb ⊢;generalize rs[k]=v at b ⊢;by_cases c:((0:Int)+v)%2=1
 ·rw [aS c,if_pos rfl]; omega
 ·rw [bA c,if_neg (by decide)]; omega
theorem kP {H:Hp} {l:Δ} {s:Int} {cs rs:List Int} {n:Nat} (h:f7 H l (cQ s cs rs n)) {y:Int} (y0:0<=y) (y1:y<(n:Nat)):∃ xs a,H l=some (.lst xs)/\atI xs y=some (.ref a)/\H a=some (.lst ((cZ s cs rs y (cs.length+1)).map V.int)):=by
 obtain ⟨xs,a,h1,h2,h3⟩:=h.row (i:=y) y0 (by rw [cK]; exact y1);rw [dX (by omega),show ((y.toNat:Nat):Int)=y by omega] at h3;exact ⟨xs,a,h1,h2,h3⟩
theorem zH (s:Int) (cs rs:List Int) (y:Int) (n:Nat):∀ z∈cZ s cs rs y n,z=0\/z=1:=fun z hz=>by
 unfold cZ at hz;obtain ⟨x,_,rfl⟩:=F1.mp hz;exact gh _ _ _ _ _
theorem By (s:Int) (cs rs:List Int) (y:Int) (n:Nat):(cZ s cs rs y n).all c9=true:=Ht.mpr fun z hz=>by
 unfold c9;have:=zH s cs rs y n z hz
 rw [GB,decide_eq_true_eq,decide_eq_true_eq]; omega
def sp_ax:Sp:=fun vs H Q _=>∃ (l:Δ) (s:Int) (cs rs:List Int),vs=[.ref l]/\f7 H l (cQ s cs rs (rs.length+1))/\cs.length<=39/\rs.length<=39/\∀ H',ah H H'->Q .non H'
theorem ok_ax (T:Txt K mg t):aN P w K mg base CX0 6 t.f_ax t.d_ax ["table"] sp_ax:=by
 refine T.F_ax.ok sc_ax (by walk_at "l") (fun _ _ _ s H vs Q E hr h=>?_)
 ·obtain ⟨l,s,cs,rs,rfl,tb,lc,lr,k⟩:=h;obtain ⟨xs,hl,lx,it⟩:=tY tb;have ln:=cK s cs rs (rs.length+1);have gt:∀ {i:Nat} {x:V},xs[i]?=some x->i<rs.length+1/\∃ a,x=.ref a/\H a=some (.lst ((cZ s cs rs (i:Nat) (cs.length+1)).map V.int)):=fun {i x} hx=>by
   have hi:i<rs.length+1:=by rw [<- ln,<- lx]; exact (C_.mp hx).1
   obtain ⟨a,e,ha⟩:=it i x _ hx (Ω (by rw [ln]; exact hi));have e3:=dX (s:=s) (cs:=cs) (rs:=rs) hi;rw [E2,Ω (by rw [ln]; exact hi)] at e3;have e3:(cQ s cs rs (rs.length+1))[i]=_:=e3;rw [e3] at ha;exact ⟨hi,a,e,ha⟩
  refine aJ (oQ (i:=1) sc_ax.nd rfl (GJ rfl) (N:=["row"]) (cap:=[none]) rfl ⟨rfl,rfl,rfl,rfl,rfl,rfl⟩ (bQ (pv 0)) (fun _ _ _=>(aK (i:=0) (show (["row"]:List Str).Nodup by decide +kernel) rfl (GJ rfl))) (fun _ _ _=>cw) (fun _ _ _=>(aw (aU K rfl) rfl T.no_len (by rfl) (aa (pv 0) ae))) (by rfl)) fun _ _=>aJ (aO (PW.pt (jk (bX (aZ (aj (ok_aF T) (rmo hr) rfl T.mg_aF T.F_aF.kp T.b_aF .nil ao (aa (aw (aU K rfl) rfl T.no_len (by rfl) (aa (pv 1) ae)) ae)))) (jk (bX (aZ (aj (ok_aF T) (rmo hr) rfl T.mg_aF T.F_aF.kp T.b_aF .nil ao (aa (aD (aq K rfl) (pv 1) ag) ae)))) (gy (aW j3 (cL FF PySem.F.slot_list_count PySem.F.type_list_count vM (pv 1) (aa (aD (aq K rfl) (pv 1) ag) ae)) (aw (aU K rfl) rfl T.no_len (by rfl) (aa (pv 1) ae))))))) (ai dF) aC) fun _ _=>cM (aO (bX (aZ (aw (kA K rfl rfl) rfl T.no_all (by rfl) (aa (bP (N:=["row"]) (cap:=[none]) rfl ⟨rfl,rfl,rfl,rfl,rfl,rfl⟩ (bQ (pv 0)) (fun _ _ _=>(aK (i:=0) (show (["row"]:List Str).Nodup by decide +kernel) rfl (GJ rfl))) (fun _ _ _=>cw) (fun _ _ _=>(aj (ok_aE T) (rmo hr) rfl T.mg_aE T.F_aE.kp T.b_aE .nil ao (aa (pv 0) ae)))) ae)))) (ai dF) aC) fun _ _=>?_;apply ⟨⟨_,SqL.of hl⟩,fun l1 n1=>?_⟩;refine gi ((JG (rs.length+1) (((cs.length+1:Nat)):Int)).map V.int) (by rw [Θ,G6,lx,ln]) (SqL.of hl) (by omega) n1 (fun i x y o H' Q' hx hy s1 q=>?_) (fun H1 s1 e1=>?_)
  ·obtain ⟨hi,a,rfl,ha⟩:=gt hx;rw [FE,KG,if_pos hi] at hy
   cases hy;apply aV (s1 _ _ ha) ?_;rw [Θ,cn];exact q H' (ah.refl _)
  apply aV e1 ?_;rw [Θ,G6];apply ⟨_,rfl,?_⟩;rw [lh.mpr (by omega)];left;have e0:(JG (rs.length+1) (((cs.length+1:Nat)):Int)).getD (0:Int).toNat 0=((cs.length+1:Nat):Int):=rfl;refine aG (SqL.of e1) (aT (i:=0) (by decide) (by rw [G6]; omega)) ?_;rw [e0];apply ⟨_,rfl,?_⟩;rw [lh.mpr (by omega)];apply bN e1 ?_;apply aG (SqL.of e1) (aT (i:=0) (by decide) (by rw [G6]; omega)) ?_;rw [e0];apply wa e1 ?_;apply aV e1 ?_;rw [Θ,G6,List.count_replicate_self];left;rw [aS rfl];apply ⟨⟨_,SqL.of (s1 _ _ hl)⟩,fun l2 n2=>?_⟩;refine gi ((JG (rs.length+1) true).map V.bl) (by rw [Θ,G6,lx,ln]) (SqL.of (s1 _ _ hl)) (by omega) n2 (fun i x y o H' Q' hx hy s2 q=>?_) (fun H2 s2 e2=>?_)
  ·obtain ⟨hi,a,rfl,ha⟩:=gt hx;rw [FE,KG,if_pos hi] at hy
   cases hy;apply ⟨a,_,rfl,s2 _ _ (s1 _ _ ha),by rw [cn]; omega,fun H3 s3=>?_⟩;rw [By];exact q H3 s3
  apply lK e2 ?_;rw [show (JG (rs.length+1) true).all id=true by simp];left;exact k H2 (s1.trans s2)
def sp_a0:Sp:=fun vs H Q _=>∃ (l:Δ) (x y:Nat) (s:Int) (cs rs:List Int),vs=[.ref l,.int x,.int y]/\f7 H l (cQ s cs rs (rs.length+1))/\x<cs.length/\y<rs.length/\∀ H',ah H H'->Q (.bl false) H'
theorem ok_a0 (T:Txt K mg t):aN P w K mg base CX0 1 t.f_a0 t.d_a0 ["table","x","y"] sp_a0:=by
 refine T.F_a0.ok sc_a0 (by walk_at "l") (fun _ _ _ s H vs Q E hr h=>?_)
 ·obtain ⟨l,x,y,s,cs,rs,rfl,tb,hx,hy,k⟩:=h;have small:∀ y:Int,fm [bW s cs rs x y,bW s cs rs ((x+1:Nat):Int) y]:=fun y=>iy (fun z hz=>by
   symm at hz;rcases hz with rfl | rfl<;>exact gh _ _ _ _ _) (by show 2<=1000; decide)
  have cut:∀ y:Int,di ((cZ s cs rs y (cs.length+1)).map V.int) (some (x:Int)) (some ((x:Int)+2))=[bW s cs rs x y,bW s cs rs ((x+1:Nat):Int) y].map V.int:=fun y=>by
   rw [EF (by rw [cn]; omega),dW (by omega),dW (by omega)]
  obtain ⟨xs,a1,e1,e2,e3⟩:=kP tb (y:=(y:Int)) (by omega) (by omega);refine ⟨_,(ai (aA (gu b8 (aB bF (aB aR (aw (kB K rfl rfl) rfl T.no_sum (by rfl) (aa (b9 (cC K rfl) (aD (aq K rfl) (pv 0) (pv 2)) (bE (pv 1)) (bE (aB aR (pv 1) ag))) ae)) (aw (kB K rfl rfl) rfl T.no_sum (by rfl) (aa (b9 (cC K rfl) (aD (aq K rfl) (pv 0) (aB aR (pv 2) ag)) (bE (pv 1)) (bE (aB aR (pv 1) ag))) ae))) ag) ag))),?_⟩;apply aG (SqL.of e1) e2 ?_;apply zw e3 fun u1 H1 s1 _ f1=>?_;rw [cut] at f1;apply uV f1 (small _) ?_;left;obtain ⟨xs',a2,g1,g2,g3⟩:=kP (tb.mono s1) (y:=(y:Int)+1) (by omega) (by omega);refine aG (SqL.of g1) g2 ?_;apply zw g3 fun u2 H2 s2 _ f2=>?_;rw [cut] at f2;apply uV f2 (small _) ?_;apply bR (by decide) ?_;left;have c4:=xI s cs rs x y;rw [show ((x+1:Nat):Int)=(x:Int)+1 by omega];have e:∀ p q:Int,[p,q].sum=p+q:=fun p q=>by simp
  rw [e,e,bA (by omega)];exact k H2 (s1.trans s2)
def sp_aq:Sp:=fun vs H Q _=>∃ (l:Δ) (s:Int) (cs rs:List Int),vs=[.ref l]/\f7 H l (cQ s cs rs (rs.length+1))/\cs.length<=39/\rs.length<=39/\∀ lf H',ah H H'->H' lf=some (.lst [])->Q (.ref lf) H'
theorem ok_aq (T:Txt K mg t):aN P w K mg base CX0 7 t.f_aq t.d_aq ["table"] sp_aq:=by
 refine T.F_aq.ok sc_aq (by walk_at "l") (fun _ _ _ s H vs Q E hr h=>?_)
 ·obtain ⟨l,s,cs,rs,rfl,tb,lc,lr,k3⟩:=h;have ln:=cK s cs rs (rs.length+1);refine aJ (bg (aj (ok_ax T) (rmo hr) rfl T.mg_ax T.F_ax.kp T.b_ax .nil ao (aa (pv 0) ae))) fun _ _=>aJ (aM 1 sc_aq.nd (bT ae)) fun _ _=>aJ (df F5 rfl (cf rfl T.no_aT (aa (aB cq (aw (aU K rfl) rfl T.no_len (by rfl) (aa (pv 0) ae)) ag) ae)) (aK (i:=2) sc_aq.nd rfl (Kn rfl)) (ai (bg (cL FF PySem.F.slot_list_extend PySem.F.type_list_extend vN (pv 1) (aa (bP (N:=["x","y","table"]) (cap:=[none,some 2,some 0]) rfl ⟨rfl,rfl,rfl,rfl,rfl,rfl⟩ (cf rfl T.no_aT (aa (aB cq (aw (aU K rfl) rfl T.no_len (by rfl) (aa (aD (aq K rfl) (pv 0) (pv 2)) ae)) ag) ae)) (fun _ _ _=>(aK (i:=0) (show (["x","y","table"]:List Str).Nodup by decide +kernel) rfl (GJ rfl))) (fun _ _ _=>(fR (aZ (aj (ok_a0 T) (rmo hr) rfl T.mg_a0 T.F_a0.kp T.b_a0 .nil ao (aa (pv 2) (aa (pv 0) (aa (pv 1) ae))))))) (fun _ _ _=>(bJ (aa (pv 0) (aa (pv 1) ae))))) ae))))) fun _ _=>cM (aA (pv 1)) fun _ _=>?_;apply ⟨l,s,cs,rs,rfl,tb,lc,lr,fun H1 s1=>?_⟩;apply nwL fun lf H2 slf nlf elf=>?_;have s2:=s1.trans slf;have nlf0:H lf=none:=s1.free nlf;obtain ⟨xs0,hl2,lx2,_⟩:=tY (tb.mono s2);apply aV hl2 ?_;rw [lx2,ln];apply ⟨_,rfl,by omega,by omega,?_⟩;rw [show (((rs.length+1:Nat):Int) - 1).toNat=rs.length by omega];refine dv (fun i σ' H'=>∃ (oy:Option V),σ'=[some (.ref l),some (.ref lf),oy]/\ah H H'/\H' lf=some (.lst [])) ⟨none,rfl,s2,elf⟩ ?_ ?_
  ·rintro i σ' H3 hi ⟨oy,rfl,s3,e3⟩;rw [IW];have tb3:=tb.mono s3;apply bN e3 ?_;obtain ⟨xs1,a1,q1,q2,q3⟩:=kP tb3 (y:=((i:Nat):Int)) (by omega) (by omega);apply aG (SqL.of q1) q2 ?_;apply aV q3 ?_;rw [Θ,cn];apply ⟨_,rfl,by omega,by omega,fun lc' nlc=>?_⟩;rw [show (((cs.length+1:Nat):Int) - 1).toNat=cs.length by omega];refine om (fun x=>false) (fun m v H'=>True) (by omega) nlc (fun m v Ha Hb sb q=>trivial) (fun x o H' Q' hx s4 q=>?_) (fun x o H' Q' hx z s4 hlc q=>(nomatch z)) (fun ys H4 s4 e4 ly hR=>?_)
   ·rw [IW];left;exact ⟨l,x,i,s,cs,rs,rfl,tb3.mono s4,by omega,by omega,fun H5 s5=>⟨_,rfl,q H5 s5⟩⟩
   ·have:ys=[]:=F2 (by rw [ly]; simp)
    subst this;apply ⟨lf,lc',[],[],rfl,rfl,s4 _ _ e3,e4,by decide,?_⟩;refine ⟨_,rfl,fun c o e=>?_,af⟩;rw [ar (bz e nlf0)];exact s4 _ _ (s3 _ _ e)
  ·rintro σ' H3 ⟨oy,rfl,s3,e3⟩;left;exact k3 lf H3 s3 e3
def sp_aW:Sp:=fun vs H Q _=>∃ (a:Δ) (r:List Int),vs=[.ref a]/\H a=some (.lst (r.map V.int))/\r.length<=1000/\0<r.length/\∀ l H',ah H H'->H l=none->H' l=some (.lst ((unl r).map V.int))->Q (.ref l) H'
theorem ok_aW (T:Txt K mg t):aN P w K mg base CX0 1 t.f_aW t.d_aW ["numbers"] sp_aW:=by
 refine T.F_aW.ok sc_aW (by walk_at "l") (fun _ _ _ s H vs Q E hr h=>?_)
 ·obtain ⟨a,r,rfl,ha,hl,h0,k⟩:=h;refine ⟨_,(ai (aA (bP (N:=["k","numbers"]) (cap:=[none,some 0]) rfl ⟨rfl,rfl,rfl,rfl,rfl,rfl⟩ (cf rfl T.no_aT (aa (aB cq (aw (aU K rfl) rfl T.no_len (by rfl) (aa (pv 0) ae)) ag) ae)) (fun _ _ _=>(aK (i:=0) (show (["k","numbers"]:List Str).Nodup by decide +kernel) rfl (GJ rfl))) (fun _ _ _=>cw) (fun _ _ _=>(aB bF (aB aR (aD (aq K rfl) (pv 1) (pv 0)) (aD (aq K rfl) (pv 1) (aB aR (pv 0) ag))) ag))))),?_⟩;apply aV ha ?_;rw [Θ];apply ⟨_,rfl,by omega,by omega,fun l hn=>?_⟩;rw [show ((r.length:Int) - 1).toNat=r.length - 1 by omega];refine eR (fun i=>.int ((r.getD i 0+r.getD (i+1) 0)%2)) (by omega) hn (fun i o H' Q' hi s1 q=>?_) (fun H' s1 e=>?_)
  ·left;rw [IW];refine aG (SqL.of (s1 _ _ ha)) (aT (i:=(i:Int)) (by omega) (by omega)) ?_;apply aG (SqL.of (s1 _ _ ha)) (aT (i:=(i:Int)+1) (by omega) (by omega)) ?_;rw [F9,show ((i:Int)+1).toNat=i+1 by omega];apply bR (by decide) ?_;exact q H' (ah.refl _)
  ·left;exact k l H' s1 hn (by rw [e]; unfold unl; rw [GF]; rfl)
def sp_aM (C:Δ):Sp:=fun vs H Q _=>∃ (l:Δ) (s:Int) (cs rs:List Int),vs=[.ref l]/\f7 H l (cQ s cs rs (rs.length+1))/\(s=0\/s=1)/\bC cs/\bC rs/\∀ x H',ah H H'->aF C H' x s cs rs->Q (.ref x) H'
theorem ok_aM (T:Txt K mg t):aN P w K mg base CX0 9 t.f_aM t.d_aM ["table"] (sp_aM t.a_aa):=by
 refine T.F_aM.ok sc_aM (by walk_at "l") (fun _ _ _ s H vs Q E hr h=>?_)
 ·obtain ⟨l,s,cs,rs,rfl,tb,sh,bc,br,k⟩:=h;have lc:=bc.1;have lr:=br.1;have ln:=cK s cs rs (rs.length+1);refine aJ (aM 1 sc_aM.nd (aj (ok_aq T) (rmo hr) rfl T.mg_aq T.F_aq.kp T.b_aq .nil ao (aa (pv 0) ae))) fun _ _=>aJ (aO (aW uF (aw (aU K rfl) rfl T.no_len (by rfl) (aa (pv 1) ae)) ag) (aQ (aM 2 sc_aM.nd (aD (aq K rfl) (pv 1) ag)) (ai dF)) aC) fun _ _=>cM (aA (fO T.mk_aa (ok_ak T) (rmo hr) rfl T.mg_aa T.b_ak .nil ao (aa (aD (aq K rfl) (aD (aq K rfl) (pv 0) ag) ag) (aa (aj (ok_aW T) (rmo hr) rfl T.mg_aW T.F_aW.kp T.b_aW .nil ao (aa (aD (aq K rfl) (pv 0) ag) ae)) (aa (aj (ok_aW T) (rmo hr) rfl T.mg_aW T.F_aW.kp T.b_aW .nil ao (aa (bP (N:=["row"]) (cap:=[none]) rfl ⟨rfl,rfl,rfl,rfl,rfl,rfl⟩ (bQ (pv 0)) (fun _ _ _=>(aK (i:=0) (show (["row"]:List Str).Nodup by decide +kernel) rfl (GJ rfl))) (fun _ _ _=>cw) (fun _ _ _=>(aD (aq K rfl) (pv 0) ag))) ae)) ae))))) fun _ _=>?_;apply ⟨l,s,cs,rs,rfl,tb,lc,lr,fun lf H1 s1 e1=>?_⟩;apply aV e1 ?_;left;rw [bA (by decide)];left;have tb1:=tb.mono s1;obtain ⟨xs0,a0,q1,q2,q3⟩:=kP tb1 (y:=0) (by decide) (by omega);refine aG (SqL.of q1) q2 ?_;apply aG (SqL.of q3) (aT (i:=0) (by decide) (by rw [cn]; omega)) ?_;rw [show (0:Int).toNat=0 from rfl,dW (LS _),show bW s cs rs ((0:Nat):Int) 0=s from Cy sh];apply aG (SqL.of q1) q2 ?_;apply ⟨a0,_,rfl,q3,by rw [cn]; omega,by rw [cn]; omega,fun l2 H2 s2 n2 e2=>?_⟩;have ec:=Ew (s:=s) (rs:=rs) (n:=rs.length) bc;rw [dX (LS _)] at ec;rw [show (0:Int)=((0:Nat):Int) from rfl,ec] at e2;left;obtain ⟨ys,hl2,ly2,it2⟩:=tY (tb1.mono s2);refine ⟨⟨_,SqL.of hl2⟩,fun l3 n3=>?_⟩;refine gi ((og (cQ s cs rs (rs.length+1))).map V.int) (by rw [Θ,gf,ly2]) (SqL.of hl2) (by omega) n3 (fun i x y o H' Q' hx hy s3 q=>?_) (fun H3 s3 e3=>?_)
  ·have hi:i<(cQ s cs rs (rs.length+1)).length:=by rw [<- ly2]; exact (C_.mp hx).1
   obtain ⟨a,rfl,ha⟩:=it2 i x _ hx (Ω hi);unfold og at hy;rw [FE,FE,Ω hi] at hy
   cases hy
   have hw:(cQ s cs rs (rs.length+1))[i].length=cs.length+1:=by
    have hm:=II hi;generalize (cQ s cs rs (rs.length+1))[i]=r at hm;unfold cQ at hm;obtain ⟨y,_,rfl⟩:=F1.mp hm;exact cn _ _ _ _ _
   apply aG (SqL.of (s3 _ _ ha)) (aT (i:=0) (by decide) (by rw [hw]; omega)) ?_;exact q H' (ah.refl _)
  ·apply ⟨l3,_,rfl,e3,by rw [gf,ln]; omega,by rw [gf,ln]; omega,fun l4 H4 s4 n4 e4=>?_⟩;rw [Ex br] at e4;left;intro x dx nx ndx nex;have sM:ah H4 (upd (upd H4 dx (.own x)) x (.ins t.a_aa dx [])):=(ah.new ndx).later nx;refine ⟨x,dx,l2,l4,_,_,_,rfl,af,sM _ _ (s4 _ _ (s3 _ _ e2)),sM _ _ e4,sh,bc,br,fun HC kp hX=>⟨rfl,?_⟩⟩;exact k x HC (s1.trans (s2.trans (s3.trans (s4.trans (gT (c:=0) (r:=0) nx ndx kp))))) hX
structure xr (s:Int) (cs rs:List Int) (s2:Int) (cs2 rs2 cs':List Int):Prop where
 fit:rs2=shl rs ((cs.length:Int)+1)
 len:cs.length+cs2.length+1<=39
 out:cs'=cs++(bW s cs rs (cs.length:Nat) 0+s2)%2::cs2
theorem vh {cs cs2:List Int} {b:Int} (h:bC cs) (h2:bC cs2) (hb:b=0\/b=1) (hl:cs.length+cs2.length+1<=39):bC (cs++b::cs2):=⟨by rw [BG,EX]; omega,fun z hz=>by
 rcases E_.mp hz with q | q
 ·exact h.2 z q
 ·rcases BF.mp q with rfl | q
  ·exact hb
  ·exact h2.2 z q⟩
def sp_an (C:Δ):Sp:=fun vs H Q _=>∃ (p q:Δ) (s s2:Int) (cs rs cs2 rs2 cs':List Int),vs=[.ref p,.ref q]/\aF C H p s cs rs/\aF C H q s2 cs2 rs2/\(s=0\/s=1)/\bC cs/\bC rs/\bC cs2/\xr s cs rs s2 cs2 rs2 cs' /\
 ∀ x H',ah H H'->aF C H' x s cs' rs->Q (.ref x) H'
theorem ok_an (T:Txt K mg t):aN P w K mg base CX0 9 t.f_an t.d_an ["one","other"] (sp_an t.a_aa):=by
 refine T.F_an.ok sc_an (by walk_at "l") (fun _ _ _ s H vs Q E hr h=>?_)
 ·obtain ⟨p,q,s,s2,cs,rs,cs2,rs2,cs',rfl,hp,hq,sh,bc,br,bc2,⟨rfl,lj,rfl⟩,z⟩:=h;have lc:=bc.1;have lr:=br.1;have lc2:=bc2.1;obtain ⟨dx,a,b,e1,e2,e3⟩:=hp.ob;obtain ⟨dx',a',b',f1,f2,f3⟩:=hq.ob;have nl:∀ {s:Int} {a b:Δ} {w h:Int} {m:Str},NoF m->(cfl s a b w h).lookup m=none:=fun x=>bM _ _ _ x;refine aJ (aO (PW.pt (jk (aW j3 (aE (pv 0) T.cl_aa T.m_ai (ok_ai T) (rmo hr) T.b_ai .nil ao) (aE (pv 1) T.cl_aa T.m_ai (ok_ai T) (rmo hr) T.b_ai .nil ao)) (gy (bX (aZ (aj (ok_aF T) (rmo hr) rfl T.mg_aF T.F_aF.kp T.b_aF .nil ao (aa (aB aR (aE (pv 0) T.cl_aa T.m_ac (ok_ac T) (rmo hr) T.b_ac .nil ao) (aE (pv 1) T.cl_aa T.m_ac (ok_ac T) (rmo hr) T.b_ac .nil ao)) ae))))))) (ai dF) aC) fun _ _=>aJ (aM 2 sc_an.nd (aj (ok_az T) (rmo hr) rfl T.mg_az T.F_az.kp T.b_az .nil ao (aa (aE (pv 0) T.cl_aa T.m_ae (ok_ae T) (rmo hr) T.b_ae .nil ao) (aa (aE (pv 0) T.cl_aa T.m_ac (ok_ac T) (rmo hr) T.b_ac .nil ao) ae)))) fun _ _=>aJ (df F5 rfl (AX rfl T.no_bk (aa (aE (pv 1) T.cl_aa T.m_ae (ok_ae T) (rmo hr) T.b_ae .nil ao) ae)) (fP (n:=2) K rfl rfl (bV (aK (i:=3) sc_an.nd rfl (GJ rfl)) (bV (aK (i:=4) sc_an.nd rfl (GJ rfl)) fQ))) (ai (aO (aW j3 (pv 4) (aD (aq K rfl) (pv 2) (pv 3))) (ai dF) aC))) fun _ _=>aJ (aM 5 sc_an.nd (aB bF (aB aR (eU (pv 0) T.cl_aa T.m_af (ok_af T) (rmo hr) T.b_af .nil ao (aa (aB cq (aE (pv 0) T.cl_aa T.m_ac (ok_ac T) (rmo hr) T.b_ac .nil ao) ag) (aa ag ae))) (aE (pv 1) T.cl_aa T.m_ad (ok_ad T) (rmo hr) T.b_ad .nil ao)) ag)) fun _ _=>cM (aA (fO T.mk_aa (ok_ak T) (rmo hr) rfl T.mg_aa T.b_ak .nil ao (aa (aE (pv 0) T.cl_aa T.m_ad (ok_ad T) (rmo hr) T.b_ad .nil ao) (aa (aB lE (aB lE (aE (pv 0) T.cl_aa T.m_ah (ok_ah T) (rmo hr) T.b_ah .nil ao) (bT (aa (pv 5) ae))) (aE (pv 1) T.cl_aa T.m_ah (ok_ah T) (rmo hr) T.b_ah .nil ao)) (aa (aE (pv 0) T.cl_aa T.m_ae (ok_ae T) (rmo hr) T.b_ae .nil ao) ae))))) fun _ _=>?_;apply au e1 (nl (by decide +kernel)) ?_;apply ⟨p,s,cs,rs,rfl,hp,?_⟩;apply au f1 (nl (by decide +kernel)) ?_;apply ⟨q,s2,cs2,_,rfl,hq,?_⟩;rw [uX];left;rw [aS rfl];apply au e1 (nl (by decide +kernel)) ?_;apply ⟨p,s,cs,rs,rfl,hp,?_⟩;apply au f1 (nl (by decide +kernel)) ?_;apply ⟨q,s2,cs2,_,rfl,hq,?_⟩;apply ⟨_,rfl,?_⟩
  have es:d8 ((cs.length:Int)+1+((cs2.length:Int)+1))=true:=by
   unfold d8;rw [aS (by omega),aS (by omega)]; rfl
  rw [es];apply au e1 (nl (by decide +kernel)) ?_;apply ⟨p,s,cs,rs,rfl,hp,fun l1 n1=>?_⟩;have s1:=ah.new (o:=HO.lst (rs.map V.int)) n1;apply au (s1 _ _ e1) (nl (by decide +kernel)) ?_;apply ⟨p,s,cs,rs,rfl,hp.mono s1,?_⟩;apply ⟨l1,_,rs,rfl,af,by omega,fun l2 H2 s2' n2 q2=>?_⟩;have s12:=s1.trans s2';clear s1 s2' n1 n2;apply au (s12 _ _ f1) (nl (by decide +kernel)) ?_;apply ⟨q,_,cs2,_,rfl,hq.mono s12,fun l3 n3=>?_⟩;have s3:=ah.new (o:=HO.lst ((shl rs ((cs.length:Int)+1)).map V.int)) n3;have q3:=af (H:=H2) (a:=l3) (o:=HO.lst ((shl rs ((cs.length:Int)+1)).map V.int));generalize upd H2 l3 (HO.lst ((shl rs ((cs.length:Int)+1)).map V.int))=H3 at s3 q3 ⊢;apply ⟨l3,rfl,⟨_,SqL.of q3⟩,?_⟩;have s13:=s12.trans s3;have q2:=s3 _ _ q2;refine vt (K:=K) (a:=l3) (xs:=(shl rs ((cs.length:Int)+1)).map V.int) (fun i σ' H'=>∃ (o3 o4:Option V),σ'=[some (.ref p),some (.ref q),some (.ref l2),o3,o4,none]/\ah H3 H')
   ⟨none,none,rfl,ah.refl _⟩ (fun i σ' H' _ ⟨_,_,_,s6⟩=>SqL.of (s6 _ _ q3)) ?_ ?_
  ·rintro i x σ' H4 t4 hx ⟨o3,o4,rfl,s4⟩ n4;have hi:i<(shl rs ((cs.length:Int)+1)).length:=by have:=(C_.mp hx).1; rwa [Θ] at this
   have ex:x=V.int ((shl rs ((cs.length:Int)+1)).getD i 0):=by
    rw [FE,Ω hi] at hx;rw [E2,Ω hi];exact (Fo hx).symm
   subst ex;have s5:=ah.new (o:=HO.tup [V.int (i:Nat),V.int ((shl rs ((cs.length:Int)+1)).getD i 0)]) n4;refine fT af rfl ?_;apply aG (SqL.of (s5 _ _ (s4 _ _ q2))) (aT (i:=(i:Nat)) (by omega) (by omega)) ?_;rw [F9];left;rw [aS rfl];left;exact ⟨_,_,rfl,s4.trans s5⟩
  ·rintro σ' H4 ⟨o3,o4,rfl,s4⟩;have s14:=s13.trans s4;clear s12 s13 s3 s4 q2 q3 n3;have hp4:=hp.mono s14;have hq4:=hq.mono s14;have e14:=s14 _ _ e1;have f14:=s14 _ _ f1;apply au e14 (nl (by decide +kernel)) ?_;apply au e14 (nl (by decide +kernel)) ?_;apply ⟨p,s,cs,rs,rfl,hp4,?_⟩;left;rw [show ((cs.length:Int)+1 - 1)=(cs.length:Nat) by omega];refine ⟨p,_,0,s,cs,rs,rfl,hp4,bc,br,by omega,by omega,by decide,by omega,fun H5 s5=>?_⟩;apply au (s5 _ _ f14) (nl (by decide +kernel)) ?_;apply ⟨q,s2,cs2,_,rfl,hq4.mono s5,?_⟩;apply bR (by decide) ?_;have hb:(bW s cs rs (cs.length:Nat) 0+s2)%2=0\/(bW s cs rs (cs.length:Nat) 0+s2)%2=1:=by omega
   generalize (bW s cs rs (cs.length:Nat) 0+s2)%2=bw at hb z ⊢;have s15:=s14.trans s5;clear s14 hp4 hq4 e14 f14 s5;apply au (s15 _ _ e1) (nl (by decide +kernel)) ?_;apply ⟨p,s,cs,rs,rfl,hp.mono s15,?_⟩;apply au (s15 _ _ e1) (nl (by decide +kernel)) ?_;apply ⟨p,s,cs,rs,rfl,hp.mono s15,fun l4 n4=>?_⟩;have t4:=ah.new (o:=HO.lst (cs.map V.int)) n4;have q4:=af (H:=H5) (a:=l4) (o:=HO.lst (cs.map V.int));generalize upd H5 l4 (HO.lst (cs.map V.int))=H6 at t4 q4 ⊢;apply ⟨by show 1<=E4; decide,fun l5 n5=>?_⟩;have t5:=ah.new (o:=HO.lst [V.int bw]) n5;have q5:=af (H:=H6) (a:=l5) (o:=HO.lst [V.int bw]);generalize upd H6 l5 (HO.lst [V.int bw])=H7 at t5 q5 ⊢;have small:∀ n:Nat,n<=100->n<=sizeLine:=fun n hn=>LV (cJ (by omega));refine lL (t5 _ _ q4) q5 (small _ (by rw [Θ]; show _+1<=100; omega)) fun l6 n6=>?_;have t6:=ah.new (o:=HO.lst (cs.map V.int++[V.int bw])) n6;have q6:=af (H:=H7) (a:=l6) (o:=HO.lst (cs.map V.int++[V.int bw]));generalize upd H7 l6 (HO.lst (cs.map V.int++[V.int bw]))=H8 at t6 q6 ⊢;have s18:=s15.trans (t4.trans (t5.trans t6));clear t4 t5 t6 q4 q5 n4 n5 n6 s15;apply au (s18 _ _ f1) (nl (by decide +kernel)) ?_;apply ⟨q,s2,cs2,_,rfl,hq.mono s18,fun l7 n7=>?_⟩;have t7:=ah.new (o:=HO.lst (cs2.map V.int)) n7;have q7:=af (H:=H8) (a:=l7) (o:=HO.lst (cs2.map V.int));generalize upd H8 l7 (HO.lst (cs2.map V.int))=H9 at t7 q7 ⊢;refine lL (t7 _ _ q6) q7 (small _ (by rw [BG,Θ,Θ]; show _+1+_<=100; omega)) fun l8 n8=>?_;rw [show cs.map V.int++[V.int bw]++cs2.map V.int=(cs++bw::cs2).map V.int by rw [GL,Fg,E9]; rfl];have t8:=ah.new (o:=HO.lst ((cs++bw::cs2).map V.int)) n8;have q8:=af (H:=H9) (a:=l8) (o:=HO.lst ((cs++bw::cs2).map V.int));generalize upd H9 l8 (HO.lst ((cs++bw::cs2).map V.int))=HA at t8 q8 ⊢;have s1A:=s18.trans (t7.trans t8);apply au (s1A _ _ e1) (nl (by decide +kernel)) ?_;apply ⟨p,s,cs,rs,rfl,hp.mono s1A,fun l9 n9=>?_⟩;have t9:=ah.new (o:=HO.lst (rs.map V.int)) n9;have q9:=af (H:=HA) (a:=l9) (o:=HO.lst (rs.map V.int));generalize upd HA l9 (HO.lst (rs.map V.int))=HB at t9 q9 ⊢;left;intro x dxx nx ndx nex;have sM:ah HB (upd (upd HB dxx (.own x)) x (.ins t.a_aa dxx [])):=(ah.new ndx).later nx;refine ⟨x,dxx,l8,l9,s,cs++bw::cs2,rs,rfl,af,sM _ _ (t9 _ _ q8),sM _ _ q9,sh,vh bc bc2 hb lj,br,fun HC kp hX=>⟨rfl,?_⟩⟩;exact z x HC (s1A.trans (t9.trans (gT (c:=0) (r:=0) nx ndx kp))) hX
def sp_am (C:Δ):Sp:=fun vs H Q _=>∃ (p q:Δ) (s s2:Int) (cs rs cs2 rs2 cs':List Int),vs=[.ref p,.ref q,.str "col"]/\aF C H p s cs rs/\aF C H q s2 cs2 rs2/\(s=0\/s=1)/\bC cs/\bC rs/\bC cs2/\xr s cs rs s2 cs2 rs2 cs' /\
 ∀ x H',ah H H'->aF C H' x s cs' rs->Q (.ref x) H'
theorem ok_am (T:Txt K mg t):aN P w K mg base CX0 10 t.f_am t.d_am ["one","other","way"] (sp_am t.a_aa):=by
 refine T.F_am.ok sc_am (by walk_at "l") (fun _ _ _ s H vs Q E hr h=>?_)
 ·obtain ⟨p,q,s,s2,cs,rs,cs2,rs2,cs',rfl,hp,hq,sh,bc,br,bc2,J,z⟩:=h;refine aJ (aO (aW b8 (pv 2) bh) (ai (aA (aj (ok_an T) (rmo hr) rfl T.mg_an T.F_an.kp T.b_an .nil ao (aa (pv 0) (aa (pv 1) ae))))) aC) fun _ _=>aJ (aO (aW b8 (pv 2) bh) (ai (aA (aj (ok_aj T) (rmo hr) rfl T.mg_aj T.F_aj.kp T.b_aj .nil ao (aa (aj (ok_an T) (rmo hr) rfl T.mg_an T.F_an.kp T.b_an .nil ao (aa (aj (ok_aj T) (rmo hr) rfl T.mg_aj T.F_aj.kp T.b_aj .nil ao (aa (pv 0) ae)) (aa (aj (ok_aj T) (rmo hr) rfl T.mg_aj T.F_aj.kp T.b_aj .nil ao (aa (pv 1) ae)) ae))) ae)))) aC) fun _ _=>cM dF fun _ _=>?_;left;rw [aS (rfl:("col":Str)="col")];left;exact ⟨p,q,s,s2,cs,_,cs2,rs2,cs',rfl,hp,hq,sh,bc,br,bc2,J,z⟩
def sp_aw (C:Δ):Sp:=fun vs H Q _=>∃ (p:Δ) (k:Nat) (s:Int) (cs rs:List Int),vs=[.ref p,.int k]/\aF C H p s cs rs/\(s=0\/s=1)/\bC cs/\bC rs/\k<cs.length /\
 ∀ tp x y H',ah H H'->H' tp=some (.tup [.ref x,.ref y])->aF C H' x s (cs.take k) rs->aF C H' y (bW s cs rs ((k+1:Nat):Int) 0) (cs.drop (k+1)) (shl rs ((k+1:Nat):Int))->Q (.ref tp) H'
theorem ok_aw (T:Txt K mg t):aN P w K mg base CX0 9 t.f_aw t.d_aw ["cloth","k"] (sp_aw t.a_aa):=by
 refine T.F_aw.ok sc_aw (by walk_at "l") (fun _ _ _ s H vs Q E hr h=>?_)
 ·obtain ⟨p,k,s,cs,rs,rfl,hc,sh,bc,br,hk,z⟩:=h;have lc:=bc.1;have lr:=br.1;obtain ⟨dx,a,b,e1,e2,e3⟩:=hc.ob;have nl:∀ {w h:Int} {m:Str},NoF m->(cfl s a b w h).lookup m=none:=fun x=>bM _ _ _ x;refine aJ (aM 2 sc_aw.nd (aB aR (pv 1) ag)) fun _ _=>aJ (aM 3 sc_aw.nd (fO T.mk_aa (ok_ak T) (rmo hr) rfl T.mg_aa T.b_ak .nil ao (aa (aE (pv 0) T.cl_aa T.m_ad (ok_ad T) (rmo hr) T.b_ad .nil ao) (aa (b9 (cC K rfl) (aE (pv 0) T.cl_aa T.m_ah (ok_ah T) (rmo hr) T.b_ah .nil ao) de (bE (pv 1))) (aa (aE (pv 0) T.cl_aa T.m_ae (ok_ae T) (rmo hr) T.b_ae .nil ao) ae))))) fun _ _=>aJ (aM 4 sc_aw.nd (fO T.mk_aa (ok_ak T) (rmo hr) rfl T.mg_aa T.b_ak .nil ao (aa (eU (pv 0) T.cl_aa T.m_af (ok_af T) (rmo hr) T.b_af .nil ao (aa (pv 2) (aa ag ae))) (aa (b9 (cC K rfl) (aE (pv 0) T.cl_aa T.m_ah (ok_ah T) (rmo hr) T.b_ah .nil ao) (bE (pv 2)) de) (aa (aj (ok_az T) (rmo hr) rfl T.mg_az T.F_az.kp T.b_az .nil ao (aa (aE (pv 0) T.cl_aa T.m_ae (ok_ae T) (rmo hr) T.b_ae .nil ao) (aa (pv 2) ae))) ae))))) fun _ _=>cM (aA (bJ (aa (pv 3) (aa (pv 4) ae)))) fun _ _=>?_;left;rw [show ((k:Int)+1)=((k+1:Nat):Int) by omega];refine au e1 (nl (by decide +kernel)) ?_;apply ⟨p,s,cs,rs,rfl,hc,?_⟩;apply au e1 (nl (by decide +kernel)) ?_;apply ⟨p,s,cs,rs,rfl,hc,fun l1 n1=>?_⟩;have s1:=ah.new (o:=HO.lst (cs.map V.int)) n1;apply fc af fun l2 n2=>?_;rw [jy (by omega:(0:Int)<=(k:Int)),F9];have s2:=ah.new (o:=HO.lst ((cs.take k).map V.int)) n2;have s12:=s1.trans s2;have q2:=af (H:=upd H l1 (HO.lst (cs.map V.int))) (a:=l2) (o:=HO.lst ((cs.take k).map V.int));generalize upd (upd H l1 (HO.lst (cs.map V.int))) l2 (HO.lst ((cs.take k).map V.int))=H2 at s12 q2 ⊢;apply au (s12 _ _ e1) (nl (by decide +kernel)) ?_;apply ⟨p,s,cs,rs,rfl,hc.mono s12,fun l3 n3=>?_⟩;have s3:=ah.new (o:=HO.lst (rs.map V.int)) n3;left;intro x dxx nx ndx nex;have sM:ah (upd H2 l3 (HO.lst (rs.map V.int))) (upd (upd (upd H2 l3 (HO.lst (rs.map V.int))) dxx (.own x)) x (.ins t.a_aa dxx [])):=(ah.new ndx).later nx;refine ⟨x,dxx,l2,l3,s,cs.take k,rs,rfl,af,sM _ _ (s3 _ _ q2),sM _ _ af,sh,m9 bc k,br,fun H4 kp hX=>⟨rfl,?_⟩⟩;have s4:ah H H4:=s12.trans (s3.trans (gT (c:=0) (r:=0) nx ndx kp));have hc4:=hc.mono s4;clear s1 s2 s12 s3 sM q2 kp nx ndx n1 n2 n3;left;have e14:=s4 _ _ e1;refine au e14 (nl (by decide +kernel)) ?_;apply ⟨p,_,0,s,cs,rs,rfl,hc4,bc,br,by omega,by omega,by decide,by omega,fun H5 s5=>?_⟩;left;have s45:=s4.trans s5;refine au (s5 _ _ e14) (nl (by decide +kernel)) ?_;apply ⟨p,s,cs,rs,rfl,hc4.mono s5,fun l5 n5=>?_⟩;have s6:=ah.new (o:=HO.lst (cs.map V.int)) n5;apply fc af fun l6 n6=>?_;rw [fo];have s7:=ah.new (o:=HO.lst ((cs.drop (k+1)).map V.int)) n6;have s67:=s6.trans s7;have q6:=af (H:=upd H5 l5 (HO.lst (cs.map V.int))) (a:=l6) (o:=HO.lst ((cs.drop (k+1)).map V.int));generalize upd (upd H5 l5 (HO.lst (cs.map V.int))) l6 (HO.lst ((cs.drop (k+1)).map V.int))=H7 at s67 q6 ⊢;apply au (s67 _ _ (s5 _ _ e14)) (nl (by decide +kernel)) ?_;apply ⟨p,s,cs,rs,rfl,(hc4.mono s5).mono s67,fun l8 n8=>?_⟩;have s8:=ah.new (o:=HO.lst (rs.map V.int)) n8;apply ⟨l8,_,rs,rfl,af,by omega,fun l9 H9 s9 n9 q9=>?_⟩;left;intro y dy ny ndy ney;have sN:ah H9 (upd (upd H9 dy (.own y)) y (.ins t.a_aa dy [])):=(ah.new ndy).later ny;refine ⟨y,dy,l6,l9,_,cs.drop (k+1),shl rs ((k+1:Nat):Int),rfl,af,sN _ _ (s9 _ _ (s8 _ _ q6)),sN _ _ q9,gh _ _ _ _ _,m8 bc (k+1),gO br _,fun HA kp hY=>⟨rfl,?_⟩⟩;have sA:ah H4 HA:=s5.trans (s67.trans (s8.trans (s9.trans (gT (c:=0) (r:=0) ny ndy kp))));apply ⟨by show 2<=E4; decide,fun tp ntp=>?_⟩;have sB:=ah.new (o:=HO.tup [V.ref x,V.ref y]) ntp;exact z tp x y _ (s4.trans (sA.trans sB)) af (hX.mono (sA.trans sB)) (hY.mono sB)
theorem vn {s:Int} {cs rs:List Int} {k:Nat} {x:Nat} {y:Int} (h:x<=k):bW s (cs.take k) rs x y=bW s cs rs x y:=by
 unfold bW;rw [F9,MD,G2 h]
theorem sP {s:Int} {cs rs:List Int} {k:Nat} (bc:bC cs) (hk:k<cs.length):xr s (cs.take k) rs (bW s cs rs ((k+1:Nat):Int) 0) (cs.drop (k+1)) (shl rs ((k+1:Nat):Int)) cs:=by
 have hb:=Cs bc hk;have lt:(cs.take k).length=k:=by rw [Fl]; omega
 have e:(bW s (cs.take k) rs (k:Nat) 0+bW s cs rs ((k+1:Nat):Int) 0)%2=cs.getD k 0:=by
  rw [vn (BE k)];unfold bW;rw [F9,F9,show (0:Int).toNat=0 from rfl,IG,List.sum_nil,Int.mul_zero,Int.mul_zero,fj cs hk];generalize (cs.take k).sum=a;rcases hb with h | h<;>rw [h]<;>omega
 refine ⟨?_,?_,?_⟩
 ·rw [lt,show ((k+1:Nat):Int)=(k:Int)+1 by omega]
 ·have:=bc.1
  rw [lt,Fw]; omega
 ·rw [lt,e,E2,Ω hk,JP,<- F8 hk,GI]
def sp_aZ (C:Δ):Sp:=fun vs H Q _=>∃ (p:Δ) (k:Nat) (s:Int) (cs rs:List Int),vs=[.ref p,.str "col",.int k]/\aF C H p s cs rs/\(s=0\/s=1)/\bC cs/\bC rs/\k<cs.length /\
 ∀ tp x y H',ah H H'->H' tp=some (.tup [.ref x,.ref y])->aF C H' x s (cs.take k) rs->aF C H' y (bW s cs rs ((k+1:Nat):Int) 0) (cs.drop (k+1)) (shl rs ((k+1:Nat):Int))->Q (.ref tp) H'
theorem ok_aZ (T:Txt K mg t):aN P w K mg base CX0 10 t.f_aZ t.d_aZ ["cloth","way","k"] (sp_aZ t.a_aa):=by
 refine T.F_aZ.ok sc_aZ (by walk_at "l") (fun _ _ _ s H vs Q E hr h=>?_)
 ·obtain ⟨p,k,s,cs,rs,rfl,hc,sh,bc,br,hk,z⟩:=h;obtain ⟨dx,a,b,e1,e2,e3⟩:=hc.ob;refine aJ (bg (eU (pv 0) T.cl_aa T.m_ap (ok_ap T) (rmo hr) T.b_ap .nil ao (aa (pv 1) (aa (pv 2) ae)))) fun _ _=>aJ (aO (aW b8 (pv 1) bh) (ai (aA (aj (ok_aw T) (rmo hr) rfl T.mg_aw T.F_aw.kp T.b_aw .nil ao (aa (pv 0) (aa (pv 2) ae))))) aC) fun _ _=>aJ (aM 3 sc_aZ.nd (aj (ok_aw T) (rmo hr) rfl T.mg_aw T.F_aw.kp T.b_aw .nil ao (aa (aj (ok_aj T) (rmo hr) rfl T.mg_aj T.F_aj.kp T.b_aj .nil ao (aa (pv 0) ae)) (aa (pv 2) ae)))) fun _ _=>cM (aA (bJ (aa (aj (ok_aj T) (rmo hr) rfl T.mg_aj T.F_aj.kp T.b_aj .nil ao (aa (aD (aq K rfl) (pv 3) ag) ae)) (aa (aj (ok_aj T) (rmo hr) rfl T.mg_aj T.F_aj.kp T.b_aj .nil ao (aa (aD (aq K rfl) (pv 3) ag) ae)) ae)))) fun _ _=>?_;apply au e1 (bM _ _ _ (by decide +kernel)) ?_;apply ⟨p,"col",_,s,cs,rs,cs,rfl,hc,.inl ⟨rfl,rfl⟩,by omega,by omega,?_⟩;left;rw [aS (rfl:("col":Str)="col")];left;exact ⟨p,k,s,_,rs,rfl,hc,sh,bc,br,hk,z⟩
theorem xX {c:Nat} (h:c=48\/c=49):L0 (sgn c)=some ((c:Int) - 48):=by
 rcases h with rfl | rfl
 ·decide +kernel
 ·decide +kernel
def B01 (l:List Int):Prop:=∀ z∈l,z=0\/z=1
noncomputable def dgs (bs:List Int):List Nat:=bs.map fun b=>b.toNat+48
noncomputable def wd (bs:List Int):Str:=if bs=[] then "-" else ⟨(dgs bs).toArray⟩
noncomputable def sh (s:Int):Str:=sgn (s.toNat+48)
noncomputable def txt (s:Int) (cs rs:List Int):Str:=KJ " " [sh s,wd cs,wd rs]
theorem p5 {s:Int} (h:s=0\/s=1):((toString s:String):Str)=sh s/\s.natAbs.log2<1920:=by
 rcases h with rfl | rfl<;>decide +kernel
theorem vF {bs:List Int} (h:B01 bs):Txt.join "" (bs.map fun b=>((toString b:String):Str))=⟨(dgs bs).toArray⟩:=by
 have e:(bs.map fun b=>((toString b:String):Str))=(dgs bs).map sgn:=by
  unfold dgs;rw [GF];exact Ge fun b hb=>(p5 (h b hb)).1
 rw [e];exact BH (by rw [x9])
theorem qw {bs:List Int} (h:B01 bs) (hl:bs.length<=1000):JoinOk "" (bs.map fun b=>((toString b:String):Str))=true:=by
 have e:(bs.map fun b=>((toString b:String):Str))=(dgs bs).map sgn:=by
  unfold dgs;rw [GF];exact Ge fun b hb=>(p5 (h b hb)).1
 rw [e];exact sv (by unfold dgs; rw [Θ]; exact hl)
theorem jT {bs:List Int} (n:Nat) (hl:bs.length<=n) (h1:1<=n):(wd bs).length<=n:=by
 unfold wd
 split
 ·exact h1
 ·show (dgs bs).toArray.size<=n
  unfold dgs;rw [E8,Θ]; exact hl
def sp_aB:Sp:=fun vs H Q _=>∃ (l:Δ) (bs:List Int),vs=[.ref l]/\H l=some (.lst (bs.map V.int))/\B01 bs/\bs.length<=100/\∀ H',ah H H'->Q (.str (wd bs)) H'
theorem ok_aB (T:Txt K mg t):aN P w K mg base CX0 1 t.f_aB t.d_aB ["bits"] sp_aB:=by
 refine T.F_aB.ok sc_aB (by walk_at "l") (fun _ _ _ s H vs Q E hr h=>?_)
 ·obtain ⟨l,bs,rfl,el,b01,hl,k⟩:=h;refine ⟨_,(aQ (aO (aW b8 (aw (aU K rfl) rfl T.no_len (by rfl) (aa (pv 0) ae)) ag) (ai (aA bh)) aC) (ai (aA (cL MO PySem.F.slot_str_join PySem.F.type_str_join AL bh (aa (bP (N:=["bit"]) (cap:=[none]) rfl ⟨rfl,rfl,rfl,rfl,rfl,rfl⟩ (bQ (pv 0)) (fun _ _ _=>(aK (i:=0) (show (["bit"]:List Str).Nodup by decide +kernel) rfl (GJ rfl))) (fun _ _ _=>cw) (fun _ _ _=>(cF nY rfl T.no_str (by rfl) (aa (pv 0) ae)))) ae))))),?_⟩;apply aV el ?_;rw [Θ];left
  cases bs with
  | nil =>
   rw [aS (show (((([]:List Int).length:Nat):Int))=0 from rfl)];left;exact k _ (ah.refl _)
  | cons b bs =>
   rw [bA (show ¬ ((((b::bs).length:Nat):Int))=0 by rw [EX]; omega)];apply ⟨rfl,?_⟩;apply ⟨⟨_,SqL.of el⟩,fun l1 n1=>?_⟩;refine iA (fun v=>match v with | .int i=>.str ((toString i:String):Str) | _=>.non) (SqL.of el) (by rw [Θ]; omega) n1 (fun x o H' Q' hx s1 q=>?_) (fun H1 s1 e1=>?_)
   ·obtain ⟨i,hi,rfl⟩:=F1.mp hx;left;exact ⟨i,rfl,(p5 (b01 i hi)).2,q H' (ah.refl _)⟩
   ·left;have e1:H1 l1=some (.lst (((b::bs).map fun b=>((toString b:String):Str)).map V.str)):=by rw [e1,GF,GF]; rfl
    refine ⟨"",l1,_,rfl,rfl,e1,qw b01 (by omega),?_⟩;rw [vF b01];have:=k _ s1
    unfold wd at this;rw [if_neg (by simp)] at this;exact this
def sp_au (C:Δ):Sp:=fun vs H Q _=>∃ (p:Δ) (s:Int) (cs rs:List Int),vs=[.ref p]/\aF C H p s cs rs/\(s=0\/s=1)/\bC cs/\bC rs/\∀ H',ah H H'->Q (.str (txt s cs rs)) H'
theorem ok_au (T:Txt K mg t):aN P w K mg base CX0 2 t.f_au t.d_au ["cloth"] (sp_au t.a_aa):=by
 refine T.F_au.ok sc_au (by walk_at "l") (fun _ _ _ s H vs Q E hr h=>?_)
 ·obtain ⟨p,s,cs,rs,rfl,hC,hs,bc,br,k⟩:=h;obtain ⟨dx,a,b,h1,h2,h3⟩:=id hC.ob;have lc:=bc.1;have lr:=br.1;refine aJ (aM 1 sc_au.nd (aE (pv 0) T.cl_aa T.m_ad (ok_ad T) (rmo hr) T.b_ad .nil ao)) fun _ _=>aJ (aM 2 sc_au.nd (aj (ok_aB T) (rmo hr) rfl T.mg_aB T.F_aB.kp T.b_aB .nil ao (aa (aE (pv 0) T.cl_aa T.m_ah (ok_ah T) (rmo hr) T.b_ah .nil ao) ae))) fun _ _=>aJ (aM 3 sc_au.nd (aj (ok_aB T) (rmo hr) rfl T.mg_aB T.F_aB.kp T.b_aB .nil ao (aa (aE (pv 0) T.cl_aa T.m_ae (ok_ae T) (rmo hr) T.b_ae .nil ao) ae))) fun _ _=>cM (aA (yJ (PEs.cons (oP (pv 1)) (PEs.cons bh (PEs.cons (oP (pv 2)) (PEs.cons bh (PEs.cons (oP (pv 3)) PEs.nil))))) (by decide))) fun _ _=>?_;apply au h1 (bM _ _ _ (by decide +kernel)) ?_;apply ⟨p,s,cs,rs,rfl,hC,?_⟩;apply au h1 (bM _ _ _ (by decide +kernel)) ?_;apply ⟨p,s,cs,rs,rfl,hC,fun l1 n1=>?_⟩;have s1:=ah.new (o:=HO.lst (cs.map V.int)) n1;have e1:=af (H:=H) (a:=l1) (o:=HO.lst (cs.map V.int));generalize upd H l1 (HO.lst (cs.map V.int))=H1 at s1 e1 ⊢;apply ⟨l1,cs,rfl,e1,bc.2,by omega,fun H2 s2=>?_⟩;have s12:=s1.trans s2;apply au (s12 _ _ h1) (bM _ _ _ (by decide +kernel)) ?_;apply ⟨p,s,cs,rs,rfl,hC.mono s12,fun l2 n2=>?_⟩;have s3:=ah.new (o:=HO.lst (rs.map V.int)) n2;have e3:=af (H:=H2) (a:=l2) (o:=HO.lst (rs.map V.int));generalize upd H2 l2 (HO.lst (rs.map V.int))=H3 at s3 e3 ⊢;apply ⟨l2,rs,rfl,e3,br.2,by omega,fun H4 s4=>?_⟩;left;have w1:=jT (bs:=cs) 100 (by omega) (by decide);have w2:=jT (bs:=rs) 100 (by omega) (by decide);have big:(100:Nat)<=sizeLine:=by decide
  refine zi ?_;unfold mR;refine oU ?_;apply .inl ⟨s.toNat,by rcases hs with rfl | rfl<;>rfl,by rcases hs with rfl | rfl<;>decide,?_⟩;refine ⟨_,rfl,by rcases hs with rfl | rfl<;>decide +kernel,?_⟩;rw [show ((toString ((s.toNat:Nat):Int):String):Str)=sh s by rcases hs with rfl | rfl<;>decide +kernel];unfold mR;apply ⟨_,rfl,by decide +kernel,?_⟩;unfold mR;refine oU ?_;apply .inr ⟨_,rfl,Fe w1 big,_,rfl,w1,?_⟩;unfold mR;apply ⟨_,rfl,by decide +kernel,?_⟩;unfold mR;refine oU ?_;apply .inr ⟨_,rfl,Fe w2 big,_,rfl,w2,?_⟩;unfold mR
  have e:KL++sh s++" "++wd cs++" "++wd rs=txt s cs rs:=by
   refine BH ?_
   show _=(sh s++" "++(wd cs++" "++wd rs)).cps.toList
   simp only [xF,E9];rfl
  rw [e];exact k _ ((s12.trans s3).trans s4)
theorem uD {bs:List Int}:32∉(wd bs).cps.toList:=by
 unfold wd
 split
 ·decide +kernel
 ·rw [K1];unfold dgs;intro h;obtain ⟨b,_,e⟩:=F1.mp h;omega
theorem AN {s:Int}:32∉(sh s).cps.toList:=by
 unfold sh sgn;simp
theorem xW {a:Str} (h:a="0"\/a="1"):L0 a=some (if a="0" then 0 else 1)/\a.length<=640:=by
 rcases h with rfl | rfl
 ·decide +kernel
 ·decide +kernel
theorem mq {bs:List Int} (h:bs≠[]):(wd bs).cps.toList=dgs bs:=by
 unfold wd;rw [if_neg h,K1]
theorem sj {bs:List Int} (h:B01 bs) {c:Nat} (hc:c∈dgs bs):c=48\/c=49:=by
 unfold dgs at hc;obtain ⟨z,hz,rfl⟩:=F1.mp hc;rcases h z hz with rfl | rfl
 ·exact .inl rfl
 ·exact .inr rfl
theorem xK {bs:List Int} (h:B01 bs):(dgs bs).map (fun (c:Nat)=>(c:Int) - 48)=bs:=by
 unfold dgs;rw [GF];exact (Ge fun z hz=>by
  show ((z.toNat+48:Nat):Int) - 48=z
  rcases h z hz with rfl | rfl<;>rfl).trans (List.map_id _)
theorem BM {bs:List Int} (h:bs≠[]) (hb:B01 bs):¬ wd bs="-":=fun z=>by
 have:=congrArg (fun x:Str=>x.cps.toList) z
 rw [mq h,show ("-":Str).cps.toList=[45] by decide +kernel] at this;have h1:=sj hb (c:=45) (by rw [this]; exact θ);omega
theorem BJ {s:Int} {cs rs:List Int} (lc:cs.length<=100) (lr:rs.length<=100):(txt s cs rs).length<=5000:=by
 have h1:=jT 100 lc (by decide);have h2:=jT 100 lr (by decide)
 show (((sh s).cps++(" ":Str).cps)++(((wd cs).cps++(" ":Str).cps)++(wd rs).cps)).size<=5000
 have h3:(wd cs).cps.size<=100:=h1;have h4:(wd rs).cps.size<=100:=h2;have h5:(" ":Str).cps.size=1:=by decide +kernel
 have h6:(sh s).cps.size=1:=rfl;rw [Jy,Jy,Jy,Jy];omega
def sp_aH:Sp:=fun vs H Q _=>∃ bs:List Int,vs=[.str (wd bs),.str "01"]/\bs≠[]/\B01 bs/\bs.length<=100/\∀ H',ah H H'->Q (.bl true) H'
theorem ok_aH (T:Txt K mg t):aN P w K mg base CX0 1 t.f_aH t.d_aH ["word","signs"] sp_aH:=by
 refine T.F_aH.ok sc_aH (by walk_at "l") (fun _ _ _ s H vs Q E hr h=>?_)
 ·obtain ⟨bs,rfl,ne,hb,lb,k⟩:=h;have hl:=jT 100 lb (by decide);have el:(wd bs).length=(dgs bs).length:=by rw [<- mq ne]; exact FT.symm
  have e0:0<(dgs bs).length:=by unfold dgs; rw [Θ]; exact Jl.mpr ne
  refine ⟨_,(ai (aA (gr (gu uF (aw Au rfl T.no_len (by rfl) (aa (pv 0) ae)) ag) (iE (aw (kA K rfl rfl) rfl T.no_all (by rfl) (aa (bP (N:=["sign","signs"]) (cap:=[none,some 1]) rfl ⟨rfl,rfl,rfl,rfl,rfl,rfl⟩ (uK (pv 0)) (fun _ _ _=>(aK (i:=0) (show (["sign","signs"]:List Str).Nodup by decide +kernel) rfl (GJ rfl))) (fun _ _ _=>cw) (fun _ _ _=>(uH vW (pv 0) (pv 1) rfl))) ae)))))),?_⟩;apply Bj (Fe hl (by decide)) ?_;left;rw [aS (show (((wd bs).length:Nat):Int) > 0 by omega)];apply rg ?_;apply ⟨wd bs,rfl,fun l nl=>?_⟩;refine jV (((dgs bs).map fun _=>true).map V.bl) (by rw [Θ,Θ]; exact el.symm) (Fe hl (by decide)) nl (fun i c v o H' Q' hc hy s5 q=>?_) (fun H1 s1 e1=>?_)
  ·have hc':(dgs bs)[i]?=some c:=by rw [<- mq ne,GC]; exact hc
   rw [FE,FE,hc'] at hy
   cases hy;apply ⟨_,_,rfl,rfl,?_⟩;rw [AG,show ("01":Str).cps.toList=[48,49] by decide +kernel,aS (by have:=sj hb (FN hc'); simp only [BF,FJ,or_false]; exact this)];exact q H' (ah.refl _)
  ·apply lK e1 ?_;rw [show ((dgs bs).map fun _=>true).all id=true by rw [List.all_map]; exact Ht.mpr fun _ _=>rfl];exact k _ s1
def sp_aC:Sp:=fun vs H Q _=>∃ bs:List Int,vs=[.str (wd bs)]/\B01 bs/\bs.length<=100/\∀ l H',ah H H'->H' l=some (.lst (bs.map V.int))->Q (.ref l) H'
theorem ok_aC (T:Txt K mg t):aN P w K mg base CX0 2 t.f_aC t.d_aC ["word"] sp_aC:=by
 refine T.F_aC.ok sc_aC (by walk_at "l") (fun _ _ _ s H vs Q E hr h=>?_)
 ·obtain ⟨bs,rfl,hb,lb,k⟩:=h;refine aJ (aO (aW b8 (pv 0) bh) (ai (aA (bT ae))) aC) fun _ _=>aJ (aO (bX (aZ (aj (ok_aH T) (rmo hr) rfl T.mg_aH T.F_aH.kp T.b_aH .nil ao (aa (pv 0) (aa bh ae))))) (ai dF) aC) fun _ _=>cM (aA (bP (N:=["sign"]) (cap:=[none]) rfl ⟨rfl,rfl,rfl,rfl,rfl,rfl⟩ (uK (pv 0)) (fun _ _ _=>(aK (i:=0) (show (["sign"]:List Str).Nodup by decide +kernel) rfl (GJ rfl))) (fun _ _ _=>cw) (fun _ _ _=>(cF uh rfl T.no_int (by rfl) (aa (pv 0) ae))))) fun _ _=>?_;left;by_cases ne:bs=[]
  ·subst ne;rw [aS (show wd []="-" from rfl)];apply nwL fun l H1 sl nl el=>?_;exact k l H1 sl el
  ·rw [bA (BM ne hb)];apply ⟨bs,rfl,ne,hb,lb,fun H1 s1=>?_⟩;apply rg ?_;left;have hl:=jT 100 lb (by decide);have el:(wd bs).length=(dgs bs).length:=by rw [<- mq ne]; exact FT.symm
   refine ⟨wd bs,rfl,fun l nl=>?_⟩;refine jV (((dgs bs).map fun (c:Nat)=>(c:Int) - 48).map V.int) (by rw [Θ,Θ]; exact el.symm) (Fe hl (by decide)) nl (fun i c v o H' Q' hc hy s5 q=>?_) (fun H2 s2 e2=>?_)
   ·have hc':(dgs bs)[i]?=some c:=by rw [<- mq ne,GC]; exact hc
    rw [FE,FE,hc'] at hy
    cases hy;apply ⟨_,_,rfl,xX (sj hb (FN hc')),by show 1<=640; decide,?_⟩;exact q H' (ah.refl _)
   ·left;rw [xK hb] at e2;exact k l H2 (s1.trans s2) e2
def sp_ar (C:Δ):Sp:=fun vs H Q _=>∃ (s:Int) (cs rs:List Int),vs=[.str (txt s cs rs)]/\(s=0\/s=1)/\bC cs/\bC rs/\∀ p H',ah H H'->aF C H' p s cs rs->Q (.ref p) H'
theorem ok_ar (T:Txt K mg t):aN P w K mg base CX0 8 t.f_ar t.d_ar ["text"] (sp_ar t.a_aa):=by
 refine T.F_ar.ok sc_ar (by walk_at "l") (fun _ _ _ s H vs Q E hr h=>?_)
 ·obtain ⟨s,cs,rs,rfl,hs,bc,br,k⟩:=h;have lc:=bc.1;have lr:=br.1;have hq:Txt.split (txt s cs rs) " "=[sh s,wd cs,wd rs]:=tU (c:=32) (by simp) fun a ha=>by
   symm at ha;rcases ha with rfl | rfl | rfl
   ·exact AN
   ·exact uD
   ·exact uD
  have hs2:(sh s="0"\/sh s="1")/\(if sh s="0" then (0:Int) else 1)=s/\K6 (sh s)=true:=by
   rcases hs with rfl | rfl
   ·exact ⟨.inl rfl,rfl,by decide +kernel⟩
   ·exact ⟨.inr rfl,by decide +kernel,by decide +kernel⟩
  refine aJ (aM 1 sc_ar.nd (cL MO PySem.F.slot_str_split PySem.F.type_str_split yj (pv 0) (aa bh ae))) fun _ _=>aJ (aO (PW.pt (jk (aW j3 (aw (aU K rfl) rfl T.no_len (by rfl) (aa (pv 1) ae)) ag) (gy (uN (AV hr.units) (aD (aq K rfl) (pv 1) ag) (bJ (aa bh (aa bh ae))) rfl)))) (ai dF) aC) fun _ _=>aJ (aM 2 sc_ar.nd (cF uh rfl T.no_int (by rfl) (aa (aD (aq K rfl) (pv 1) ag) ae))) fun _ _=>aJ (aM 3 sc_ar.nd (aj (ok_aC T) (rmo hr) rfl T.mg_aC T.F_aC.kp T.b_aC .nil ao (aa (aD (aq K rfl) (pv 1) ag) ae))) fun _ _=>aJ (aM 4 sc_ar.nd (aj (ok_aC T) (rmo hr) rfl T.mg_aC T.F_aC.kp T.b_aC .nil ao (aa (aD (aq K rfl) (pv 1) ag) ae))) fun _ _=>cM (C3 (i:=5) sc_ar.nd rfl rfl rfl T.mg_be (fun _ _=>(ai (aA (yL T.mk_aa (okx_ak T) (rmo hr) rfl T.mg_aa T.b_ak .nil DY (aa (pv 2) (aa (pv 3) (aa (pv 4) ae))))))) (fun _=>v8)) fun _ _=>?_;apply ⟨rfl,?_⟩;apply ⟨_," ",rfl,rfl,by decide +kernel,BJ (by omega) (by omega),fun l1 n1=>?_⟩;rw [hq];have s1:=ah.new (o:=HO.lst ([sh s,wd cs,wd rs].map V.str)) n1;have e1:=af (H:=H) (a:=l1) (o:=HO.lst ([sh s,wd cs,wd rs].map V.str));generalize upd H l1 (HO.lst ([sh s,wd cs,wd rs].map V.str))=H1 at s1 e1 ⊢;apply aV e1 ?_;left;rw [aS (show (((([sh s,wd cs,wd rs].map V.str).length:Nat)):Int)=3 from rfl)];apply aG (SqL.of e1) (v:=.str (sh s)) rfl ?_;apply nwT fun tp H2 stp ntp etp=>?_;apply zq etp (by decide +kernel) (by decide +kernel) hs2.2.2 ?_;rw [show (!(decide ("0"=sh s)||decide ("1"=sh s)))=false by rcases hs2.1 with h | h<;>rw [h]<;>decide +kernel];left;have e2:=stp _ _ e1;refine aG (SqL.of e2) (v:=.str (sh s)) rfl ?_;apply ⟨sh s,_,rfl,(xW hs2.1).1,(xW hs2.1).2,?_⟩;rw [hs2.2.1];apply aG (SqL.of e2) (v:=.str (wd cs)) rfl ?_;apply ⟨cs,rfl,bc.2,by omega,fun l3 H3 s3 e3=>?_⟩;apply aG (SqL.of (s3 _ _ e2)) (v:=.str (wd rs)) rfl ?_;apply ⟨rs,rfl,br.2,by omega,fun l4 H4 s4 e4=>?_⟩;left;intro p dx np ndx nex;have sM:ah H4 (upd (upd H4 dx (.own p)) p (.ins t.a_aa dx [])):=(ah.new ndx).later np;refine ⟨p,dx,l3,l4,s,cs,rs,rfl,af,sM _ _ (s4 _ _ e3),sM _ _ e4,by omega,by omega,.inr (.inr ⟨⟨bc.1,br.1⟩,bC.ok hs bc br,fun H5 kp hC=>⟨rfl,?_⟩⟩)⟩;exact k p H5 (s1.trans (stp.trans (s3.trans (s4.trans (gT (c:=0) (r:=0) np ndx kp))))) hC
end
section
variable {K:W.Frag} {σ:L2.St} {H:Hp} {Q:VK} {te:TE} {tt:TT} {cap:List (Option Nat)} {l a:Δ} {xs:List V}
theorem iX (F:V->V) (p:V->Bool) (hs:SqL K H a xs) (hz:xs.length<=5000) (hl:H l=none) (hp:∀ v∈xs,∃ b u1 u2,v=.ref b/\H b=some (.tup [u1,u2]))
  (test:∀ b u1 u2 o1 o2 H' (Q':Bool->Hp->Prop),V.ref b∈xs->H b=some (.tup [u1,u2])->ah H H'->Q' (p (.ref b)) H'->tt (((((dr (none::none::cap) σ).set 0 o1).set 1 o2).set 0 (some u1)).set 1 (some u2)) H' Q')
  (step:∀ b u1 u2 o1 o2 H' (Q':VK),V.ref b∈xs->H b=some (.tup [u1,u2])->ah H H'->Q' (F (.ref b)) H'->te (((((dr (none::none::cap) σ).set 0 o1).set 1 o2).set 0 (some u1)).set 1 (some u2)) H' Q')
  (fin:∀ H',ah H H'->H' l=some (.lst ((xs.filter p).map F))->Q (.ref l) H'):f6 (Itl K a) (sq K 2 (ij (cX 0) (ij (cX 1) vy))) tt te (none::none::cap) l σ H Q:=by
 refine ⟨xs.length,fun i ys σ' H'=>ys=((xs.take i).filter p).map F/\(∃ o1 o2,σ'=((dr (none::none::cap) σ).set 0 o1).set 1 o2)/\ah H H'/\H' l=some (.lst ys),⟨rfl,⟨none,none,rfl⟩,ah.new hl,af⟩,?_,?_⟩
 ·rintro i ys σ' H' hi ⟨rfl,⟨o1,o2,rfl⟩,s,e⟩;refine ⟨⟨xs,xs[i],s.seq hs,by simp [hi]⟩,fun x H2 y=>?_⟩;obtain ⟨e2,y⟩:=y;subst e2;have hx:=y xs (s.seq hs);have hm:=FN hx
  have tk:((xs.take (i+1)).filter p).map F=((xs.take i).filter p).map F++(if p x=true then [F x] else []):=by
   rw [HX,hx,K9,GL]
   congr 1
   cases hp:p x<;>simp [hp]
  obtain ⟨b,u1,u2,rfl,hb⟩:=hp x hm;refine fT (s _ _ hb) rfl ?_;refine dg (b0 (dg (b0 (jl ?_))));refine test b u1 u2 o1 o2 H2 _ hm hb s ?_;by_cases hp:p (.ref b)=true
  ·rw [if_pos hp];rw [if_pos hp] at tk;refine step b u1 u2 o1 o2 H2 _ hm hb s ⟨e,?_,tk.symm,⟨some u1,some u2,rfl⟩,s.later hl,af⟩;have:(((xs.take i).filter p).map F).length<=xs.length:=by
    rw [Θ];exact Fe (JS _ _) (by rw [Fl]; omega)
   exact Fz (Fe this hz) (by decide)
  ·rw [if_neg hp];rw [if_neg hp,FH] at tk;exact ⟨tk.symm,⟨some u1,some u2,rfl⟩,s,e⟩
 ·rintro ys σ' H' ⟨rfl,_,s,e⟩;rw [FG (BE _)] at e;exact ⟨⟨xs,s.seq hs,BE _⟩,fin H' s e⟩
end
section
theorem CQ {S:Gm->Prop} (q:Int×Int):OkS (OkS S) (Ts.ptD q):=.inr (.inr ⟨_,rfl,by show 2<=5000; omega,fun e he=>by
 symm at he;rcases he with rfl | rfl<;>exact .inl (.inl ⟨_,rfl⟩)⟩)
theorem uE {S:Gm->Prop} {ps:List (Int×Int)} (h:ps.length<=5000):OkS (OkS (OkS S)) (.list (ps.map Ts.ptD)) :=
 .inr (.inl ⟨_,rfl,by rw [Θ]; exact h,fun e he=>by obtain ⟨q,_,rfl⟩:=F1.mp he; exact CQ q⟩)
theorem AS {L:List Sm1} (h:L.length<=5000) (hl:∀ e∈L,e.2.length<=5000):Ok5 (.list (L.map seD)) :=
 .inr (.inl ⟨_,rfl,by rw [Θ]; exact h,fun d hd=>by
  obtain ⟨e,he,rfl⟩:=F1.mp hd;refine .inr (.inr ⟨_,rfl,by show 2<=5000; omega,fun d hd=>?_⟩);symm at hd;rcases hd with rfl | rfl
  ·exact .inl (.inr (.inl ⟨_,rfl⟩))
  ·exact uE (hl e he)⟩)
noncomputable def lnD (M:List (Int×Int)):PyData:=.list (M.map Ts.ptD)
theorem AR {Ms:List (List (Int×Int))} (h:Ms.length<=5000) (hl:∀ M∈Ms,M.length<=5000):Ok5 (.list (Ms.map lnD)) :=
 .inr (.inl ⟨_,rfl,by rw [Θ]; exact h,fun d hd=>by
  obtain ⟨M,hM,rfl⟩:=F1.mp hd;exact uE (hl M hM)⟩)
theorem CP:Ok5 (.list [.bool true,.bool true]):=.inr (.inl ⟨_,rfl,by show 2<=5000; omega,fun e he=>by
 symm at he;rcases he with rfl | rfl<;>exact .inl (.inr (.inl ⟨_,rfl⟩))⟩)
theorem zG {H:Hp} {l:Δ} (e:H l=some (.lst [.bl true,.bl true])):Rep H (.list [.bool true,.bool true]) (.ref l):=by
 simp only [Rep,RepL];exact ⟨l,_,rfl,e,_,_,rfl,rfl,_,_,rfl,rfl,rfl⟩
theorem zC {H0 H:Hp}:∀ {xs:List V} {Ms:List (List (Int×Int))},iw H0 H xs Ms->RepL H (Ms.map lnD) xs:=by
 intro xs
 induction xs with
 | nil =>
  intro Ms h
  cases Ms with
  | nil => simp only [Ir, RepL]
  | cons e Ms => have := h.1; simp at this
 | cons v xs ih =>
  intro Ms h
  cases Ms with
  | nil => have := h.1; simp at this
  | cons M Ms =>
   rw [Fg,RepL];obtain ⟨l,zs,rfl,_,h2,h3⟩:=h.2 0 v M rfl rfl;exact ⟨_,xs,rfl,oV h2 h3,ih ⟨by have:=h.1; simpa using this,fun i v' e' h1 h2=>h.2 (i+1) v' e' (by simpa using h1) (by simpa using h2)⟩⟩
theorem kK {H0 H:Hp} {l:Δ} {xs:List V} {Ms:List (List (Int×Int))} (e:H l=some (.lst xs)) (h:iw H0 H xs Ms):Rep H (.list (Ms.map lnD)) (.ref l):=by
 rw [Rep];exact ⟨l,xs,rfl,e,zC h⟩
theorem xt (L:List Sm1):(Rs L).length<=L.length:=by
 unfold Rs;rw [Θ];exact JS _ _
end
section
variable {P:FP} {w:F0} {K:W.Frag} {mg:Str->Option χ} {base:F6} {t:Ad}
def sp_aL (C:Δ):Sp:=fun vs H Q _=>∃ (p pp:Δ) (wy s:Int) (cs rs:List Int),vs=[.ref p,.ref pp,.int wy]/\aF C H p s cs rs/\d0 true H pp s cs rs/\∀ x H',ah H H'->aF C H' x s cs rs->Q (.ref x) H'
theorem ok_aL (T:Txt K mg t):aN P w K mg base CX0 11 t.f_aL t.d_aL ["_law_cloth","_law_plan_here","_law_way"] (sp_aL t.a_aa):=by
 refine T.F_aL.ok sc_aL (by walk_at "l") (fun _ _ _ s H vs Q E hr h=>?_)
 ·obtain ⟨p,pp,wy,s,cs,rs,rfl,hC,pl,k⟩:=h;obtain ⟨⟨c,r,hp,hc,hr'⟩,sh,bc,br⟩:=id pl;refine aJ (aO (aW b8 (pv 2) ag) (ai (aA (aj (ok_aM T) (rmo hr) rfl T.mg_aM T.F_aM.kp T.b_aM .nil ao (aa (aj (ok_aS T) (rmo hr) rfl T.mg_aS T.F_aS.kp T.b_aS .nil ao (aa (pv 0) ae)) ae)))) aC) fun _ _=>aJ (cv (aO (PW.pt (fS (aW b8 (pv 2) ag) (dQ (aW (jH hr.units) (aD (aY K rfl) (pv 1) ag) (bT ae))))) (aQ (C2 (aj (ok_aZ T) (rmo hr) rfl T.mg_aZ T.F_aZ.kp T.b_aZ .nil ao (aa (pv 0) (aa bh (aa (aB kH (aw (aU K rfl) rfl T.no_len (by rfl) (aa (aD (aY K rfl) (pv 1) ag) ae)) ag) ae)))) (fP (n:=2) K rfl rfl (bV (aK (i:=3) sc_aL.nd rfl (GJ rfl)) (bV (aK (i:=4) sc_aL.nd rfl (GJ rfl)) fQ)))) (ai (aA (aj (ok_am T) (rmo hr) rfl T.mg_am T.F_am.kp T.b_am .nil ao (aa (pv 3) (aa (pv 4) (aa bh ae))))))) aC)) fun _ _=>aJ (aO (aW b8 (pv 2) ag) (ai (aA (aj (ok_aU T) (rmo hr) rfl T.mg_aU T.F_aU.kp T.b_aU .nil ao (aa (aj (ok_aU T) (rmo hr) rfl T.mg_aU T.F_aU.kp T.b_aU .nil ao (aa (pv 0) ae)) ae)))) aC) fun _ _=>cM (aA (aj (ok_ar T) (rmo hr) rfl T.mg_ar T.F_ar.kp T.b_ar .nil ao (aa (aj (ok_au T) (rmo hr) rfl T.mg_au T.F_au.kp T.b_au .nil ao (aa (pv 0) ae)) ae))) fun _ _=>?_;left;by_cases c1:wy=1
  ·rw [aS c1];apply ⟨p,s,cs,rs,rfl,hC,bc,br,fun l as H1 s1 _ _ e1 la hR=>?_⟩;left;exact ⟨l,s,cs,rs,rfl,AZ e1 la hR,sh,bc,br,fun x H2 s2 hX=>k x H2 (s1.trans s2) hX⟩
  rw [bA c1];apply cx (fun σ' H'=>σ'=[some (.ref p),some (.ref pp),some (.int wy),none,none]/\ah H H') ?_ ?_
  ·left;by_cases c2:wy=2
   ·rw [aS c2];apply bu (SqT.of hp) (v:=.ref c) rfl ?_;apply nwL fun l0 H1 sl0 nl0 el0=>?_;apply wc (ms:=[]) (sl0 _ _ hc) el0 ?_;by_cases c3:cs=[]
    ·rw [aS c3];left;exact ⟨rfl,sl0⟩
    ·rw [bA c3];apply bu (SqT.of (sl0 _ _ hp)) (v:=.ref c) rfl ?_;apply aV (sl0 _ _ hc) ?_;rw [Θ];apply bR ⟨by decide,by decide⟩ ?_;have hk:cs.length / 2<cs.length:=by have:=Jl.mpr c3; omega
     refine ⟨p,cs.length / 2,s,cs,rs,rfl,hC.mono sl0,sh,bc,br,hk,fun tp x y H2 s2 et hx hy=>?_⟩;apply fT et rfl ?_;left;exact ⟨x,y,s,_,_,rs,_,_,cs,rfl,hx,hy,sh,m9 bc _,br,m8 bc _,sP bc hk,fun z H3 s3 hZ=>k z H3 (sl0.trans (s2.trans s3)) hZ⟩
   ·rw [bA c2];left;exact ⟨rfl,ah.refl _⟩
  rintro σ' H1 ⟨rfl,s1⟩;left;by_cases c3:wy=3
  ·rw [aS c3];apply ⟨p,s,cs,rs,rfl,hC.mono s1,sh,bc,br,fun x H2 s2 hX=>?_⟩;apply ⟨x,s,_,_,rfl,hX,sh,gO bc 1,gO br 1,fun y H3 s3 hY=>?_⟩;rw [uY bc,uY br] at hY;exact k y H3 (s1.trans (s2.trans s3)) hY
  ·rw [bA c3];apply ⟨p,s,cs,rs,rfl,hC.mono s1,sh,bc,br,fun H2 s2=>?_⟩;left;exact ⟨s,cs,rs,rfl,sh,bc,br,fun y H3 s3 hY=>k y H3 (s1.trans (s2.trans s3)) hY⟩
def sp_law (K:W.Frag):Sp:=fun vs H Q _=>∃ (a:Δ) (ns:List Int),vs=[.ref a]/\SqL K H a (ns.map V.int)/\ns.length<=63/\∀ H',Q (.bl true) H'
theorem CS (T:Txt K mg t):aN P w K mg base CX0 16 t.f_law t.d_law ["_law_script"] (sp_law K):=by
  have G_aD:=ok_aD (P:=P) (w:=w) (base:=base) T;refine T.F_law.ok dN (fun vs H Q E h=>?_) (fun cdv A outer s H vs Q E hr h=>?_)
  · obtain ⟨a,ns,rfl,_⟩:=h; rfl
  · obtain ⟨a,ns,rfl,hS,hl,z⟩:=h
    refine aJ (aM 1 dN.nd (aj (ok_aO T) (rmo hr) rfl T.mg_aO T.F_aO.kp T.b_aO .nil ao (aa (pv 0) (aa ag ae)))) fun _ _=>aJ (aM 2 dN.nd (aj (ok_bc T) (rmo hr) rfl T.mg_bc T.F_bc.kp T.b_bc .nil ao (aa (pv 1) ae))) fun _ _=>aJ (cv (aO (aW b8 (aB bF (aD (aq K rfl) (pv 1) ag) ag) ag) (ai (aM 2 dN.nd (bJ (aa (aB bF (aD (aq K rfl) (pv 1) ag) ag) (aa (aj (ok_a8 T) (rmo hr) rfl T.mg_a8 T.F_a8.kp T.b_a8 .nil ao (aa (b9 (cC K rfl) (pv 1) (bE ag) de) (aa ag ae))) (aa (aj (ok_a8 T) (rmo hr) rfl T.mg_a8 T.F_a8.kp T.b_a8 .nil ao (aa (b9 (cC K rfl) (pv 1) (bE ag) de) (aa ag ae))) ae)))))) aC)) fun _ _=>aJ (aM 3 dN.nd (aj (ok_bf T) (rmo hr) rfl T.mg_bf T.F_bf.kp T.b_bf .nil ao (aa (pv 2) ae))) fun _ _=>aJ (aM 4 dN.nd (aj (ok_aR T) (rmo hr) rfl T.mg_aR T.F_aR.kp T.b_aR .nil ao (aa (pv 2) ae))) fun _ _=>aJ (aM 5 dN.nd (aj (ok_aK T) (rmo hr) rfl T.mg_aK T.F_aK.kp T.b_aK .nil ao (aa (pv 3) ae))) fun _ _=>aJ (aO (bX (aZ (aj G_aD (rmo hr) rfl T.mg_aD T.F_aD.kp T.b_aD .nil ao (aa (pv 5) (aa (pv 4) ae))))) (ai (aA dE)) aC) fun _ _=>aJ (df F5 rfl (bQ (pv 5)) (fP (n:=2) K rfl rfl (bV (aK (i:=6) dN.nd rfl (GJ rfl)) (bV (aK (i:=7) dN.nd rfl (GJ rfl)) fQ))) (ai (bg (yF FF MB MA qF (pv 7))))) fun _ _=>aJ (bg (cL FF FW FU a8 (pv 5) (aa (bJ (aa dE (aa (bT ae) ae))) ae))) fun _ _=>aJ (aM 8 dN.nd (aj (ok_aP T) (rmo hr) rfl T.mg_aP T.F_aP.kp T.b_aP .nil ao (aa (pv 3) ae))) fun _ _=>aJ (aO (bX (aZ (aj G_aD (rmo hr) rfl T.mg_aD T.F_aD.kp T.b_aD .nil ao (aa (pv 8) (aa (bP (N:=["_law_comes_back","_law_line"]) (cap:=[none,none]) rfl ⟨rfl,rfl,rfl,rfl,rfl,rfl⟩ (bQ (pv 4)) (fun _ _ _=>(fP (n:=2) K rfl rfl (bV (aK (i:=0) (show (["_law_comes_back","_law_line"]:List Str).Nodup by decide +kernel) rfl (GJ rfl)) (bV (aK (i:=1) (show (["_law_comes_back","_law_line"]:List Str).Nodup by decide +kernel) rfl (GJ rfl)) fQ)))) (fun _ _ _=>(fR (aZ (pv 0)))) (fun _ _ _=>(pv 1))) ae))))) (ai (aA dE)) aC) fun _ _=>aJ (df F5 rfl (bQ (pv 8)) (aK (i:=7) dN.nd rfl (GJ rfl)) (ai (bg (yF FF MB MA qF (pv 7))))) fun _ _=>aJ (bg (cL FF FW FU a8 (pv 8) (aa (bT ae) ae))) fun _ _=>aJ (aO (bX (aZ (aj G_aD (rmo hr) rfl T.mg_aD T.F_aD.kp T.b_aD .nil ao (aa (aj (ok_aP T) (rmo hr) rfl T.mg_aP T.F_aP.kp T.b_aP .nil ao (aa (pv 3) ae)) (aa (bP (N:=["_law_comes_back","_law_line"]) (cap:=[none,none]) rfl ⟨rfl,rfl,rfl,rfl,rfl,rfl⟩ (bQ (pv 4)) (fun _ _ _=>(fP (n:=2) K rfl rfl (bV (aK (i:=0) (show (["_law_comes_back","_law_line"]:List Str).Nodup by decide +kernel) rfl (GJ rfl)) (bV (aK (i:=1) (show (["_law_comes_back","_law_line"]:List Str).Nodup by decide +kernel) rfl (GJ rfl)) fQ)))) (fun _ _ _=>(fR (aZ (pv 0)))) (fun _ _ _=>(pv 1))) ae))))) (ai (aA dE)) aC) fun _ _=>aJ (aM 9 dN.nd (aj (ok_aL T) (rmo hr) rfl T.mg_aL T.F_aL.kp T.b_aL .nil ao (aa (pv 3) (aa (pv 2) (aa (aB bF (aB kH (aD (aq K rfl) (pv 1) ag) ag) ag) ae))))) fun _ _=>aJ (aO (PW.pt (jk (bX (aZ (aj G_aD (rmo hr) rfl T.mg_aD T.F_aD.kp T.b_aD .nil ao (aa (aj (ok_aK T) (rmo hr) rfl T.mg_aK T.F_aK.kp T.b_aK .nil ao (aa (pv 9) ae)) (aa (pv 4) ae))))) (gy (bX (aZ (aj G_aD (rmo hr) rfl T.mg_aD T.F_aD.kp T.b_aD .nil ao (aa (bT (aa (aj (ok_a5 T) (rmo hr) rfl T.mg_a5 T.F_a5.kp T.b_a5 .nil ao (aa (pv 9) (aa (pv 3) ae))) (aa (aj (ok_a5 T) (rmo hr) rfl T.mg_a5 T.F_a5.kp T.b_a5 .nil ao (aa (pv 3) (aa (pv 9) ae))) ae))) (aa (bT (aa dE (aa dE ae))) ae)))))))) (ai (aA dE)) aC) fun _ _=>cM (aA (aj G_aD (rmo hr) rfl T.mg_aD T.F_aD.kp T.b_aD .nil ao (aa (aj (ok_aK T) (rmo hr) rfl T.mg_aK T.F_aK.kp T.b_aK .nil ao (aa (pv 3) ae)) (aa (pv 4) ae)))) fun _ _=>?_;apply ⟨a,13,ns,rfl,hS,hl,by decide,fun ls zs H1 s1 es lz _ sm=>?_⟩;apply ⟨ls,zs,rfl,es,by omega,fun pp s cs rs H2 s2 pl=>?_⟩;have es:=s2 _ _ es;clear s1 s2 sm;apply cx (fun σ' H'=>∃ (pp:Δ) (s:Int) (cs rs:List Int),σ'=[some (.ref a),some (.ref ls),some (.ref pp),none,none,none,none,none,none,none]/\H' ls=some (.lst (zs.map V.int))/\d0 true H' pp s cs rs) ?_ ?_
    · apply aG (SqL.of es) (aT (i:=12) (by decide) (by omega)) ?_;apply bR (by decide) ?_;left;by_cases c:zs.getD (12:Int).toNat 0%8=1
      · rw [aS c]
        apply aG (SqL.of es) (aT (i:=3) (by decide) (by omega)) ?_;apply bR (by decide) ?_;apply fc es fun l3 n3=>?_;have s3:=ah.new (o:=HO.lst (di (zs.map V.int) (some 4) none)) n3;apply ⟨l3,39,zs.drop 4,rfl,by rw [af]; exact congrArg (fun x=>some (HO.lst x)) (fo (k:=4)),by rw [Fw]; omega,by decide,fun l4 cs H4 s4 e4 lc bc=>?_⟩;left;have es4:=s4 _ _ (s3 _ _ es);refine fc es4 fun l5 n5=>?_;have s5:=ah.new (o:=HO.lst (di (zs.map V.int) (some 8) none)) n5;apply ⟨l5,39,zs.drop 8,rfl,by rw [af]; exact congrArg (fun x=>some (HO.lst x)) (fo (k:=8)),by rw [Fw]; omega,by decide,fun l6 rs H6 s6 e6 lr br=>?_⟩;left;have e46:=s6 _ _ (s5 _ _ e4);have es6:=s6 _ _ (s5 _ _ es4);refine nwT fun tp H7 stp ntp etp=>?_;have m2:zs.getD (3:Int).toNat 0%2=0\/zs.getD (3:Int).toNat 0%2=1:=by omega
        exact ⟨tp,_,cs,rs,rfl,stp _ _ es6,⟨⟨l4,l6,etp,stp _ _ e46,stp _ _ e6⟩,m2,⟨by omega,bc⟩,by omega,br⟩⟩
      · rw [bA c]
        left;exact ⟨pp,s,cs,rs,rfl,es,pl⟩
    clear es pl;rintro σ' H3 ⟨pp,s,cs,rs,rfl,es,pl⟩;obtain ⟨_,sh,bc,br⟩:=id pl;have lc:=bc.1;have lr:=br.1;apply ⟨pp,true,s,cs,rs,rfl,pl,fun p H4 s4 hC=>?_⟩;apply ⟨pp,s,cs,rs,rfl,pl.mono s4,lc,lr,fun ld yd L H5 s5 nd ed al pd=>?_⟩;have hC:=hC.mono s5;have pl:=pl.mono (s4.trans s5);have es:=s5 _ _ (s4 _ _ es);clear s4 s5 nd;have fw:=al.some.few lc lr;have ol:∀ e∈L,e.2.length<=5000:=fun e he=>Fe (yh he) (Fe fw.1 (by decide));have o5:Ok5 (.list (L.map seD)):=AS (Fe fw.2 (by decide)) ol;have o6:Ok5 (.list ((Rs L).map lnD)):=AR (Fe (xt L) (Fe fw.2 (by decide))) fun M hM=>ol _ (Co.mp hM);have ly:yd.length<=5000:=by rw [pd.1]; omega
    have hpr:∀ v∈yd,∃ b l,v=.ref b/\H5 b=some (.tup [.bl (dH H5 v).1,.ref l])/\lC H5 v=.ref l:=fun v hv=>by
      obtain ⟨⟨T,l,zs,h1,_,h3,_,_⟩,_⟩:=pd.mem v hv;exact ⟨T,l,h1,h3,by rw [h1]; simp only [lC,h3]⟩
    have rd:=kL ed pd;have pr:∀ {H'},ah H5 H'->iw AO H' ((yd.filter fun v=>(dH H5 v).1).map (lC H5)) (Rs L):=fun s=>jJ s pd;apply ⟨p,s,cs,rs,rfl,hC,lc,lr,fun lf yf L' H6 s6 nf ef al' pf=>?_⟩;have:=iV al al'
    subst this;have lyf:yf.length<=1681:=by rw [pf.1]; exact fw.2
    apply ⟨.ref lf,.ref ld,_,rfl,o5,kL ef pf,rd.mono s6,fun H7 s7=>?_⟩;have ef:=s7 _ _ ef;have pf:=pf.mono s7;have s7:=s6.trans s7;clear s6;apply ⟨⟨_,SqL.of ef⟩,?_⟩;refine fu (a:=lf) (xs:=yf) (fun i σ' H'=>∃ (o1 o2:Option V),σ'=[some (.ref a),some (.ref ls),some (.ref pp),some (.ref p),some (.ref ld),some (.ref lf),o1,o2,none,none]/\ah H5 H'/\H' lf=some (.lst yf) /\
        ∀ v∈yf,∃ T f l us,v=.ref T/\Nw H5 lf l/\H' T=some (.tup [.bl f,.ref l])/\H' l=some (.lst us))
      ⟨none,none,rfl,s7,ef,fun v hv=>by
        obtain ⟨⟨T,l,zs,h1,h2,h3,h4,_⟩,_⟩:=pf.mem v hv;exact ⟨T,_,l,zs,h1,h2,h3,h4⟩⟩ (fun i σ' H' _ ⟨_,_,_,_,e,_⟩=>SqL.of e) ?_ ?_
    · rintro i v σ' H8 hv ⟨o1,o2,rfl,s8,ef8,hv8⟩
      obtain ⟨T,f,l,us,rfl,nw,eT,el⟩:=hv8 v (FN hv);refine fT eT rfl ?_;apply bN el ?_;refine qZ el ?_;refine ⟨_,_,rfl,s8.later nw.2,by rw [ar (Gd nw.1)]; exact ef8,fun v hv=>?_⟩;obtain ⟨T',f',l',us',h1,h2,h3,h4⟩:=hv8 v hv;by_cases c:l'=l
      · exact ⟨T',f',l',[],h1,h2,by rw [ar (cA h3 el (by intro z; cases z))]; exact h3,by rw [c,af]⟩
      · exact ⟨T',f',l',us',h1,h2,by rw [ar (cA h3 el (by intro z; cases z))]; exact h3,by rw [ar c]; exact h4⟩
    rintro σ' H8 ⟨o1,o2,rfl,s8,ef8,_⟩;clear pf ef s7;apply bN ef8 ?_;apply nwL fun l0 H9 sl0 nl0 el0=>?_;apply nwT fun t0 HA st0 nt0 et0=>?_;have ef9:=st0 _ _ (sl0 _ _ ef8);have sA:=s8.trans (sl0.trans st0);clear s8 sl0 st0 el0 et0 ef8;apply a9 ef9 (bf (by omega)) ?_;have sB:=sA.later (o:=.lst (yf++[V.ref t0])) nf;generalize upd HA lf (.lst (yf++[V.ref t0]))=HB at sB ⊢;clear sA ef9;apply ⟨p,s,cs,rs,rfl,hC.mono sB,lc,lr,fun lr2 yr L2 HC s2 n2 e2 al2 p2=>?_⟩;have:=iV al al2
    subst this;have sC:=sB.trans s2;have lyr:yr.length<=1681:=by rw [p2.1]; exact Fe (xt L) fw.2
    have pick:∀ {HC:Hp},ah H5 HC->(∀ v∈yd,∃ b u1 u2,v=.ref b/\HC b=some (.tup [u1,u2]))/\∀ b u1 u2,V.ref b∈yd->HC b=some (.tup [u1,u2])->u1=.bl (dH H5 (.ref b)).1/\u2=lC H5 (.ref b):=fun {HC} sC=>by
      refine ⟨fun v hv=>?_,fun b u1 u2 hv hb=>?_⟩
      · obtain ⟨b,l,h1,h2,h3⟩:=hpr v hv
        exact ⟨b,_,_,h1,sC _ _ h2⟩
      · obtain ⟨b',l,h1,h2,h3⟩:=hpr _ hv
        cases h1;rw [sC _ _ h2] at hb
        cases hb;exact ⟨rfl,h3.symm⟩
    apply ⟨⟨_,SqL.of (sC _ _ ed)⟩,fun la na=>?_⟩;refine iX (lC H5) (fun v=>(dH H5 v).1) (SqL.of (sC _ _ ed)) ly na (pick sC).1 (fun b u1 u2 o1 o2 H' Q' hv hb s' q=>?_) (fun b u1 u2 o1 o2 H' Q' hv hb s' q=>?_) (fun HD sD eD=>?_)
    · obtain ⟨rfl,rfl⟩:=(pick sC).2 b u1 u2 hv hb
      left;exact q
    · obtain ⟨rfl,rfl⟩:=(pick sC).2 b u1 u2 hv hb
      left;exact q
    apply ⟨.ref lr2,.ref la,_,rfl,o6,(kK e2 p2).mono sD,kK eD (pr (sC.trans sD)),fun HE sE=>?_⟩;have e2:=sE _ _ (sD _ _ e2);have p2:=p2.mono (sD.trans sE);have sE:=s2.trans (sD.trans sE);clear s2 sC sD eD na;apply ⟨⟨_,SqL.of e2⟩,?_⟩;refine fu (a:=lr2) (xs:=yr) (fun i σ' H'=>∃ (o2:Option V),σ'=[some (.ref a),some (.ref ls),some (.ref pp),some (.ref p),some (.ref ld),some (.ref lf),o1,o2,some (.ref lr2),none]/\ah HB H'/\H' lr2=some (.lst yr) /\
        ∀ v∈yr,∃ l us,v=.ref l/\Nw HB lr2 l/\H' l=some (.lst us))
      ⟨_,rfl,sE,e2,fun v hv=>by
        obtain ⟨i,hi⟩:=GS.mp hv;have hi':i<(Rs L).length:=by rw [<- p2.1]; exact (C_.mp hi).1
        obtain ⟨l,zs,rfl,h0,h1,h2⟩:=p2.2 i v _ hi (Ω hi');refine ⟨l,zs,rfl,⟨fun z=>?_,h0⟩,h1⟩;rw [z,e2] at h1
        cases h1;obtain ⟨b,e,hb⟩:=h2.mem _ hv
        cases e;rw [z,e2] at hb
        cases hb⟩ (fun i σ' H' _ ⟨_,_,_,e,_⟩=>SqL.of e) ?_ ?_
    · rintro i v σ' H8 hv ⟨o2,rfl,s8,ef8,hv8⟩
      obtain ⟨l,us,rfl,nw,el⟩:=hv8 v (FN hv);apply bN el ?_;refine qZ el ?_;refine ⟨_,rfl,s8.later nw.2,by rw [ar (Gd nw.1)]; exact ef8,fun v hv=>?_⟩;obtain ⟨l',us',h1,h2,h4⟩:=hv8 v hv;by_cases c:l'=l
      · exact ⟨l',[],h1,h2,by rw [c,af]⟩
      · exact ⟨l',us',h1,h2,by rw [ar c]; exact h4⟩
    clear e2 p2 sE o2;rintro σ' HF ⟨o2,rfl,sF,eF,_⟩;apply bN eF ?_;apply nwL fun l1 HG sl1 nl1 el1=>?_;have eG:=sl1 _ _ eF;have sG:=sF.trans sl1;clear sF sl1 el1 eF;apply a9 eG (bf (by omega)) ?_;have sH:=sB.trans (sG.later (o:=.lst (yr++[V.ref l1])) n2);generalize upd HG lr2 (.lst (yr++[V.ref l1]))=HH at sH ⊢;clear sG eG sB;apply ⟨p,s,cs,rs,rfl,hC.mono sH,lc,lr,fun lr3 yr3 L3 HI s3 n3 e3 al3 p3=>?_⟩;have:=iV al al3
    subst this;have sI:=sH.trans s3;apply ⟨⟨_,SqL.of (sI _ _ ed)⟩,fun la na=>?_⟩;refine iX (lC H5) (fun v=>(dH H5 v).1) (SqL.of (sI _ _ ed)) ly na (pick sI).1 (fun b u1 u2 o1 o2 H' Q' hv hb s' q=>?_) (fun b u1 u2 o1 o2 H' Q' hv hb s' q=>?_) (fun HD sD eD=>?_)
    · obtain ⟨rfl,rfl⟩:=(pick sI).2 b u1 u2 hv hb
      left;exact q
    · obtain ⟨rfl,rfl⟩:=(pick sI).2 b u1 u2 hv hb
      left;exact q
    apply ⟨.ref lr3,.ref la,_,rfl,o6,(kK e3 p3).mono sD,kK eD (pr (sI.trans sD)),fun HE sE=>?_⟩;have sJ:=sI.trans (sD.trans sE);clear sI s3 n3 e3 p3 sD eD sE na sH pick pr;apply aG (SqL.of (sJ _ _ es)) (aT (i:=12) (by decide) (by omega)) ?_;apply bR ⟨by decide,by decide⟩ ?_;apply bR (by decide) ?_;refine ⟨p,pp,_,s,cs,rs,rfl,hC.mono sJ,pl.mono sJ,fun x HK sK hX=>?_⟩;apply ⟨x,s,cs,rs,rfl,hX,lc,lr,fun l4 y4 L4 HL sL n4 e4 al4 p4=>?_⟩;have:=iV al al4
    subst this;apply ⟨.ref l4,.ref ld,_,rfl,o5,kL e4 p4,rd.mono (sJ.trans (sK.trans sL)),fun HM sM=>?_⟩;have hX:=hX.mono (sL.trans sM);have sM:=sJ.trans (sK.trans (sL.trans sM));clear sJ sK sL e4 n4 p4;left;have tt:(decide (s=s)&&(decide (cs=cs)&&decide (rs=rs)))=true:=by simp
    refine ⟨x,p,s,s,cs,rs,cs,rs,rfl,hX,hC.mono sM,fun HN sN=>?_⟩;rw [tt];apply ⟨p,x,s,s,cs,rs,cs,rs,rfl,hC.mono (sM.trans sN),hX.mono sN,fun HO sO=>?_⟩;rw [tt];apply nwL fun l5 HP sl5 nl5 el5=>?_;apply nwL fun l6 HQ sl6 nl6 el6=>?_;refine ⟨.ref l5,.ref l6,_,rfl,CP,zG (sl6 _ _ el5),zG el6,fun HR sR=>?_⟩;have sS:=sM.trans (sN.trans (sO.trans (sl5.trans (sl6.trans sR))));clear sM sN sO sl5 sl6 sR el5 el6 hX;apply ⟨p,s,cs,rs,rfl,hC.mono sS,lc,lr,fun l4 y4 L4 HL sL n4 e4 al4 p4=>?_⟩;have:=iV al al4
    subst this;left;exact ⟨.ref l4,.ref ld,_,rfl,o5,kL e4 p4,rd.mono (sS.trans sL),fun HM sM=>z _⟩
end
end My
namespace PySem.W.Fast
theorem tw4715467706305286446:True:=⟨⟩
theorem tw151446130831132869:True:=⟨⟩
theorem tw12056364699340658457:True:=⟨⟩
theorem tw10902562432642509227:True:=⟨⟩
theorem tw7656371570137457957:True:=⟨⟩
theorem tw2263772342785260131:True:=⟨⟩
theorem tw10866373373795666904:True:=⟨⟩
theorem tw1702865531901275301:True:=⟨⟩
theorem tw3026776384880057109:True:=⟨⟩
theorem tw4587701701283568202:True:=⟨⟩
theorem tw5837491160257623729:True:=⟨⟩
theorem tw1966370011658905860:True:=⟨⟩
theorem tw7769526542876683022:True:=⟨⟩
theorem tw1526545044527920505:True:=⟨⟩
theorem tw11066229653457699231:True:=⟨⟩
theorem tw9642697163534422354:True:=⟨⟩
theorem tw12675763675698791469:True:=⟨⟩
theorem tw4140347055782088814:True:=⟨⟩
theorem tw15977956095583704634:True:=⟨⟩
theorem tw4730466164662442887:True:=⟨⟩
theorem tw10232552023382253386:True:=⟨⟩
theorem tw8423702351735241639:True:=⟨⟩
theorem tw5597712724062549552:True:=⟨⟩
theorem tw4583367525789968057:True:=⟨⟩
theorem tw5779143295860744515:True:=⟨⟩
theorem tw2308199639077091726:True:=⟨⟩
theorem tw12022022912493719902:True:=⟨⟩
theorem tw1070538727446469367:True:=⟨⟩
theorem tw15687124447824797716:True:=⟨⟩
theorem tw17432931777946479659:True:=⟨⟩
theorem tw13403561944584188239:True:=⟨⟩
theorem tw7497547745127710326:True:=⟨⟩
theorem tw7150944006502706318:True:=⟨⟩
theorem tw5000374198687309867:True:=⟨⟩
theorem tw14157188904983255295:True:=⟨⟩
theorem tw13027304683040354323:True:=⟨⟩
theorem tw5813126837855778887:True:=⟨⟩
theorem tw6867996765440108356:True:=⟨⟩
theorem tw8897694072936076092:True:=⟨⟩
theorem tw12756643736299584803:True:=⟨⟩
theorem tw14512659739032231969:True:=⟨⟩
theorem tw17791804435413393898:True:=⟨⟩
theorem tw14404455991185998597:True:=⟨⟩
theorem tw3214130667311245831:True:=⟨⟩
theorem tw14128215826221702379:True:=⟨⟩
theorem tw9543101173502383505:True:=⟨⟩
theorem tw5548221122134725076:True:=⟨⟩
theorem tw2729698704452166022:True:=⟨⟩
theorem tw10578449790928813606:True:=⟨⟩
theorem tw11909025588152519893:True:=⟨⟩
theorem tw7747970973129608286:True:=⟨⟩
theorem tw2265190639405948217:True:=⟨⟩
theorem tw13392027209459265913:True:=⟨⟩
theorem tw13276260131571149086:True:=⟨⟩
theorem tw3467136707904766981:True:=⟨⟩
theorem tw18101409862423526325:True:=⟨⟩
theorem tw5955668237401747210:True:=⟨⟩
theorem tw12654718538459355537:True:=⟨⟩
theorem tw14482020335416113129:True:=⟨⟩
theorem tw5122192767979230285:True:=⟨⟩
theorem tw5821315176446312431:True:=⟨⟩
theorem tw1192639294919525755:True:=⟨⟩
theorem tw15268859931553663015:True:=⟨⟩
theorem tw13523482635601540862:True:=⟨⟩
theorem tw3308596141895339664:True:=⟨⟩
theorem tw16268082536210935646:True:=⟨⟩
theorem tw16850715541521076344:True:=⟨⟩
theorem tw4516812872558714665:True:=⟨⟩
theorem tw913994821722302945:True:=⟨⟩
theorem tw12607887868162471006:True:=⟨⟩
theorem tw9923806451333854128:True:=⟨⟩
theorem tw13167184361347319277:True:=⟨⟩
theorem tw4837792431275653525:True:=⟨⟩
theorem tw14749481138442814279:True:=⟨⟩
theorem tw14154725566926102950:True:=⟨⟩
theorem tw9593966205220754709:True:=⟨⟩
theorem tw15478922608171422423:True:=⟨⟩
theorem tw7030205697449946290:True:=⟨⟩
theorem tw2940351286243371222:True:=⟨⟩
theorem tw13251922614533828513:True:=⟨⟩
theorem tw1603926929055460226:True:=⟨⟩
theorem tw6559231039456126801:True:=⟨⟩
theorem tw4569291241767140750:True:=⟨⟩
theorem tw133899653729008402:True:=⟨⟩
theorem tw7787735693404434684:True:=⟨⟩
theorem tw6422518677259903042:True:=⟨⟩
theorem tw6466959989052188489:True:=⟨⟩
theorem tw6290022596032635202:True:=⟨⟩
theorem tw5322962371227034110:True:=⟨⟩
theorem tw13259085997311253680:True:=⟨⟩
theorem tw15848826782469134188:True:=⟨⟩
theorem tw14974056925390328864:True:=⟨⟩
theorem tw9405147531100205910:True:=⟨⟩
theorem tw11015226310233745102:True:=⟨⟩
theorem tw17092995915640772094:True:=⟨⟩
theorem tw8168939486366530789:True:=⟨⟩
theorem tw3274945073763328150:True:=⟨⟩
theorem tw1253492704052450790:True:=⟨⟩
theorem tw17585618989757883129:True:=⟨⟩
theorem tw6760906046888741981:True:=⟨⟩
theorem tw7604234133437586111:True:=⟨⟩
theorem tw18206891094435290398:True:=⟨⟩
theorem tw16127627882230803400:True:=⟨⟩
theorem tw8500805893382353903:True:=⟨⟩
theorem tw9480391130408615310:True:=⟨⟩
theorem tw3615363039015773807:True:=⟨⟩
theorem tw742201148785299184:True:=⟨⟩
theorem tw7439144265639099018:True:=⟨⟩
theorem tw10419154106911720692:True:=⟨⟩
theorem tw10337735095361523760:True:=⟨⟩
theorem tw1827178131162196832:True:=⟨⟩
theorem tw16470537784049968117:True:=⟨⟩
theorem tw16264508325205789481:True:=⟨⟩
theorem tw8196469907651886477:True:=⟨⟩
theorem tw6967770662373317774:True:=⟨⟩
theorem tw518686326790522822:True:=⟨⟩
theorem tw16544838453431927434:True:=⟨⟩
theorem tw1920562654643116539:True:=⟨⟩
theorem tw8340493992560193738:True:=⟨⟩
theorem tw6603472727379926822:True:=⟨⟩
theorem tw5799069742102482078:True:=⟨⟩
theorem tw4413213840450655591:True:=⟨⟩
theorem tw17090800387568114212:True:=⟨⟩
theorem tw11289702396295257598:True:=⟨⟩
theorem tw4385140683095828203:True:=⟨⟩
theorem tw6581289808187831770:True:=⟨⟩
theorem tw17997531055331480955:True:=⟨⟩
theorem tw4039956711638069139:True:=⟨⟩
theorem tw4790499981456779728:True:=⟨⟩
theorem tw17173391983283928894:True:=⟨⟩
theorem tw16391424373462471498:True:=⟨⟩
theorem tw12227946787854564375:True:=⟨⟩
theorem tw3538524441578919934:True:=⟨⟩
theorem tw5883238215047769994:True:=⟨⟩
theorem tw4444251345973436873:True:=⟨⟩
theorem tw12937079787147741170:True:=⟨⟩
theorem tw13949042198767713960:True:=⟨⟩
theorem tw13324060947579409409:True:=⟨⟩
theorem tw18398377758547044727:True:=⟨⟩
theorem tw17433241370665234803:True:=⟨⟩
theorem tw14147472028505800840:True:=⟨⟩
theorem tw4054672000145483643:True:=⟨⟩
theorem tw410820069189657701:True:=⟨⟩
theorem tw14083799685738574571:True:=⟨⟩
theorem tw1823837798007428181:True:=⟨⟩
theorem tw6941876409024113360:True:=⟨⟩
theorem tw16095120914836513123:True:=⟨⟩
theorem tw7317618588988412607:True:=⟨⟩
theorem tw9052966386126670888:True:=⟨⟩
theorem tw668880818011462133:True:=⟨⟩
theorem tw18433071825420371267:True:=⟨⟩
theorem tw14400774146505257991:True:=⟨⟩
theorem tw2323033502939622664:True:=⟨⟩
theorem tw15966826239473697698:True:=⟨⟩
theorem tw4259794110699607263:True:=⟨⟩
theorem tw12039683965302982578:True:=⟨⟩
theorem tw12345766144413169079:True:=⟨⟩
theorem tw9183494675507901238:True:=⟨⟩
theorem tw4270378040338464744:True:=⟨⟩
theorem tw7847890310431650277:True:=⟨⟩
theorem tw17430376071336082144:True:=⟨⟩
theorem tw7964969975675944945:True:=⟨⟩
theorem tw4508914126004810608:True:=⟨⟩
theorem tw5389399535248634969:True:=⟨⟩
theorem tw14022824509837007202:True:=⟨⟩
theorem tw4879991134600689432:True:=⟨⟩
theorem tw15775482364978393895:True:=⟨⟩
theorem tw2772692320519401307:True:=⟨⟩
theorem tw12260122545353825096:True:=⟨⟩
theorem tw17177312918783705790:True:=⟨⟩
theorem tw2576982058286125013:True:=⟨⟩
theorem tw2012377103207020889:True:=⟨⟩
theorem tw11803966894654560969:True:=⟨⟩
theorem tw6227236688037758944:True:=⟨⟩
theorem tw15137466522487898818:True:=⟨⟩
theorem tw11460715341999661458:True:=⟨⟩
theorem tw3294129012319359992:True:=⟨⟩
theorem tw5118622823088027248:True:=⟨⟩
theorem tw15780306138491056017:True:=⟨⟩
theorem tw2242689453902541975:True:=⟨⟩
theorem tw2541543994066147856:True:=⟨⟩
theorem tw3693748764869845111:True:=⟨⟩
theorem tw17910599547618130392:True:=⟨⟩
theorem tw2093341478103109605:True:=⟨⟩
theorem tw15328214304463489183:True:=⟨⟩
theorem tw886823679014048139:True:=⟨⟩
theorem tw692796168506070262:True:=⟨⟩
theorem tw2487373371680337429:True:=⟨⟩
theorem tw15724642474540179714:True:=⟨⟩
theorem tw1366298117636043532:True:=⟨⟩
theorem tw12312403084568532550:True:=⟨⟩
theorem tw5409284359259043219:True:=⟨⟩
theorem tw9346718778573207104:True:=⟨⟩
theorem tw17792998262281648107:True:=⟨⟩
theorem tw1510522860798420219:True:=⟨⟩
theorem tw13464876060066930762:True:=⟨⟩
theorem tw17399364991047198523:True:=⟨⟩
theorem tw7272433417237285051:True:=⟨⟩
theorem tw7682765811392080063:True:=⟨⟩
theorem tw16695907713798120218:True:=⟨⟩
theorem tw10337962311596602117:True:=⟨⟩
theorem tw3892709150981071014:True:=⟨⟩
theorem tw16423743434140768127:True:=⟨⟩
end PySem.W.Fast
open PySem PySem.W PyProof.Rows
set_option maxRecDepth 100000 in
set_option maxHeartbeats 0 in
theorem PySem.Challenge.cw_sashiko_k08_all_seams_holds : PySem.Challenge.rw_sashiko_k08_all_seams.Holds := by
 w_on; o_law; k_head; (case hw=>w_witness2)
 k_fill
 refine L2.walk_ofK (l:=PySem.Challenge.rw_sashiko_k08_all_seams) (n:=63) (k:=16) (x:="_law_script") (CX:=L2.CX0) (sp:=My.sp_law) rfl (by decide) rfl ⟨rfl,by decide,by decide⟩ (fun w h Y=>PySem.W.kIn_of Y) ?F ?S ?C
 case F =>
  intro w mg fa h KX G hmg
  have T:∃ t:My.Ad,My.Txt (L2.KOf KX) mg t:=by
   dsimp only [L2.KOf];refine' My.txt_mk KX G ?aC_bj ?ga_bj ?rd_bj ?aC_aa ?pg_aa ?hd_aa ?po_aa ?sa_aa ?mk_aa ?kc_aa ?na_columns_count ?na_rows_count ?na_col_bits ?na_row_bits ?na_first_colour ?a_aI ?F_aI ?a_ao ?F_ao ?a_a9 ?F_a9 ?a_aE ?F_aE ?a_aF ?F_aF ?a_aJ ?F_aJ ?a_as ?F_as ?a_aV ?F_aV ?a_av ?F_av ?a_a7 ?F_a7 ?a_ay ?F_ay ?a_aG ?F_aG ?a_bh ?F_bh ?a_at ?F_at ?a_aK ?F_aK ?a_aP ?F_aP ?fc_aA ?F_aA ?a_ak ?i_ak ?F_ak ?a_ad ?i_ad ?F_ad ?a_ah ?i_ah ?F_ah ?a_ae ?i_ae ?F_ae ?a_ac ?i_ac ?F_ac ?a_ai ?i_ai ?F_ai ?a_ag ?i_ag ?F_ag ?a_ap ?i_ap ?F_ap ?a_ab ?i_ab ?F_ab ?a_af ?i_af ?F_af ?a_a5 ?F_a5 ?a_al ?F_al ?a_aS ?F_aS ?a_ax ?F_ax ?a_a0 ?F_a0 ?a_aq ?F_aq ?a_aW ?F_aW ?a_aM ?F_aM ?a_az ?F_az ?a_aj ?F_aj ?a_aU ?F_aU ?a_aw ?F_aw ?a_aZ ?F_aZ ?a_an ?F_an ?a_am ?F_am ?a_aB ?F_aB ?a_au ?F_au ?a_aH ?F_aH ?a_aC ?F_aC ?a_ar ?F_ar ?a_aO ?F_aO ?a_ba ?F_ba ?a_a8 ?F_a8 ?a_bc ?F_bc ?a_bf ?F_bf ?a_a4 ?F_a4 ?a_aQ ?F_aQ ?a_aX ?F_aX ?a_a3 ?F_a3 ?a_aR ?F_aR ?a_aD ?F_aD ?a_aL ?F_aL ?a_law ?F_law ?aX_be ?aX_aY ?aX_a2 ?aX_bb ?aX_a6 ?aX_bd ?aX_a1 ?bb ?bm ?bt ?ogs ?otk ?x_aY ?xg_BadSize ?sb_aY ?x_a2 ?xg_BadBit ?sb_a2 ?x_bb ?xg_NoCell ?sb_bb ?x_a6 ?xg_NoLine ?sb_a6 ?x_bd ?xg_NoStep ?sb_bd ?x_a1 ?xg_NoPoint ?sb_a1 ?v_LONGEST_SIDE ?z_bg ?z_int ?z_bool ?z_all ?z_len ?z_aN ?z_list ?z_aT ?z_abs ?z_str ?z_zip ?z_bi ?z_sorted ?z_min ?z_max ?z_sum ?z_bk ?z_reversed
   (case aC_bj | aC_aa | aX_be | aX_aY | aX_a2 | aX_bb | aX_a6 | aX_bd | aX_a1 | a_aI | a_ao | a_a9 | a_aE | a_aF | a_aJ | a_as | a_aV | a_av | a_a7 | a_ay | a_aG | a_bh | a_at | a_aK | a_aP | a_a5 | a_al | a_aS | a_ax | a_a0 | a_aq | a_aW | a_aM | a_az | a_aj | a_aU | a_aw | a_aZ | a_an | a_am | a_aB | a_au | a_aH | a_aC | a_ar | a_aO | a_ba | a_a8 | a_bc | a_bf | a_a4 | a_aQ | a_aX | a_a3 | a_aR | a_aD | a_aL | a_law=>(unfold My.QNs; k_is))
   (case z_bg | z_int | z_bool | z_all | z_len | z_aN | z_list | z_aT | z_abs | z_str | z_zip | z_bi | z_sorted | z_min | z_max | z_sum | z_bk | z_reversed=>(unfold My.QNn; k_is))
   (case a_ak | a_ad | a_ah | a_ae | a_ac | a_ai | a_ag | a_ap | a_ab | a_af=>(unfold My.QFi; k_is))
   (case ga_bj | rd_bj | pg_aa | hd_aa | po_aa | sa_aa | mk_aa | kc_aa | fc_aA | bb | bm | bt | ogs | otk | sb_aY | sb_a2 | sb_bb | sb_a6 | sb_bd | sb_a1 | v_LONGEST_SIDE=>k_is)
   (case na_columns_count | na_rows_count | na_col_bits | na_row_bits | na_first_colour=>(unfold My.QFn; k_is))
   (case i_ak | i_ad | i_ah | i_ae | i_ac | i_ai | i_ag | i_ap | i_ab | i_af=>(unfold My.QIf; k_is))
   (case x_aY | x_a2 | x_bb | x_a6 | x_bd | x_a1=>(unfold My.QXc; k_exc))
   (case F_aI | F_ao | F_a9 | F_aE | F_aF | F_aJ | F_as | F_aV | F_av | F_a7 | F_ay | F_aG | F_bh | F_at | F_aK | F_aP | F_aA | F_ak | F_ad | F_ah | F_ae | F_ac | F_ai | F_ag | F_ap | F_ab | F_af | F_a5 | F_al | F_aS | F_ax | F_a0 | F_aq | F_aW | F_aM | F_az | F_aj | F_aU | F_aw | F_aZ | F_an | F_am | F_aB | F_au | F_aH | F_aC | F_ar | F_aO | F_ba | F_a8 | F_bc | F_bf | F_a4 | F_aQ | F_aX | F_a3 | F_aR | F_aD | F_aL | F_law=>exact L2.fun_mk (by k_is) (by k_is) (by k_is))
   (case xg_BadSize | xg_BadBit | xg_NoCell | xg_NoLine | xg_NoStep | xg_NoPoint=>exact ⟨by k_is,by k_is,by k_is,by k_is,by k_is⟩)
  obtain ⟨t,T⟩:=T;have e0:=hmg.symm.trans T.mg_law
  cases e0;exact ⟨t.d_law,T.F_law.bl fun _ _ _ _ _ _ _=>rfl,fun base _ _=>My.CS T⟩
 case S=>exact fun K H a ns hl _ hS=>⟨a,ns,rfl,hS,hl,fun _=>rfl⟩
 case C=>exact fun _ _ _ _ z=>z
