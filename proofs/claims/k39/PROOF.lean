import PyProof.Rows.All
import Wide.All
import OpenK.AllK
import Wide.FinOn
import Lean
import PyProof.EqAt
import PyProof.EqKinds
import PyProof.TupleCall
import KE.KSortTup
import KE.KItemsList
import KE.KPairComp
import KE.KDictOf
import PyProof.AttrMissHeap
import PySem.Challenge.RW_sashiko_k39_facts_noted
set_option Elab.async false
set_option linter.all false
set_option maxRecDepth 100000
namespace L2
open PySem PySem.Spec PyProof.Rows
abbrev Key:=Sum Int Str
def keyIs:Key→Value→Bool
 | .inl k,v=>Value.isInt k v
 | .inr x,v=>Value.isStrOf x v
def keyH (w:World):Key→Int
 | .inl k=>hashInt k
 | .inr x=>hashStr w x
theorem keyIs_shape:∀ {k:Key} {v:Value},keyIs k v=true→(∃ i t,k=Sum.inl i∧v=Value.int i t)∨(∃ x t,k=Sum.inr x∧v=Value.str x t)
 | .inl i,v,h=>by
  obtain ⟨t,e⟩:=Value.isInt_shape (k:=i) (v:=v) h
  exact .inl ⟨i,t,rfl,e⟩
 | .inr x,v,h=>by
  obtain ⟨t,e⟩:=Value.isStrOf_shape (x:=x) (v:=v) h
  exact .inr ⟨x,t,rfl,e⟩
theorem keyIs_int (i:Int) (t:Tok):keyIs (.inl i) (.int i t)=true:=by simp [keyIs,Value.isInt]
theorem keyIs_str (x:Str) (t:Tok):keyIs (.inr x) (.str x t)=true:=by simp [keyIs,Value.isStrOf]
theorem key_ll (a b:Int):decide ((Sum.inl a:Key)=Sum.inl b)=(a==b):=by
 by_cases e:a=b
 ·subst e; simp
 ·have h:¬ (Sum.inl a:Key)=Sum.inl b:=fun q=>e (Sum.inl.inj q)
  rw [decide_eq_false h]
  exact (beq_eq_false_iff_ne.mpr e).symm
theorem key_rr (a b:Str):decide ((Sum.inr a:Key)=Sum.inr b)=decide (a=b):=by
 by_cases e:a=b
 ·subst e; simp
 ·have h:¬ (Sum.inr a:Key)=Sum.inr b:=fun q=>e (Sum.inr.inj q)
  rw [decide_eq_false h,decide_eq_false e]
theorem key_lr (a:Int) (b:Str):decide ((Sum.inl a:Key)=Sum.inr b)=false:=decide_eq_false (fun q=>nomatch q)
theorem key_rl (a:Str) (b:Int):decide ((Sum.inr a:Key)=Sum.inl b)=false:=decide_eq_false (fun q=>nomatch q)
def mixKind (prog:Program) (w:World):PySem.KeyKind prog w Key where
 is:=keyIs
 hash:=keyH w
 inj:=fun v a b ha hb=>by
  rcases keyIs_shape ha with ⟨i,t,rfl,rfl⟩ | ⟨x,t,rfl,rfl⟩
  ·rcases keyIs_shape hb with ⟨j,u,rfl,e⟩ | ⟨y,u,rfl,e⟩
   ·injection e with e1 _; rw [e1]
   ·exact nomatch e
  ·rcases keyIs_shape hb with ⟨j,u,rfl,e⟩ | ⟨y,u,rfl,e⟩
   ·exact nomatch e
   ·injection e with e1 _; rw [e1]
 byValue:=fun k v h=>by
  rcases keyIs_shape h with ⟨i,t,rfl,rfl⟩ | ⟨x,t,rfl,rfl⟩<;>rfl
 pyHash:=fun hv h=>by
  rcases keyIs_shape hv with ⟨i,t,rfl,rfl⟩ | ⟨x,t,rfl,rfl⟩
  ·exact wpAny_pyHash_int h
  ·exact wpAny_pyHash_str h
 eqBool:=fun hu hv h=>by
  rcases keyIs_shape hu with ⟨i,t,rfl,rfl⟩ | ⟨x,t,rfl,rfl⟩
  ·rcases keyIs_shape hv with ⟨j,u,rfl,rfl⟩ | ⟨y,u,rfl,rfl⟩
   ·rw [key_ll] at h; exact wpAny_eqBool_int h
   ·rw [key_lr] at h; exact SeqAt.EqAt.int_str i t y u _ _ _ _ h
  ·rcases keyIs_shape hv with ⟨j,u,rfl,rfl⟩ | ⟨y,u,rfl,rfl⟩
   ·rw [key_rl] at h; exact SeqAt.EqAt.str_int x t j u _ _ _ _ h
   ·rw [key_rr] at h; exact wpAny_eqBool_str h
 «strs»:=fun k x t v h=>by
  rcases keyIs_shape h with ⟨i,u,rfl,e⟩ | ⟨y,u,rfl,e⟩
  ·exact nomatch e
  ·injection e with e1 _
   subst e1
   cases v<;>rfl
theorem mixKind_int (prog:Program) (w:World) (i:Int) (t:Tok):(mixKind prog w).is (.inl i) (.int i t)=true:=keyIs_int i t
theorem mixKind_str (prog:Program) (w:World) (x:Str) (t:Tok):(mixKind prog w).is (.inr x) (.str x t)=true:=keyIs_str x t
end L2
namespace L2
open PySem PySem.Spec PyProof.Rows
inductive V where
 | non | bl (b:Bool) | int (i:Int) | str (x:Str) | byt (b:Array UInt8) | flt (b:UInt64) | ref (a:Addr) | ty (n:String)
 deriving DecidableEq
def RelV:V→Value→Prop
 | .non,u=>u=Value.none
 | .bl b,u=>u=Value.bool b
 | .int i,u=>∃ t,u=Value.int i t
 | .str x,u=>∃ t,u=Value.str x t
 | .byt b,u=>∃ t,u=Value.bytes b t
 | .flt b,u=>∃ t,u=Value.float b t
 | .ref a,u=>u=Value.ref a
 | .ty n,u=>u=Value.type n
abbrev Vals:List V→List Value→Prop:=Paired RelV
theorem Vals.length {xs:List V} {us:List Value} (r:Vals xs us):xs.length=us.length:=Paired.length r
theorem Vals.get:∀ {xs:List V} {us:List Value} {i:Nat} {x:V},Vals xs us→xs[i]?=some x→∃ u,us[i]?=some u∧RelV x u
 | _,_,_,_,.nil,e=>by simp at e
 | _,_,0,_,.cons r _,e=>by simp at e; subst e; exact ⟨_,rfl,r⟩
 | _,_,i+1,x,.cons _ t,e=>by
  obtain ⟨u,h1,h2⟩:=Vals.get (i:=i) (x:=x) t (by simpa using e)
  exact ⟨u,by simpa using h1,h2⟩
theorem Vals.append:∀ {xs ys:List V} {us ws:List Value},Vals xs us→Vals ys ws→Vals (xs++ys) (us++ws)
 | _,_,_,_,.nil,s=>s
 | _,_,_,_,.cons r t,s=>.cons r (Vals.append t s)
theorem Vals.take:∀ {xs:List V} {us:List Value} (n:Nat),Vals xs us→Vals (xs.take n) (us.take n)
 | _,_,0,_=>.nil
 | _,_,_+1,.nil=>.nil
 | _,_,n+1,.cons r t=>.cons r (Vals.take n t)
theorem Vals.drop:∀ {xs:List V} {us:List Value} (n:Nat),Vals xs us→Vals (xs.drop n) (us.drop n)
 | _,_,0,r=>r
 | _,_,_+1,.nil=>.nil
 | _,_,n+1,.cons _ t=>Vals.drop n t
def RelO:Option V→Option Value→Prop
 | some v,some u=>RelV v u
 | none,none=>True
 | _,_=>False
def KV {κ:Type}:List (κ×V)→List (κ×Value)→Prop:=Paired fun (p:κ×V) (q:κ×Value)=>p.1=q.1∧RelV p.2 q.2
def kV:Key→V
 | .inl i=>.int i
 | .inr x=>.str x
inductive HO where
 | lst (xs:List V)
 | tup (xs:List V)
 | dK (kvs:List (Key×V)) | dT (kvs:List (List Key×V))
 | set (S:Int→Bool) (n:Nat)
 | ins (C dx:Addr) (fs:List (Str×V))
 | own (x:Addr)
 | xd (fs:List (Str×V))
 | met (f x:Addr)
 | rng (lo hi:Int)
 | frz (o:Obj) (u:HO)
 | tbl (ps:Array Value)
 | ext (φ:Heap→Prop)
abbrev Hp:=Addr→Option HO
def upd (H:Hp) (a:Addr) (o:HO):Hp:=fun b=>if b=a then some o else H b
theorem upd_same {H:Hp} {a:Addr} {o:HO}:upd H a o a=some o:=by unfold upd; rw [if_pos rfl]
theorem upd_ne {H:Hp} {a b:Addr} {o:HO} (h:b≠a):upd H a o b=H b:=by unfold upd; rw [if_neg h]
theorem upd_upd {H:Hp} {a:Addr} {o u:HO}:upd (upd H a o) a u=upd H a u:=by
 funext b; unfold upd; split<;>rfl
theorem ne_of {H:Hp} {a b:Addr} {o u:HO} (h:H a=some o) (h':H b=some u) (d:o≠u):a≠b:=by
 intro e; subst e; rw [h] at h'; exact d (Option.some.inj h')
theorem ne_of_none {H:Hp} {a b:Addr} {o:HO} (h:H a=some o) (h':H b=none):a≠b:=by
 intro e; subst e; rw [h] at h'; cases h'
section
variable (P:Program) (w:World)
def ObjOk (H:Hp) (h:Heap) (a:Addr):HO→Prop
  | .lst xs => xs.length ≤ sizeLine ∧ ∃ (its : List Value) (n : Nat), Vals xs its ∧ h.get? a = some { cls := .type "list", data := .seq its.toArray n }
  | .tup xs => xs.length ≤ sizeLine ∧ ∃ its : List Value, Vals xs its ∧ IsTup h a its.toArray
  | .dK kvs => kvs.length ≤ sizeLine ∧ (a == sysModules) = false ∧ ∃ vs, KV kvs vs ∧ h.DictOf (mixKind P w) a vs
  | .dT kvs => kvs.length ≤ sizeLine ∧ (a == sysModules) = false ∧ ∃ xs : List (List Key × Addr × Value),
      Paired (fun (p:List Key×V) (q:List Key×Addr×Value)=>p.1=q.1∧H q.2.1=some (.tup (p.1.map kV))∧RelV p.2 q.2.2) kvs xs ∧
      ∃ o es ep,h.get? a=some o∧o.ExactDict∧o.data=.dict es ep∧es.toList=xs.map (entryOfKey (tupleKind (mixKind P w)))∧(xs.map (·.1)).Nodup
  | .set S n => h.SetOf (intKind P w) a S n
  | .ins C dx fs => H dx = some (.own a) ∧ fs.length ≤ 1000 ∧ dx ≠ a ∧ h.get? a = some (PySem.W.instObj C dx) ∧
      ∃ mA,h.Ns1 dx mA∧(∀ f,RelO (fs.lookup f) (mA f))∧PySem.Within mA (fs.map (·.1))
  | .own _ => ∃ o, h.get? a = some o
  | .xd fs => ∃ mA, h.Ns1 a mA ∧ ∀ f, RelO (fs.lookup f) (mA f)
  | .rng lo hi => ∃ t u v, h.get? a = some { cls := .type "range", data := .fields #[.int lo t, .int hi u, .int 1 v] }
  | .frz o u => h.get? a = some o ∧ ObjOk H h a u
  | .tbl ps => h.get? a = some { cls := .none, data := .fields ps }
  | .met f x => h.get? a = some (PySem.W.methodObj (.ref f) (.ref x))
  | .ext φ => φ h ∧ (∃ o, h.get? a = some o) ∧ ∀ h1 h2 : Heap, φ h1 → (∀ o, h1.get? a = some o → h2.get? a = some o) → φ h2
def HOk (H:Hp) (h:Heap):Prop:=∀ a o,H a=some o→ObjOk P w H h a o
end
section
variable {P:Program} {w:World} {H H':Hp} {h h':Heap} {a:Addr} {o:HO}
theorem ObjOk.lt (x:ObjOk P w H h a o):a<h.objs.size:=by
 cases o with
 | lst xs=>obtain ⟨_,_,_,_,e⟩:=x; exact Heap.lt_size e
 | tup xs=>obtain ⟨_,_,_,p⟩:=x; exact p.lt
 | dK kvs=>obtain ⟨_,_,_,_,o,_,_,e,_⟩:=x; exact Heap.lt_size e
 | dT kvs=>obtain ⟨_,_,_,_,o,_,_,e,_⟩:=x; exact Heap.lt_size e
 | set S n=>obtain ⟨o,_,_,_,e,_⟩:=x; exact Heap.lt_size e
 | ins C dx fs=>obtain ⟨_,_,_,e,_⟩:=x; exact Heap.lt_size e
 | own y=>obtain ⟨_,e⟩:=x; exact Heap.lt_size e
 | xd fs=>obtain ⟨_,⟨_,_,_,e,_⟩,_⟩:=x; exact Heap.lt_size e
 | rng lo hi=>obtain ⟨_,_,_,e⟩:=x; exact Heap.lt_size e
 | frz ob u=>obtain ⟨e,_⟩:=x; exact Heap.lt_size e
 | tbl ps=>exact Heap.lt_size (show h.get? a=some _ from x)
 | met f y=>exact Heap.lt_size (show h.get? a=some _ from x)
 | ext φ=>obtain ⟨_,⟨_,e⟩,_⟩:=x; exact Heap.lt_size e
theorem Paired.mapP {α β:Type} {F G:α→β→Prop}:∀ {l₁:List α} {l₂:List β},Paired F l₁ l₂→(∀ a b,F a b→G a b)→Paired G l₁ l₂
 | _,_,.nil,_=>.nil
 | _,_,.cons r t,f=>.cons (f _ _ r) (Paired.mapP t f)
theorem ObjOk.stay (x:ObjOk P w H h a o) (k:∀ b u,(b=a∨H b=some (.own a))→h.get? b=some u→h'.get? b=some u)
  (ho:∀ b,H b=some (.own a)→H' b=some (.own a)) (ht:∀ b xs,H b=some (.tup xs)→H' b=some (.tup xs)):ObjOk P w H' h' a o:=by
 induction o with
 | lst xs=>obtain ⟨z,its,n,r,e⟩:=x; exact ⟨z,its,n,r,k _ _ (.inl rfl) e⟩
 | tup xs=>obtain ⟨z,its,r,ob,e,c⟩:=x; exact ⟨z,its,r,ob,k _ _ (.inl rfl) e,c⟩
 | dK kvs=>obtain ⟨z,y,vs,r,ob,es,ep,e,c⟩:=x; exact ⟨z,y,vs,r,ob,es,ep,k _ _ (.inl rfl) e,c⟩
 | dT kvs =>
  obtain ⟨z,y,xs,r,ob,es,ep,e,c⟩:=x
  exact ⟨z,y,xs,Paired.mapP r fun p q z=>⟨z.1,ht _ _ z.2.1,z.2.2⟩,ob,es,ep,k _ _ (.inl rfl) e,c⟩
 | set S n=>obtain ⟨ob,es,ep,t,e,c⟩:=x; exact ⟨ob,es,ep,t,k _ _ (.inl rfl) e,c⟩
 | ins C dx fs =>
  obtain ⟨d,z,ne,e,mA,⟨od,es,ep,e2,c⟩,r⟩:=x
  exact ⟨ho _ d,z,ne,k _ _ (.inl rfl) e,mA,⟨od,es,ep,k _ _ (.inr d) e2,c⟩,r⟩
 | own y=>obtain ⟨ob,e⟩:=x; exact ⟨ob,k _ _ (.inl rfl) e⟩
 | xd fs=>obtain ⟨mA,⟨od,es,ep,e,c⟩,r⟩:=x; exact ⟨mA,⟨od,es,ep,k _ _ (.inl rfl) e,c⟩,r⟩
 | rng lo hi=>obtain ⟨t,u,v,e⟩:=x; exact ⟨t,u,v,k _ _ (.inl rfl) e⟩
 | frz ob u ih=>obtain ⟨e,q⟩:=x; exact ⟨k _ _ (.inl rfl) e,ih q⟩
 | tbl ps =>
  have e:h.get? a=some { cls:=.none,data:=.fields ps }:=x
  show h'.get? a=some { cls:=.none,data:=.fields ps }
  exact k a _ (.inl rfl) e
 | met f y =>
  have e:h.get? a=some (PySem.W.methodObj (.ref f) (.ref y)):=x
  show h'.get? a=some (PySem.W.methodObj (.ref f) (.ref y))
  exact k a _ (.inl rfl) e
 | ext φ=>obtain ⟨p,⟨o,e⟩,st⟩:=x; exact ⟨st _ _ p fun o q=>k _ _ (.inl rfl) q,⟨o,k _ _ (.inl rfl) e⟩,st⟩
theorem HOk.lt (x:HOk P w H h) (e:H a=some o):a<h.objs.size:=(x a o e).lt
theorem HOk.fresh (x:HOk P w H h) (e:h.objs.size≤a):H a=none:=by
 cases q:H a with
 | none=>rfl
 | some u=>exact absurd (Nat.lt_of_lt_of_le (x.lt q) e) (Nat.lt_irrefl _)
theorem HOk.kept (x:HOk P w H h) (k:∀ b u,h.get? b=some u→h'.get? b=some u):HOk P w H h':=fun a o e =>
 (x a o e).stay (fun b u _ q=>k b u q) (fun _ q=>q) fun _ _ q=>q
theorem HOk.laid (x:HOk P w H h) (k:∀ b u,h.get? b=some u→h'.get? b=some u) (hp:h.objs.size≤a) (new:ObjOk P w (upd H a o) h' a o):HOk P w (upd H a o) h':=fun b u e=>by
 have hn:=x.fresh hp
 by_cases hb:b=a
 ·subst hb; rw [upd_same] at e; cases e; exact new
 ·rw [upd_ne hb] at e
  exact (x b u e).stay (fun c v _ q=>k c v q) (fun c q=>by rw [upd_ne (ne_of_none q hn)]; exact q) fun c xs q=>by rw [upd_ne (ne_of_none q hn)]; exact q
end
def Rd (H:Hp) (a:Addr) (u:HO):Prop:=H a=some u∨∃ o,H a=some (.frz o u)
theorem Rd.ok {P:Program} {w:World} {H:Hp} {h:Heap} {a:Addr} {u:HO} (r:Rd H a u) (x:HOk P w H h):ObjOk P w H h a u:=by
 rcases r with r | ⟨o,r⟩
 ·exact x a u r
 ·obtain ⟨_,q⟩:=x a _ r
  exact q
def Mut:Option HO→Prop
 | some (.lst _)=>True
 | some (.dK _)=>True
 | some (.dT _)=>True
 | some (.set _ _)=>True
 | some (.ins _ _ _)=>True
 | some (.ext _)=>True
 | _=>False
section
variable {P:Program} {w:World} {H:Hp} {h h':Heap} {x e:Addr} {o':HO}
theorem HOk.write (ok:HOk P w H h) (mu:Mut (H x)) (he:e=x∨H e=some (.own x)) (k:∀ b u,b≠e→h.get? b=some u→h'.get? b=some u) (heo:∃ u,h'.get? e=some u)
    (new:ObjOk P w (upd H x o') h' x o'):HOk P w (upd H x o') h':=fun b u q=>by
  have nown:∀ c y,H c=some (.own y)→c≠x:=fun c y r z=>by subst z; rw [r] at mu; exact mu
  have ntup:∀ c xs,H c=some (.tup xs)→c≠x:=fun c xs r z=>by subst z; rw [r] at mu; exact mu
  by_cases hb:b=x
  · subst hb; rw [upd_same] at q; cases q; exact new
  · rw [upd_ne hb] at q
    by_cases hbe:b=e
    · have q':H b=some (.own x):=by
        rcases he with z | z
        · exact absurd (hbe.trans z) hb
        · rw [hbe]; exact z
      rw [q] at q'; cases q'
      obtain ⟨v,hv⟩:=heo
      exact ⟨v,by rw [hbe]; exact hv⟩
    · refine (ok b u q).stay (fun c v hc r=>k c v ?_ r) (fun c r=>by rw [upd_ne (nown c b r)]; exact r) fun c xs r=>by rw [upd_ne (ntup c xs r)]; exact r
      rcases hc with rfl | hc
      · exact hbe
      · rintro rfl
        rcases he with z | z
        · exact nown c b hc z
        · rw [hc] at z; cases z; exact hb rfl
end
structure Un (fs ex:List Addr) (H H':Hp) (h h':Heap):Prop where
 keep:∀ b o,h.get? b=some o→H b=none→b∉fs→b∉ex→h'.get? b=some o
 slot:∀ b o,h.get? b=some o→H b=none→b∈fs→b∉ex→∃ sl,h'.get? b=some { o with slots:=sl }
 free:∀ b o,h.get? b=some o→H b=none→b∉ex→H' b=none
 there:∀ b o,h.get? b=some o→b∉ex→∃ o',h'.get? b=some o'
 tups:∀ b xs,H b=some (.tup xs)→H' b=some (.tup xs)
 frzs:∀ b o u,H b=some (.frz o u)→H' b=some (.frz o u)
 tbls:∀ b ps,H b=some (.tbl ps)→∃ more,H' b=some (.tbl (ps++more))
section
variable {fs fs' ex ex':List Addr} {H H1 H2:Hp} {h h1 h2 h':Heap} {a x e:Addr} {o:HO}
theorem Un.any (u:Un fs ex H H1 h h1) {b:Addr} {ob:Obj} (q:h.get? b=some ob) (n:H b=none) (hx:b∉ex):∃ sl,h1.get? b=some { ob with slots:=sl }:=by
 by_cases hb:b∈fs
 ·exact u.slot b ob q n hb hx
 ·exact ⟨ob.slots,u.keep b ob q n hb hx⟩
theorem Un.kept (k:∀ b u,h.get? b=some u→h'.get? b=some u):Un fs ex H H h h' :=
 ⟨fun b ob q _ _ _=>k b ob q,fun b ob q _ _ _=>⟨ob.slots,k b ob q⟩,fun _ _ _ n _=>n,fun b ob q _=>⟨ob,k b ob q⟩,fun _ _ q=>q,fun _ _ _ q=>q,fun _ ps q=>⟨#[],by rw [q]; simp⟩⟩
theorem Un.refl:Un fs ex H H h h:=Un.kept fun _ _ q=>q
theorem Un.laid (k:∀ b u,h.get? b=some u→h'.get? b=some u) (hp:h.objs.size≤a) (hn:H a=none):Un fs ex H (upd H a o) h h' where
 keep:=fun b u q _ _ _=>k b u q
 slot:=fun b u q _ _ _=>⟨u.slots,k b u q⟩
 free:=fun b u q n _=>by rw [upd_ne (Nat.ne_of_lt (Nat.lt_of_lt_of_le (Heap.lt_size q) hp))]; exact n
 there:=fun b u q _=>⟨u,k b u q⟩
 tups:=fun b xs q=>by rw [upd_ne (ne_of_none q hn)]; exact q
 frzs:=fun b u xs q=>by rw [upd_ne (ne_of_none q hn)]; exact q
 tbls:=fun b ps q=>⟨#[],by rw [upd_ne (ne_of_none q hn),q]; simp⟩
theorem Un.write (mu:Mut (H x)) (he:e=x∨H e=some (.own x)) (k:∀ b u,b≠e→h.get? b=some u→h'.get? b=some u) (heo:∃ u,h'.get? e=some u):Un fs ex H (upd H x o) h h':=by
 have hx:∀ b,H b=none→b≠x:=fun b n z=>by subst z; rw [n] at mu; exact mu
 have hb:∀ b,H b=none→b≠e:=fun b n z=>by
  subst z
  rcases he with r | r
  ·exact hx b n r
  ·rw [n] at r; cases r
 have hm:∀ b u,H b=some u→¬ Mut (some u)→b≠x:=fun b u q nm z=>by subst z; rw [q] at mu; exact nm mu
 refine ⟨fun b u q n _ _=>k b u (hb b n) q,fun b u q n _ _=>⟨u.slots,k b u (hb b n) q⟩,fun b u q n _=>by rw [upd_ne (hx b n)]; exact n,fun b u q _=>?_,
  fun b xs q=>by rw [upd_ne (hm b _ q fun z=>z)]; exact q,fun b u xs q=>by rw [upd_ne (hm b _ q fun z=>z)]; exact q,fun b ps q=>⟨#[],by rw [upd_ne (hm b _ q fun z=>z),q]; simp⟩⟩
 by_cases hbe:b=e
 ·subst hbe; exact heo
 ·exact ⟨u,k b u hbe q⟩
end
def trk (h:Heap) (H:Hp):List Addr:=(List.range h.objs.size).filter fun a=>(H a).isSome
def hidT (h:Heap) (H:Hp):Heap:=PySem.W.hideAll h (trk h H)
theorem hidT_size (h:Heap) (H:Hp):(hidT h H).objs.size=h.objs.size:=PySem.W.hideAll_size _ _
theorem hidT_get {h:Heap} {H:Hp} {b:Addr} {o:Obj} (e:h.get? b=some o) (n:H b=none):(hidT h H).get? b=some o :=
 PySem.W.hideAll_get _ e fun hm=>by
  have q:(H b).isSome=true:=(List.mem_filter.mp hm).2
  rw [n] at q; simp at q
theorem of_hidT {h:Heap} {H:Hp} {b:Addr} {o:Obj} (e:(hidT h H).get? b=some o):h.get? b=some o∧H b=none:=by
 have e':h.get? b=some o:=PySem.W.of_hideAll (trk h H) e
 refine ⟨e',?_⟩
 cases q:H b with
 | none=>rfl
 | some x =>
  have hm:b∈trk h H:=List.mem_filter.mpr ⟨List.mem_range.mpr (Heap.lt_size e'),by simp [q]⟩
  have z:(hidT h H).get? b=none:=PySem.W.hideAll_none (trk h H) hm
  rw [z] at e; cases e
def allNews (g h:Heap) (L:Addr):List (Addr×Obj):=(List.range h.objs.size).filterMap fun a=>if a=L∨(g.get? a).isSome=true then none else (h.get? a).map fun o=>(a,o)
def rest (g h:Heap) (L d:Addr):List (Addr×Obj):=(allNews g h L).filter fun p=>decide (p.1≠d)
end L2
namespace L2
open PySem PySem.Spec PyProof.Rows
structure Mod (K:PySem.W.Frag) (mg:Str→Option Value) (base:Heap):Prop where
 kin:K.In base
 glob:base.Ns mainGlobals mg
 blt:∃ mb,base.Ns builtinsNs mb∧∀ x:Str,x≠"__name__"→mb x=bootBuiltins x
 nolimit:base.NoLimit
structure Cx where
 prog:Program
 w:World
 K:PySem.W.Frag
 mg:Str→Option Value
 base:Heap
 A:Around
 N:List Str
 s₀:Shared
 H₀:Hp
 env:Env
 outer:List Env
 stack:List Env
 ex:List Addr
 fn:Str→Bool
 calm:Bool
 pn:List (Addr×Obj)
 xe:Value→Shared→Prop
def frs (l:List Env):List Addr:=l.filterMap (·.frame)
abbrev Cx.fs (X:Cx):List Addr:=frs X.outer
def Vis (sc:Scope) (x:Str):Prop:=sc.names.lookup x=some .local∨sc.names.lookup x=some .cell∨sc.names.lookup x=some .free
def Loc (sc:Scope) (x:Str):Prop:=sc.names.lookup x=some .local∨sc.names.lookup x=some .cell
def Look (env:Env) (h:Heap) (m:Str→Option Value) (x:Str) (u:Value):Prop :=
 (env.kindOf x=some .local∧m x=some u)∨((env.kindOf x=some .cell∨env.kindOf x=some .free)∧∃ c,env.cells.lookup x=some c∧h.IsCell c (some u))
structure Cx.Ok (X:Cx):Prop where
 mod:Mod X.K X.mg X.base
 kind:X.env.scope.kind=.function
 glob:X.env.globals=mainGlobals
 blt:X.env.builtins=builtinsNs
 above:X.s₀.heap.objs.size≤X.env.locals
 inj:∀ x y c,X.env.cells.lookup x=some c→X.env.cells.lookup y=some c→x=y
 has:∀ x,(X.env.kindOf x=some .cell∨X.env.kindOf x=some .free)→∃ c,X.env.cells.lookup x=some c
 cab:∀ x c,X.fn x=true→X.env.cells.lookup x=some c→X.s₀.heap.objs.size≤c
 hd:X.calm=true→X.A.handled=none
 frames:X.A.frames=some X.stack
 stk:X.stack=X.outer∨(X.stack=X.env::X.outer∧X.env.frame=some X.env.locals)
 exf:∀ b∈X.ex,b≠X.env.locals∧∀ x c,X.env.cells.lookup x=some c→c≠b
 bs:∀ b o,X.base.get? b=some o→X.s₀.heap.get? b=some o∧X.H₀ b=none
 bsz:X.base.objs.size≤X.s₀.heap.objs.size
 noex:∀ b o,X.base.get? b=some o→b∉X.ex
 exfs:∀ b∈X.ex,b∉X.fs
 funs:X.s₀.heap.FunFrames X.base X.outer
 frf:∀ b∈X.fs,X.H₀ b=none
structure Inv (X:Cx) (pins:List (Addr×Obj)) (σ:List (Option V)) (H:Hp) (s:Shared):Prop where
 ok:X.Ok
 os:s.os=X.s₀.os
 bare:AllBare s.gens
 base:Un X.fs X.ex X.H₀ H X.s₀.heap s.heap
 loc:∃ m,s.heap.Ns X.env.locals m∧∀ (i:Nat) (x:Str) (v:V),X.N[i]?=some x→σ[i]?=some (some v)→Vis X.env.scope x→∃ u,RelV v u∧Look X.env s.heap m x u
 cell:∀ x c,X.env.cells.lookup x=some c→∃ v,s.heap.IsCell c v
 free:H X.env.locals=none
 freeC:∀ x c,X.env.cells.lookup x=some c→H c=none
 pin:∀ p∈X.pn++pins,s.heap.get? p.1=some p.2∧H p.1=none∧p.1≠X.env.locals∧p.1∉X.fs∧∀ v,p.2.data≠.cell v
 hok:HOk X.prog X.w H s.heap
 len:σ.length=X.N.length
section
variable {X:Cx} {pins:List (Addr×Obj)} {σ:List (Option V)} {H H':Hp} {s:Shared} {h':Heap}
theorem Cx.Ok.nofr (ok:X.Ok) {b:Addr} {o:Obj} (e:X.base.get? b=some o):b∉X.fs:=fun hb=>by
 have:=(ok.funs.mem hb).1
 rw [e] at this; cases this
theorem Inv.bs (I:Inv X pins σ H s):∀ b o,X.base.get? b=some o→s.heap.get? b=some o∧H b=none:=fun b o e =>
 ⟨I.base.keep b o (I.ok.bs b o e).1 (I.ok.bs b o e).2 (I.ok.nofr e) (I.ok.noex b o e),I.base.free b o (I.ok.bs b o e).1 (I.ok.bs b o e).2 (I.ok.noex b o e)⟩
theorem Inv.bk (I:Inv X pins σ H s):∀ b o,X.base.get? b=some o→s.heap.get? b=some o:=fun b o e=>(I.bs b o e).1
theorem Inv.mod (I:Inv X pins σ H s):Mod X.K X.mg X.base:=I.ok.mod
theorem Inv.kIn (I:Inv X pins σ H s):X.K.In s.heap:=I.ok.mod.kin.keeps I.bk
theorem Inv.lt (I:Inv X pins σ H s):X.env.locals<s.heap.objs.size:=let ⟨_,hn,_⟩:=I.loc; hn.lt
theorem Inv.sz (I:Inv X pins σ H s):X.s₀.heap.objs.size≤s.heap.objs.size:=Nat.le_trans I.ok.above (Nat.le_of_lt I.lt)
theorem Inv.nofs (I:Inv X pins σ H s) {a:Addr} (h:s.heap.objs.size≤a):a∉X.fs:=fun hb=>by
 obtain ⟨_,o,ho,_⟩:=I.ok.funs.mem hb
 exact absurd (Nat.lt_of_lt_of_le (Heap.lt_size ho) (Nat.le_trans I.sz h)) (Nat.lt_irrefl _)
theorem Inv.cne (I:Inv X pins σ H s):∀ x c,X.env.cells.lookup x=some c→c≠X.env.locals:=fun x c e z=>by
 obtain ⟨v,o,ho,hd⟩:=I.cell x c e
 obtain ⟨m,⟨o',es,ep,ho',hd',_⟩,_⟩:=I.loc
 rw [z,ho'] at ho; cases ho; rw [hd'] at hd; cases hd
theorem Inv.funs (I:Inv X pins σ H s):s.heap.FunFrames X.base X.outer:=by
 have all:∀ (l:List Env),(∀ b∈frs l,b∈X.fs)→X.s₀.heap.FunFrames X.base l→s.heap.FunFrames X.base l:=by
  intro l
  induction l with
  | nil => intro _ _; trivial
  | cons env r ih =>
   intro hs hl
   obtain ⟨hk,⟨L,o,hf,hn,ho,hd⟩,hr⟩:=hl
   have hL:L∈X.fs:=hs L (by unfold frs; rw [List.filterMap_cons,hf]; exact List.mem_cons_self)
   obtain ⟨sl,e⟩:=I.base.slot L o ho (I.ok.frf L hL) hL fun z=>I.ok.exfs L z hL
   exact ⟨hk,⟨L,_,hf,hn,e,hd⟩,ih (fun b hb=>hs b (by unfold frs; rw [List.filterMap_cons,hf]; exact List.mem_cons_of_mem _ hb)) hr⟩
 exact all X.outer (fun _ hb=>hb) I.ok.funs
theorem Inv.stack (I:Inv X pins σ H s):s.heap.FunFrames X.base X.stack:=by
 rcases I.ok.stk with e | ⟨e,hf⟩
 ·rw [e]; exact I.funs
 ·rw [e]
  obtain ⟨m,hn,_⟩:=I.loc
  refine .cons (by rw [I.ok.kind]; decide) hf hn ?_ I.funs
  exact Heap.get?_none_of_le (Nat.le_trans I.ok.bsz I.ok.above)
theorem Inv.stkSub (I:Inv X pins σ H s):∀ b∈frs X.stack,b∈X.env.locals::X.fs:=fun b hb=>by
 rcases I.ok.stk with e | ⟨e,hf⟩
 ·rw [e] at hb; exact List.mem_cons_of_mem _ hb
 ·rw [e] at hb
  unfold frs at hb
  rw [List.filterMap_cons,hf] at hb
  exact hb
theorem Inv.stkFree (I:Inv X pins σ H s):∀ b∈frs X.stack,H b=none:=fun b hb=>by
 rcases List.mem_cons.mp (I.stkSub b hb) with e | hb
 ·rw [e]; exact I.free
 ·obtain ⟨_,o,ho,_⟩:=I.ok.funs.mem hb
  exact I.base.free b o ho (I.ok.frf b hb) fun z=>I.ok.exfs b z hb
theorem Inv.step {g':Array GenState} {t':Nat} {d':Drawn} {ch:List Addr} (I:Inv X pins σ H s)
  (hch:∀ b∈ch,(b∈X.ex∨X.s₀.heap.objs.size≤b)∧b≠X.env.locals∧(∀ x c,X.env.cells.lookup x=some c→c≠b)∧∀ p∈X.pn++pins,p.1≠b)
  (keep:∀ b o,b≠X.env.locals→b∉X.fs→b∉ch→s.heap.get? b=some o→H b=none→h'.get? b=some o)
  (slot:∀ b o,b≠X.env.locals→b∈X.fs→b∉ch→s.heap.get? b=some o→H b=none→∃ sl,h'.get? b=some { o with slots:=sl }) (free:∀ b o,b∉ch→s.heap.get? b=some o→H b=none→H' b=none)
  (there:∀ b o,b∉ch→s.heap.get? b=some o→∃ o',h'.get? b=some o')
  (tups:∀ b xs,H b=some (.tup xs)→H' b=some (.tup xs)) (frzs:∀ b o u,H b=some (.frz o u)→H' b=some (.frz o u)) (tbls:∀ b ps,H b=some (.tbl ps)→∃ more,H' b=some (.tbl (ps++more)))
  (ns:∀ m,s.heap.Ns X.env.locals m→h'.Ns X.env.locals m) (hok:HOk X.prog X.w H' h') (hg:AllBare g') :
  Inv X pins σ H' { s with heap:=h',gens:=g',drawn:=d',toks:=t' }:=by
 have neL:∀ b o,X.s₀.heap.get? b=some o→b≠X.env.locals:=fun b o e=>Nat.ne_of_lt (Nat.lt_of_lt_of_le (Heap.lt_size e) I.ok.above)
 have neC:∀ b o,X.s₀.heap.get? b=some o→b∉X.ex→b∉ch:=fun b o e hx hb=>by
  rcases (hch b hb).1 with z | z
  ·exact hx z
  ·exact absurd (Nat.lt_of_lt_of_le (Heap.lt_size e) z) (Nat.lt_irrefl _)
 have cellK:∀ x c,X.env.cells.lookup x=some c→∀ v,s.heap.IsCell c v→h'.IsCell c v:=fun x c e v ⟨o,ho,hd⟩=>by
  have nch:c∉ch:=fun z=>(hch c z).2.2.1 x c e rfl
  by_cases hc:c∈X.fs
  ·obtain ⟨sl,q⟩:=slot c o (I.cne x c e) hc nch ho (I.freeC x c e)
   exact ⟨_,q,hd⟩
  ·exact ⟨o,keep c o (I.cne x c e) hc nch ho (I.freeC x c e),hd⟩
 refine ⟨I.ok,I.os,hg,⟨fun b o e n hb hx=>?_,fun b o e n hb hx=>?_,fun b o e n hx=>?_,fun b o e hx=>?_,fun b xs e=>tups b xs (I.base.tups b xs e),fun b o xs e=>frzs b o xs (I.base.frzs b o xs e),fun b ps e=>?_⟩,?_,fun x c e=>?_,?_,fun x c e=>?_,fun p hp=>?_,hok,I.len⟩
 ·exact keep b o (neL b o e) hb (neC b o e hx) (I.base.keep b o e n hb hx) (I.base.free b o e n hx)
 ·obtain ⟨sl,e1⟩:=I.base.slot b o e n hb hx
  obtain ⟨sl',e2⟩:=slot b _ (neL b o e) hb (neC b o e hx) e1 (I.base.free b o e n hx)
  exact ⟨sl',e2⟩
 ·obtain ⟨o',e1⟩:=I.base.there b o e hx
  exact free b o' (neC b o e hx) e1 (I.base.free b o e n hx)
 ·obtain ⟨o',e1⟩:=I.base.there b o e hx
  exact there b o' (neC b o e hx) e1
 ·obtain ⟨m1,e1⟩:=I.base.tbls b ps e
  obtain ⟨m2,e2⟩:=tbls b _ e1
  exact ⟨m1++m2,by rw [e2,Array.append_assoc]⟩
 ·obtain ⟨m,hn,hl⟩:=I.loc
  refine ⟨m,ns m hn,fun i x v e1 e2 e3=>?_⟩
  obtain ⟨u,r,l⟩:=hl i x v e1 e2 e3
  refine ⟨u,r,?_⟩
  rcases l with l | ⟨k,c,e,z⟩
  ·exact .inl l
  ·exact .inr ⟨k,c,e,cellK x c e _ z⟩
 ·obtain ⟨v,z⟩:=I.cell x c e
  exact ⟨v,cellK x c e v z⟩
 ·obtain ⟨m,⟨o,_,_,ho,_⟩,_⟩:=I.loc
  exact free _ o (fun z=>(hch _ z).2.1 rfl) ho I.free
 ·obtain ⟨v,o,ho,hd⟩:=I.cell x c e
  exact free c o (fun z=>(hch c z).2.2.1 x c e rfl) ho (I.freeC x c e)
 ·obtain ⟨e,n,ne,nf,d⟩:=I.pin p hp
  have nch:p.1∉ch:=fun z=>(hch p.1 z).2.2.2 p hp rfl
  exact ⟨keep p.1 p.2 ne nf nch e n,free p.1 p.2 nch e n,ne,nf,d⟩
theorem Inv.un {t':Nat} (I:Inv X pins σ H s) (u:Un X.fs [] H H' s.heap h') (hok:HOk X.prog X.w H' h'):Inv X pins σ H' { s with heap:=h',toks:=t' }:=by
 obtain ⟨m,⟨o,es,ep,ho,r⟩,_⟩:=id I.loc
 obtain ⟨sl,hL⟩:=u.any ho I.free (by simp)
 exact I.step (g':=s.gens) (d':=s.drawn) (ch:=[]) (fun _ z=>nomatch z) (fun b o _ hb _ e n=>u.keep b o e n hb (by simp)) (fun b o _ hb _ e n=>u.slot b o e n hb (by simp)) (fun b o _ e n=>u.free b o e n (by simp)) (fun b o _ e=>u.there b o e (by simp)) u.tups u.frzs u.tbls (fun m' hm=>by
  obtain ⟨o',es',ep',ho',r'⟩:=hm
  rw [ho] at ho'; cases ho'
  exact ⟨_,es',ep',hL,r'⟩) hok I.bare
theorem Inv.call {g':Array GenState} {t':Nat} {d':Drawn} {ch:List Addr} (I:Inv X pins σ H s) (u:Un (frs X.stack) ch H H' s.heap h') (hok:HOk X.prog X.w H' h') (hg:AllBare g')
  (hch:∀ b∈ch,(b∈X.ex∨X.s₀.heap.objs.size≤b)∧b≠X.env.locals∧(∀ x c,X.env.cells.lookup x=some c→c≠b)∧∀ p∈X.pn++pins,p.1≠b) :
  Inv X pins σ H' { s with heap:=h',gens:=g',drawn:=d',toks:=t' }:=by
 obtain ⟨m,⟨o,es,ep,ho,r⟩,_⟩:=id I.loc
 obtain ⟨sl,hL⟩:=u.any ho I.free fun z=>(hch _ z).2.1 rfl
 exact I.step (ch:=ch) hch (fun b o hL hb hc e n=>u.keep b o e n (fun z=>(List.mem_cons.mp (I.stkSub b z)).elim hL hb) hc) (fun b o _ _ hc e n=>u.any e n hc) (fun b o hc e n=>u.free b o e n hc) (fun b o hc e=>u.there b o e hc) u.tups u.frzs u.tbls (fun m' hm=>by
  obtain ⟨o',es',ep',ho',r'⟩:=hm
  rw [ho] at ho'; cases ho'
  exact ⟨_,es',ep',hL,r'⟩) hok hg
theorem Inv.turned {t':Nat} {it:Addr} (I:Inv X pins σ H s) (k:∀ b o,b≠it→s.heap.get? b=some o→h'.get? b=some o) (hn:H it=none) (hL:it≠X.env.locals)
  (h1:it∈X.ex∨X.s₀.heap.objs.size≤it) (h2:∀ x c,X.env.cells.lookup x=some c→c≠it) (h3:∀ p∈X.pn++pins,p.1≠it):Inv X pins σ H { s with heap:=h',toks:=t' }:=by
 have nit:∀ b u,H b=some u→b≠it:=fun b u e z=>by rw [z,hn] at e; cases e
 refine I.step (g':=s.gens) (d':=s.drawn) (ch:=[it]) (fun b hb=>?_) (fun b o _ _ hc e _=>k b o (fun z=>hc (by simp [z])) e) (fun b o _ _ hc e _=>⟨o.slots,k b o (fun z=>hc (by simp [z])) e⟩) (fun _ _ _ _ n=>n)
  (fun b o hc e=>⟨o,k b o (fun z=>hc (by simp [z])) e⟩) (fun _ _ e=>e) (fun _ _ _ e=>e) (fun b ps e=>⟨#[],by rw [e]; simp⟩) (fun m hm=>?_) (fun b u e=>?_) I.bare
 ·have e:b=it:=by simpa using hb
  subst e
  exact ⟨h1,hL,h2,h3⟩
 ·obtain ⟨o,es,ep,ho,r⟩:=hm
  exact ⟨o,es,ep,k _ o (Ne.symm hL) ho,r⟩
 ·refine (I.hok b u e).stay (fun c v hc q=>k c v ?_ q) (fun _ q=>q) fun _ _ q=>q
  rcases hc with z | z
  ·rw [z]; exact nit b u e
  ·exact nit c _ z
theorem Inv.tok (I:Inv X pins σ H s) (t:Nat):Inv X pins σ H { s with toks:=t }:=I.un (h':=s.heap) (t':=t) Un.refl I.hok
theorem Inv.kept {t':Nat} (I:Inv X pins σ H s) (k:∀ b u,s.heap.get? b=some u→h'.get? b=some u):Inv X pins σ H { s with heap:=h',toks:=t' }:=I.un (Un.kept k) (I.hok.kept k)
theorem Inv.laid {a:Addr} {o:HO} {t':Nat} (I:Inv X pins σ H s) (k:∀ b u,s.heap.get? b=some u→h'.get? b=some u) (hp:s.heap.objs.size≤a) (new:ObjOk X.prog X.w (upd H a o) h' a o) :
  Inv X pins σ (upd H a o) { s with heap:=h',toks:=t' }:=I.un (Un.laid k hp (I.hok.fresh hp)) (I.hok.laid k hp new)
theorem Inv.write {x e:Addr} {o:HO} {t':Nat} (I:Inv X pins σ H s) (mu:Mut (H x)) (he:e=x∨H e=some (.own x)) (k:∀ b u,b≠e→s.heap.get? b=some u→h'.get? b=some u) (heo:∃ u,h'.get? e=some u)
  (new:ObjOk X.prog X.w (upd H x o) h' x o):Inv X pins σ (upd H x o) { s with heap:=h',toks:=t' }:=I.un (Un.write mu he k heo) (I.hok.write mu he k heo new)
theorem Inv.pins_of {pins':List (Addr×Obj)} (I:Inv X pins σ H s) (h:∀ p∈pins',s.heap.get? p.1=some p.2∧H p.1=none∧p.1≠X.env.locals∧p.1∉X.fs∧∀ v,p.2.data≠.cell v):Inv X pins' σ H s :=
 ⟨I.ok,I.os,I.bare,I.base,I.loc,I.cell,I.free,I.freeC,fun p hp=>(List.mem_append.mp hp).elim (fun z=>I.pin p (List.mem_append_left _ z)) (h p),I.hok,I.len⟩
theorem nodup_ix {N:List Str} (hN:N.Nodup) {i j:Nat} {x:Str} (a:N[i]?=some x) (b:N[j]?=some x):i=j:=by
 obtain ⟨h1,e1⟩:=List.getElem?_eq_some_iff.mp a
 obtain ⟨h2,e2⟩:=List.getElem?_eq_some_iff.mp b
 exact (List.getElem_inj hN).mp (e1.trans e2.symm)
theorem store_ok2 {M:Model} {A:Around} {E:Value→Shared→Prop} {i:Nat} {x:Str} {v:V} {u:Value} {Q:Unit→Shared→Prop} (I:Inv X pins σ H s) (hN:X.N.Nodup) (hi:X.N[i]?=some x) (hx:Loc X.env.scope x) (r:RelV v u)
    (h:∀ s',Inv X pins (σ.set i (some v)) H s'→(∃ a,Heap.SameBut a s.heap s'.heap∧(a=X.env.locals∨X.env.cells.lookup x=some a))→Q () s') (hf:X.fn x=true∨X.env.scope.names.lookup x=some .local:=by first | exact .inl rfl | exact .inr rfl | assumption):wpAny M A (storeName X.env x u) Q E s:=by
  obtain ⟨m,hn,hl⟩:=id I.loc
  have hcls:(X.env.scope.kind==.class||(X.env.scope.kind==.module&&X.env.locals != X.env.globals))=false:=by rw [I.ok.kind]; rfl
  have hiσ:i<σ.length:=by rw [I.len]; exact (List.getElem?_eq_some_iff.mp hi).1
  have cne:=I.cne
  have tracked:∀ {a:Addr} {h':Heap},(∃ o,s.heap.get? a=some o∧H a=none)→Heap.SameBut a s.heap h'→HOk X.prog X.w H h':=fun {a h'} ha hs b ob e=>by
    obtain ⟨_,_,hfree⟩:=ha
    refine (I.hok b ob e).stay (fun c w' hc q=>(hs.2 c ?_).trans q) (fun _ q=>q) fun _ _ q=>q
    rintro rfl
    rcases hc with rfl | hc
    · rw [hfree] at e; cases e
    · rw [hfree] at hc; cases hc
  rcases hx with hk | hk
  · refine wpAny_storeName_local hk hn (fun h' hn' hs=>?_) hcls
    obtain ⟨oL,_,_,hoL,_⟩:=id hn
    refine h _ ⟨I.ok,I.os,I.bare,⟨fun b o e n hb hx=>?_,fun b o e n hb hx=>?_,I.base.free,fun b o e hx=>?_,I.base.tups,I.base.frzs,I.base.tbls⟩,⟨_,hn',fun j y v' e1 e2 e3=>?_⟩,fun y c e=>?_,I.free,I.freeC,fun p hp=>?_,tracked ⟨oL,hoL,I.free⟩ hs,by simpa using I.len⟩ ⟨_,hs,.inl rfl⟩
    · exact (hs.2 b (Nat.ne_of_lt (Nat.lt_of_lt_of_le (Heap.lt_size e) I.ok.above))).trans (I.base.keep b o e n hb hx)
    · obtain ⟨sl,e1⟩:=I.base.slot b o e n hb hx
      exact ⟨sl,(hs.2 b (Nat.ne_of_lt (Nat.lt_of_lt_of_le (Heap.lt_size e) I.ok.above))).trans e1⟩
    · obtain ⟨o',e1⟩:=I.base.there b o e hx
      exact ⟨o',(hs.2 b (Nat.ne_of_lt (Nat.lt_of_lt_of_le (Heap.lt_size e) I.ok.above))).trans e1⟩
    · by_cases hj:j=i
      · subst hj
        rw [hi] at e1; cases e1
        rw [List.getElem?_set_self hiσ] at e2
        cases e2
        exact ⟨u,r,.inl ⟨hk,by simp⟩⟩
      · rw [List.getElem?_set_ne (Ne.symm hj)] at e2
        obtain ⟨u',r',q⟩:=hl j y v' e1 e2 e3
        refine ⟨u',r',?_⟩
        rcases q with ⟨k,e⟩ | ⟨k,c,e,z⟩
        · refine .inl ⟨k,?_⟩
          have:y≠x:=fun e=>hj (nodup_ix hN e1 (e ▸ hi))
          simp [this,e]
        · exact .inr ⟨k,c,e,z.sameBut hs (cne y c e)⟩
    · obtain ⟨w',z⟩:=I.cell y c e
      exact ⟨w',z.sameBut hs (cne y c e)⟩
    · obtain ⟨e,n,ne,nf,d⟩:=I.pin p hp
      exact ⟨(hs.2 p.1 ne).trans e,n,ne,nf,d⟩
  · have hfn:X.fn x=true:=by
      rcases hf with z | z
      · exact z
      · rw [z] at hk; cases hk
    obtain ⟨c,hc⟩:=I.ok.has x (.inl hk)
    obtain ⟨w',z⟩:=I.cell x c hc
    refine wpAny_storeName_cell I.ok.kind hk hc z (fun h' hc' hs=>?_)
    obtain ⟨oc,hoc,hocd⟩:=id z
    refine h { s with heap:=h' } ⟨I.ok,I.os,I.bare,⟨fun b o e n hb hx=>?_,fun b o e n hb hx=>?_,I.base.free,fun b o e hx=>?_,I.base.tups,I.base.frzs,I.base.tbls⟩,⟨m,hn.sameBut hs (Ne.symm (cne x c hc)),fun j y v' e1 e2 e3=>?_⟩,fun y c' e=>?_,I.free,I.freeC,fun p hp=>?_,tracked ⟨oc,hoc,I.freeC x c hc⟩ hs,by simpa using I.len⟩ ⟨c,hs,.inr hc⟩
    · exact (hs.2 b (Nat.ne_of_lt (Nat.lt_of_lt_of_le (Heap.lt_size e) (I.ok.cab x c hfn hc)))).trans (I.base.keep b o e n hb hx)
    · obtain ⟨sl,e1⟩:=I.base.slot b o e n hb hx
      exact ⟨sl,(hs.2 b (Nat.ne_of_lt (Nat.lt_of_lt_of_le (Heap.lt_size e) (I.ok.cab x c hfn hc)))).trans e1⟩
    · obtain ⟨o',e1⟩:=I.base.there b o e hx
      exact ⟨o',(hs.2 b (Nat.ne_of_lt (Nat.lt_of_lt_of_le (Heap.lt_size e) (I.ok.cab x c hfn hc)))).trans e1⟩
    · by_cases hj:j=i
      · subst hj
        rw [hi] at e1; cases e1
        rw [List.getElem?_set_self hiσ] at e2
        cases e2
        exact ⟨u,r,.inr ⟨.inl hk,c,hc,hc'⟩⟩
      · rw [List.getElem?_set_ne (Ne.symm hj)] at e2
        obtain ⟨u',r',q⟩:=hl j y v' e1 e2 e3
        refine ⟨u',r',?_⟩
        rcases q with q | ⟨k,c',e,z'⟩
        · exact .inl q
        · refine .inr ⟨k,c',e,z'.sameBut hs ?_⟩
          rintro rfl
          exact hj (nodup_ix hN e1 (I.ok.inj _ _ _ e hc ▸ hi))
    · by_cases hcc:c'=c
      · subst hcc; exact ⟨_,hc'⟩
      · obtain ⟨w2,z2⟩:=I.cell y c' e
        exact ⟨w2,z2.sameBut hs hcc⟩
    · obtain ⟨e,n,ne,nf,d⟩:=I.pin p hp
      refine ⟨(hs.2 p.1 ?_).trans e,n,ne,nf,d⟩
      intro q
      rw [q,hoc] at e
      have q':oc=p.2:=Option.some.inj e
      exact d w' (by rw [← q']; exact hocd)
theorem store_ok {M:Model} {A:Around} {E:Value→Shared→Prop} {i:Nat} {x:Str} {v:V} {u:Value} {Q:Unit→Shared→Prop} (I:Inv X pins σ H s) (hN:X.N.Nodup) (hi:X.N[i]?=some x) (hx:Loc X.env.scope x) (r:RelV v u)
  (h:∀ s',Inv X pins (σ.set i (some v)) H s'→Q () s') (hf:X.fn x=true∨X.env.scope.names.lookup x=some .local:=by first | exact .inl rfl | exact .inr rfl | assumption):wpAny M A (storeName X.env x u) Q E s :=
 store_ok2 I hN hi hx r (fun s' I' _=>h s' I') hf
theorem Inv.call' {s':Shared} {ch:List Addr} (I:Inv X pins σ H s) (ho:s'.os=s.os) (u:Un (frs X.stack) ch H H' s.heap s'.heap) (hok:HOk X.prog X.w H' s'.heap) (hg:AllBare s'.gens)
  (hch:∀ b∈ch,(b∈X.ex∨X.s₀.heap.objs.size≤b)∧b≠X.env.locals∧(∀ x c,X.env.cells.lookup x=some c→c≠b)∧∀ p∈X.pn++pins,p.1≠b):Inv X pins σ H' s':=by
 obtain ⟨h',g',d',t',o'⟩:=s'
 have e:o'=s.os:=ho
 subst e
 exact I.call (g':=g') (t':=t') (d':=d') u hok hg hch
end
abbrev XK:=Value→Option Addr→Hp→Prop
abbrev St:=List (Option V)
abbrev VK:=V→Hp→Prop
abbrev TE:=St→Hp→VK→Prop
abbrev TT:=St→Hp→(Bool→Hp→Prop)→Prop
abbrev TA:=St→Hp→(List V→Hp→Prop)→Prop
structure Ends where
 nx:St→Hp→Prop
 rt:VK
 bk:St→Hp→Prop:=fun _ _=>False
 ct:St→Hp→Prop:=fun _ _=>False
abbrev TS:=Ends→St→Hp→Prop
def EP (X:Cx) (pins:List (Addr×Obj)) (σ:St) (Q:VK) (u:Value) (s':Shared):Prop:=∃ v H',Inv X pins σ H' s'∧RelV v u∧Q v H'
def TP (X:Cx) (pins:List (Addr×Obj)) (σ:St) (Q:Bool→Hp→Prop) (b:Bool) (s':Shared):Prop:=∃ H',Inv X pins σ H' s'∧Q b H'
def AP (X:Cx) (pins:List (Addr×Obj)) (σ:St) (Q:List V→Hp→Prop) (us:List Value) (s':Shared):Prop:=∃ vs H',Inv X pins σ H' s'∧Vals vs us∧Q vs H'
def SP (X:Cx) (pins:List (Addr×Obj)) (D:Ends) (f:Flow) (s':Shared):Prop :=
 match f with
 | .next=>∃ σ' H',Inv X pins σ' H' s'∧D.nx σ' H'
 | .brk=>∃ σ' H',Inv X pins σ' H' s'∧D.bk σ' H'
 | .cont=>∃ σ' H',Inv X pins σ' H' s'∧D.ct σ' H'
 | .ret u=>∃ v σ' H',Inv X pins σ' H' s'∧RelV v u∧D.rt v H'
def PE (X:Cx) (e:Expr) (t:TE):Prop :=
 ∀ (pins:List (Addr×Obj)) (s:Shared) (σ:St) (H:Hp) (Q:VK),Inv X pins σ H s→t σ H Q→wpAny (model X.prog X.w) X.A (eval e X.env) (EP X pins σ Q) X.xe s
def PT (X:Cx) (e:Expr) (t:TT):Prop :=
 ∀ (pins:List (Addr×Obj)) (s:Shared) (σ:St) (H:Hp) (Q:Bool→Hp→Prop),Inv X pins σ H s→t σ H Q→wpAny (model X.prog X.w) X.A (isTrue e X.env (eval e X.env)) (TP X pins σ Q) X.xe s
def PW (X:Cx) (e:Expr) (t:TT):Prop :=
 ∀ (whole:Sem Value) (pins:List (Addr×Obj)) (s:Shared) (σ:St) (H:Hp) (Q:Bool→Hp→Prop),Inv X pins σ H s→t σ H Q→wpAny (model X.prog X.w) X.A (isTrue e X.env whole) (TP X pins σ Q) X.xe s
theorem PW.pt {X:Cx} {e:Expr} {t:TT} (h:PW X e t):PT X e t:=h _
def PA (X:Cx) (es:List Expr) (t:TA):Prop :=
 ∀ (pos:Pos) (pins:List (Addr×Obj)) (s:Shared) (σ:St) (H:Hp) (Q:List V→Hp→Prop),Inv X pins σ H s→t σ H Q→wpAny (model X.prog X.w) X.A (spliced (backTo pos (starEach es X.env))) (AP X pins σ Q) X.xe s
def PS (X:Cx) (st:Stmt) (t:TS):Prop :=
 ∀ (pins:List (Addr×Obj)) (s:Shared) (σ:St) (H:Hp) (D:Ends),Inv X pins σ H s→t D σ H→wpAny (model X.prog X.w) X.A (exec st X.env) (SP X pins D) X.xe s
def PSs (X:Cx) (st:List Stmt) (t:TS):Prop :=
 ∀ (pins:List (Addr×Obj)) (s:Shared) (σ:St) (H:Hp) (D:Ends),Inv X pins σ H s→t D σ H→wpAny (model X.prog X.w) X.A (execs st X.env) (SP X pins D) X.xe s
theorem thn {α:Type} {t:Sem α} {Q Q':α→Shared→Prop} {M:Model} {A:Around} {E:Value→Shared→Prop} {s:Shared} (h:wpAny M A t Q E s) (hQ:∀ a s,Q a s→Q' a s):wpAny M A t Q' E s:=wpAny_mono h hQ fun _ _ x=>x
end L2
namespace L2
open PySem PySem.Spec PyProof.Rows
section
variable {X:Cx}
def tVar (i:Nat):TE:=fun σ H Q=>∃ v,σ[i]?=some (some v)∧Q v H
def tC (v:V):TE:=fun _ H Q=>Q v H
theorem pe_var {i:Nat} {x:Str} {pos:Pos} (hN:X.N[i]?=some x) (hv:Vis X.env.scope x) (hd:(x==("__debug__":Str))=false:=by decide) (hcd:(x==("__classdict__":Str))=false:=by decide):PE X (.Name x pos) (tVar i):=by
 intro pins s σ H Q I h
 obtain ⟨v,e,h⟩:=h
 obtain ⟨m,hn,hl⟩:=I.loc
 obtain ⟨u,r,l⟩:=hl i x v hN e hv
 have fin:EP X pins σ Q u s:=⟨v,H,I,r,h⟩
 rcases l with ⟨hk,hm⟩ | ⟨hk,c,hc,hcell⟩
 ·exact wpAny_Name (wpAny_loadName_local I.ok.kind hk hn hm fin) hd
 ·rcases hk with hk | hk
  ·exact wpAny_Name (wpAny_loadName_cell I.ok.kind hk hc hcell fin) hd
  ·exact wpAny_Name (wpAny_loadName_free I.ok.kind hk hc hcell fin hcd) hd
theorem pe_int {i j pos}:PE X (.Constant (.int i) j pos) (tC (.int i)):=fun _ _ _ H _ I h=>wpAny_Constant_int ⟨.int i,H,I.tok _,⟨_,rfl⟩,h⟩
theorem pe_bl {b j pos}:PE X (.Constant (.bool b) j pos) (tC (.bl b)):=fun _ _ _ H _ I h=>Constant_bool ⟨.bl b,H,I,rfl,h⟩
theorem pe_non {j pos}:PE X (.Constant .none j pos) (tC .non):=fun _ _ _ H _ I h=>Constant_none ⟨.non,H,I,rfl,h⟩
theorem pe_str {x j pos}:PE X (.Constant (.str x) j pos) (tC (.str x)):=fun _ _ _ H _ I h=>Calls.Constant_str ⟨.str x,H,I.tok _,⟨_,rfl⟩,h⟩
def Gl (X:Cx) (x:Str):Prop:=X.env.kindOf x=some .globalImplicit
theorem ld_glob {E:Value→Shared→Prop} {pins:List (Addr×Obj)} {s:Shared} {σ:St} {H:Hp} {x:Str} {u:Value} {pos:Pos} {Q:Value→Shared→Prop} (I:Inv X pins σ H s) (hg:Gl X x) (hm:X.mg x=some u) (h:Q u s)
  (hd:(x==("__debug__":Str))=false:=by decide):wpAny (model X.prog X.w) X.A (eval (.Name x pos) X.env) Q E s :=
 Calls.Name_function_global I.ok.kind hg (Calls.loadGlobal_global (by rw [I.ok.glob]; exact I.mod.glob.keeps I.bk) hm h) hd
theorem ld_blt {E:Value→Shared→Prop} {pins:List (Addr×Obj)} {s:Shared} {σ:St} {H:Hp} {x:Str} {u:Value} {pos:Pos} {Q:Value→Shared→Prop} (I:Inv X pins σ H s) (hg:Gl X x) (hm:X.mg x=none) (hv:bootBuiltins x=some u) (h:Q u s)
  (hn:x≠"__name__":=by decide) (hd:(x==("__debug__":Str))=false:=by decide):wpAny (model X.prog X.w) X.A (eval (.Name x pos) X.env) Q E s:=by
 obtain ⟨mb,h1,h2⟩:=I.mod.blt
 exact Calls.Name_function_global I.ok.kind hg (Calls.loadGlobal_builtin (by rw [I.ok.glob]; exact I.mod.glob.keeps I.bk) hm (by rw [I.ok.blt]; exact h1.keeps I.bk) ((h2 x hn).trans hv) h) hd
theorem pe_glob {x:Str} {v:V} {u:Value} {pos:Pos} (hg:Gl X x) (hm:X.mg x=some u) (r:RelV v u) (hd:(x==("__debug__":Str))=false:=by decide):PE X (.Name x pos) (tC v) :=
 fun _ _ _ H _ I h=>ld_glob I hg hm ⟨v,H,I,r,h⟩ hd
theorem pe_bltn {x:Str} {v:V} {u:Value} {pos:Pos} (hg:Gl X x) (hm:X.mg x=none) (hv:bootBuiltins x=some u) (r:RelV v u) (hn:x≠"__name__":=by decide) (hd:(x==("__debug__":Str))=false:=by decide):PE X (.Name x pos) (tC v) :=
 fun _ _ _ H _ I h=>ld_blt I hg hm hv ⟨v,H,I,r,h⟩ hn hd
variable {a b:Expr} {ta tb:TE} {pos:Pos}
def PC (X:Cx) (op:CmpOp) (a b:Expr) (t:TE):Prop :=
 ∀ (pins:List (Addr×Obj)) (s:Shared) (σ:St) (H:Hp) (Q:VK),Inv X pins σ H s→t σ H Q →
  wpAny (model X.prog X.w) X.A (eval a X.env) (fun v s₁=>wpAny (model X.prog X.w) X.A (eval b X.env) (fun u s₂=>wpAny (model X.prog X.w) X.A (compareOp op v u) (EP X pins σ Q) X.xe s₂) X.xe s₁) X.xe s
def tB (t:TE):TT:=fun σ H Q=>t σ H fun x H1=>∃ c,x=.bl c∧Q c H1
theorem pe_cmp {op:CmpOp} {t:TE} (h:PC X op a b t) (h1:behindInMarks op b=false:=by first | exact nobehind _ (by decide) (by decide) | rfl):PE X (.Compare a [op] [b] pos) t:=fun pins s σ H Q I hw=>wpAny_Compare1 (h pins s σ H Q I hw) h1
theorem pt_cmp {op:CmpOp} {t:TE} (h:PC X op a b t) (h1:behindInMarks op b=false:=by first | exact nobehind _ (by decide) (by decide) | rfl):PT X (.Compare a [op] [b] pos) (tB t):=by
 intro pins s σ H Q I hw
 refine wpAny_isTrue_Compare1 (thn (h pins s σ H _ I hw) fun v s1 h1=>thn h1 fun u s2 h2=>thn h2 fun c s3 ⟨x,H1,I1,r1,q1⟩=>?_) h1
 obtain ⟨d,rfl,q⟩:=q1
 cases r1
 exact wpAny_truthy_bool ⟨H1,I1,q⟩
theorem pt_val {e:Expr} {t:TE} (h:PE X e t) (he:∀ whole,isTrue e X.env whole=(do let v ← whole; standAt e.pos; holding [v] (truthy v)):=by intro _; rfl):PT X e (tB t):=by
 intro pins s σ H Q I hw
 refine isTrue_plain (thn (h pins s σ H _ I hw) fun v s1 ⟨x,H1,I1,r1,q1⟩=>?_) (he _)
 obtain ⟨d,rfl,q⟩:=q1
 cases r1
 exact wpAny_truthy_bool ⟨H1,I1,q⟩
variable {tA tB':TT} {rest:List Expr}
def tAnd (t u:TT):TT:=fun σ H Q=>t σ H fun c H1=>if c=true then u σ H1 Q else Q false H1
def tOr (t u:TT):TT:=fun σ H Q=>t σ H fun c H1=>if c=true then Q true H1 else u σ H1 Q
def tNot (t:TT):TT:=fun σ H Q=>t σ H fun c H1=>Q (!c) H1
theorem pw_and1 (ha:PT X a tA):PW X (.BoolOp .And [a] pos) tA:=by
 intro wh pins s σ H Q I h
 refine isTrue_and (thn (ha pins s σ H Q I h) fun c s1 e=>?_)
 cases c with
 | true=>exact isTrue_and_nil e
 | false=>exact e
theorem pw_or1 (ha:PT X a tA):PW X (.BoolOp .Or [a] pos) tA:=by
 intro wh pins s σ H Q I h
 refine isTrue_or (thn (ha pins s σ H Q I h) fun c s1 e=>?_)
 cases c with
 | false=>exact isTrue_or_nil e
 | true=>exact e
theorem pw_and (ha:PT X a tA) (hb:PW X (.BoolOp .And (b::rest) pos) tB'):PW X (.BoolOp .And (a::b::rest) pos) (tAnd tA tB'):=by
 intro wh pins s σ H Q I h
 refine isTrue_and (thn (ha pins s σ H _ I h) fun c s1 ⟨H1,I1,q1⟩=>?_)
 cases c with
 | true=>exact hb wh pins s1 σ H1 Q I1 q1
 | false=>exact ⟨H1,I1,q1⟩
theorem pw_or (ha:PT X a tA) (hb:PW X (.BoolOp .Or (b::rest) pos) tB'):PW X (.BoolOp .Or (a::b::rest) pos) (tOr tA tB'):=by
 intro wh pins s σ H Q I h
 refine isTrue_or (thn (ha pins s σ H _ I h) fun c s1 ⟨H1,I1,q1⟩=>?_)
 cases c with
 | true=>exact ⟨H1,I1,q1⟩
 | false=>exact hb wh pins s1 σ H1 Q I1 q1
theorem pt_not (ha:PT X a tA):PT X (.UnaryOp .Not a pos) (tNot tA):=by
 intro pins s σ H Q I h
 exact isTrue_not (ha pins s σ H (fun c H1=>Q (!c) H1) I h)
def tAndV (ta tb:TE):TE:=fun σ H Q=>ta σ H fun x H1=>∃ c,x=.bl c∧if c=true then tb σ H1 Q else Q (.bl false) H1
def tNotV (ta:TE):TE:=fun σ H Q=>ta σ H fun x H1=>∃ c,x=.bl c∧Q (.bl (!c)) H1
theorem pe_one {op} {t:TE} (h:PE X a t):PE X (.BoolOp op [a] pos) t:=fun pins s σ H Q I hw=>BoolOp_one (h pins s σ H Q I hw)
theorem pe_and (ha:PE X a ta) (hb:PE X (.BoolOp .And (b::rest) pos) tb):PE X (.BoolOp .And (a::b::rest) pos) (tAndV ta tb):=by
 intro pins s σ H Q I h
 refine BoolOp_and (thn (ha pins s σ H _ I h) fun v s1 ⟨x,H1,I1,r1,q1⟩=>?_)
 obtain ⟨c,rfl,q1⟩:=q1
 cases r1
 refine wpAny_truthy_bool ?_
 cases c with
 | true=>exact hb pins s1 σ H1 Q I1 q1
 | false=>exact ⟨.bl false,H1,I1,rfl,q1⟩
theorem pe_not (ha:PE X a ta):PE X (.UnaryOp .Not a pos) (tNotV ta):=by
 intro pins s σ H Q I h
 refine UnaryOp_ (thn (ha pins s σ H _ I h) fun v s1 ⟨x,H1,I1,r1,q1⟩=>?_)
 obtain ⟨c,rfl,q1⟩:=q1
 cases r1
 exact not_of (wpAny_truthy_bool ⟨.bl (!c),H1,I1,rfl,q1⟩)
def tIf (t:TT) (ta tb:TE):TE:=fun σ H Q=>t σ H fun c H1=>if c=true then ta σ H1 Q else tb σ H1 Q
theorem pe_ifExp {c:Expr} (hc:PT X c tA) (ha:PE X a ta) (hb:PE X b tb):PE X (.IfExp c a b pos) (tIf tA ta tb):=by
 intro pins s σ H Q I h
 refine wpAny_IfExp (thn (hc pins s σ H _ I h) fun d s1 ⟨H1,I1,q1⟩=>?_)
 cases d with
 | true=>exact ha pins s1 σ H1 Q I1 q1
 | false=>exact hb pins s1 σ H1 Q I1 q1
end
end L2
namespace L2
open PySem PySem.Spec PyProof.Rows
def SqL (K:PySem.W.Frag) (H:Hp) (a:Addr) (xs:List V):Prop :=
 Rd H a (.lst xs) ∨
  ∃ (o:Obj) (its:Array Value) (n:Nat),K.lookup a=some o∧o.cls=.type "list"∧o.dict=none∧o.data=.seq its n∧its.size≤sizeLine∧Vals xs its.toList
def SqT (K:PySem.W.Frag) (H:Hp) (a:Addr) (xs:List V):Prop :=
 Rd H a (.tup xs) ∨
  ∃ (o:Obj) (its:Array Value) (n:Nat),K.lookup a=some o∧o.cls=.type "tuple"∧o.data=.seq its n∧its.size≤sizeLine∧Vals xs its.toList
def absV:Value→Option V
 | .none=>some .non
 | .bool b=>some (.bl b)
 | .int i _=>some (.int i)
 | .str x _=>some (.str x)
 | .bytes b _=>some (.byt b)
 | .float b _=>some (.flt b)
 | .ref a=>some (.ref a)
 | .type n=>some (.ty n)
 | _=>none
theorem RelV.abs {x:V} {u:Value} (r:RelV x u):absV u=some x:=by
 cases x with
 | non=>cases r; rfl
 | bl _=>cases r; rfl
 | int _=>obtain ⟨t,rfl⟩:=r; rfl
 | str _=>obtain ⟨t,rfl⟩:=r; rfl
 | byt _=>obtain ⟨t,rfl⟩:=r; rfl
 | flt _=>obtain ⟨t,rfl⟩:=r; rfl
 | ref _=>cases r; rfl
 | ty _=>cases r; rfl
theorem RelV.inj {x y:V} {u:Value} (r:RelV x u) (q:RelV y u):x=y:=Option.some.inj (r.abs.symm.trans q.abs)
theorem Vals.inj:∀ {xs ys:List V} {us:List Value},Vals xs us→Vals ys us→xs=ys
 | _,_,_,.nil,.nil=>rfl
 | _,_,_,.cons r t,.cons r' t'=>by rw [r.inj r',Vals.inj t t']
section
variable {X:Cx} {pins:List (Addr×Obj)} {σ:St} {H:Hp} {s:Shared} {a:Addr} {xs ys:List V}
theorem SqL.of {K:PySem.W.Frag} (h:H a=some (.lst xs)):SqL K H a xs:=.inl (.inl h)
theorem SqT.of {K:PySem.W.Frag} (h:H a=some (.tup xs)):SqT K H a xs:=.inl (.inl h)
theorem Inv.list (I:Inv X pins σ H s) (h:SqL X.K H a xs):∃ its:List Value,Vals xs its∧PlainL s.heap a its.toArray∧xs.length≤sizeLine:=by
 rcases h with h | ⟨o,its,n,hk,hc,hd,hs,hz,r⟩
 ·obtain ⟨z,its,n,r,e⟩:=h.ok I.hok
  exact ⟨its,r,⟨_,n,e,rfl,rfl,rfl⟩,z⟩
 ·refine ⟨its.toList,r,⟨o,n,I.kIn a o hk,hc,hd,by simpa using hs⟩,?_⟩
  have e:=r.length
  simp only [Array.length_toList] at e
  omega
theorem Inv.tuple (I:Inv X pins σ H s) (h:SqT X.K H a xs):∃ its:List Value,Vals xs its∧IsTup s.heap a its.toArray∧xs.length≤sizeLine:=by
 rcases h with h | ⟨o,its,n,hk,hc,hs,hz,r⟩
 ·obtain ⟨z,its,r,p⟩:=h.ok I.hok
  exact ⟨its,r,p,z⟩
 ·refine ⟨its.toList,r,⟨o,I.kIn a o hk,hc,n,by simpa using hs⟩,?_⟩
  have e:=r.length
  simp only [Array.length_toList] at e
  omega
theorem Inv.list_inj (I:Inv X pins σ H s) (h:SqL X.K H a xs) (h':SqL X.K H a ys):xs=ys:=by
 obtain ⟨its,r,⟨o,n,e,_,_,d⟩,_⟩:=I.list h
 obtain ⟨its',r',⟨o',n',e',_,_,d'⟩,_⟩:=I.list h'
 rw [e] at e'; cases e'
 rw [d] at d'
 injection d' with d1 _
 have:its=its':=by simpa using congrArg Array.toList d1
 subst this
 exact r.inj r'
theorem Inv.tuple_inj (I:Inv X pins σ H s) (h:SqT X.K H a xs) (h':SqT X.K H a ys):xs=ys:=by
 obtain ⟨its,r,⟨o,e,_,n,d⟩,_⟩:=I.tuple h
 obtain ⟨its',r',⟨o',e',_,n',d'⟩,_⟩:=I.tuple h'
 rw [e] at e'; cases e'
 rw [d] at d'
 injection d' with d1 _
 have:its=its':=by simpa using congrArg Array.toList d1
 subst this
 exact r.inj r'
end
abbrev Cx.wish (X:Cx) (E:Value→Shared→Prop):Cx:={ X with xe:=E }
abbrev Cx.nox (X:Cx):Cx:=X.wish fun _ _=>False
theorem Cx.Ok.wish {X:Cx} (ok:X.Ok) (E:Value→Shared→Prop):(X.wish E).Ok :=
 ⟨ok.mod,ok.kind,ok.glob,ok.blt,ok.above,ok.inj,ok.has,ok.cab,ok.hd,ok.frames,ok.stk,ok.exf,ok.bs,ok.bsz,ok.noex,ok.exfs,ok.funs,ok.frf⟩
theorem Cx.Ok.unwish {X:Cx} {E:Value→Shared→Prop} (ok:(X.wish E).Ok):X.Ok :=
 ⟨ok.mod,ok.kind,ok.glob,ok.blt,ok.above,ok.inj,ok.has,ok.cab,ok.hd,ok.frames,ok.stk,ok.exf,ok.bs,ok.bsz,ok.noex,ok.exfs,ok.funs,ok.frf⟩
section
variable {X:Cx} {pins:List (Addr×Obj)} {σ:St} {H:Hp} {s:Shared} {E:Value→Shared→Prop}
theorem Inv.wish (I:Inv X pins σ H s) (E:Value→Shared→Prop):Inv (X.wish E) pins σ H s:=⟨I.ok.wish E,I.os,I.bare,I.base,I.loc,I.cell,I.free,I.freeC,I.pin,I.hok,I.len⟩
theorem Inv.unwish (I:Inv (X.wish E) pins σ H s):Inv X pins σ H s:=⟨I.ok.unwish,I.os,I.bare,I.base,I.loc,I.cell,I.free,I.freeC,I.pin,I.hok,I.len⟩
theorem SP.unwish {D:Ends} {f:Flow} {s':Shared} (h:SP (X.wish E) pins D f s'):SP X pins D f s':=by
 cases f with
 | next=>obtain ⟨σ',H',I,q⟩:=h; exact ⟨σ',H',I.unwish,q⟩
 | brk=>obtain ⟨σ',H',I,q⟩:=h; exact ⟨σ',H',I.unwish,q⟩
 | cont=>obtain ⟨σ',H',I,q⟩:=h; exact ⟨σ',H',I.unwish,q⟩
 | ret u=>obtain ⟨v,σ',H',I,r,q⟩:=h; exact ⟨v,σ',H',I.unwish,r,q⟩
theorem PSs.nox {st:List Stmt} {t:TS} (h:PSs X.nox st t):PSs X st t:=fun pins s σ H D I hw =>
 wpAny_mono (h pins s σ H D (I.wish _) hw) (fun _ _ q=>q.unwish) fun _ _ z=>False.elim z
end
section
variable {X:Cx} {st:Stmt} {rest:List Stmt} {t u:TS} {e:Expr} {te:TE} {pos:Pos}
def tNext:TS:=fun D σ H=>D.nx σ H
def tSeq (t u:TS):TS:=fun D σ H=>t { D with nx:=u D } σ H
theorem pss_nil:PSs X [] tNext:=fun _ _ σ H _ I h=>wpAny_execs_nil ⟨σ,H,I,h⟩
theorem pss_cons (h1:PS X st t) (h2:PSs X rest u):PSs X (st::rest) (tSeq t u):=by
 intro pins s σ H D I h
 refine wpAny_execs_cons (thn (h1 pins s σ H { D with nx:=u D } I h) fun f s1 q=>?_)
 cases f with
 | next =>
  obtain ⟨σ',H',I',q⟩:=q
  exact h2 pins s1 σ' H' D I' q
 | ret v=>exact q
 | brk=>exact q
 | cont=>exact q
theorem pss_one (h1:PS X st t):PSs X [st] t:=by
 intro pins s σ H D I h
 refine wpAny_execs_cons (thn (h1 pins s σ H D I h) fun f s1 q=>?_)
 cases f with
 | next=>exact wpAny_execs_nil q
 | ret v=>exact q
 | brk=>exact q
 | cont=>exact q
theorem Inv.quiet {pins:List (Addr×Obj)} {σ:St} {H:Hp} {s:Shared} (I:Inv X pins σ H s):interactive X.env=false:=by simp [interactive,I.ok.kind]
def tDrop (te:TE):TS:=fun D σ H=>te σ H fun _ H1=>D.nx σ H1
theorem ps_expr (he:PE X e te) (hs:swapsWith e none pos.line X.env=pure false:=by rfl):PS X (.Expr e pos) (tDrop te):=by
 intro pins s σ H D I h
 exact wpAny_Expr_any (thn (he pins s σ H _ I h) fun v s1 ⟨x,H1,I1,r1,q1⟩=>⟨σ,H1,I1,q1⟩) I.quiet hs
def tRet (te:TE):TS:=fun D σ H=>te σ H D.rt
theorem ps_ret (he:PE X e te):PS X (.Return (some e) pos) (tRet te):=by
 intro pins s σ H D I h
 exact wpAny_Return_some (thn (he pins s σ H _ I h) fun v s1 ⟨x,H1,I1,r1,q1⟩=>⟨x,σ,H1,I1,r1,q1⟩)
def tRetN:TS:=fun D _ H=>D.rt .non H
theorem ps_retN:PS X (.Return none pos) tRetN:=fun _ _ σ H _ I h=>wpAny_Return_none ⟨.non,σ,H,I,rfl,h⟩
def tIfS (c:TT) (t u:TS):TS:=fun D σ H=>c σ H fun b H1=>if b=true then t D σ H1 else u D σ H1
theorem ps_if {c:Expr} {a b:List Stmt} {tc:TT} (hc:PT X c tc) (ha:PSs X a t) (hb:PSs X b u):PS X (.If c a b pos) (tIfS tc t u):=by
 intro pins s σ H D I h
 refine wpAny_If (thn (hc pins s σ H _ I h) fun d s1 ⟨H1,I1,q1⟩=>?_)
 cases d with
 | true=>exact ha pins s1 σ H1 D I1 q1
 | false=>exact hb pins s1 σ H1 D I1 q1
end
abbrev TG:=V→St→Hp→(St→Hp→Prop)→Prop
abbrev TGs:=List V→St→Hp→(St→Hp→Prop)→Prop
def PG (X:Cx) (target:Expr) (t:TG):Prop :=
 ∀ (pins:List (Addr×Obj)) (s:Shared) (σ:St) (H:Hp) (v:V) (u:Value) (Q:St→Hp→Prop),Inv X pins σ H s→RelV v u→t v σ H Q →
  wpAny (model X.prog X.w) X.A (assign target X.env u) (fun _ s'=>∃ σ' H',Inv X pins σ' H' s'∧Q σ' H') X.xe s
def PGs (X:Cx) (ts:List Expr) (t:TGs):Prop :=
 ∀ (pins:List (Addr×Obj)) (s:Shared) (σ:St) (H:Hp) (vs:List V) (us:List Value) (Q:St→Hp→Prop),Inv X pins σ H s→Vals vs us→t vs σ H Q →
  wpAny (model X.prog X.w) X.A (assignInOrder ((assignEach ts X.env).map (·.2)) us) (fun _ s'=>∃ σ' H',Inv X pins σ' H' s'∧Q σ' H') X.xe s
abbrev TIp:=V→V→Hp→VK→Prop
def PIp (X:Cx) (op:Operator) (t:TIp):Prop :=
 ∀ (pins:List (Addr×Obj)) (s:Shared) (σ:St) (H:Hp) (x y:V) (v u:Value) (Q:VK),Inv X pins σ H s→RelV x v→RelV y u→t x y H Q →
  wpAny (model X.prog X.w) X.A (inplaceOp op v u) (EP X pins σ Q) X.xe s
section
variable {X:Cx} {pos:Pos}
def gName (i:Nat):TG:=fun v σ H Q=>Q (σ.set i (some v)) H
theorem pg_name {i:Nat} {x:Str} (hN:X.N.Nodup) (hi:X.N[i]?=some x) (hx:Loc X.env.scope x) (hf:X.fn x=true∨X.env.scope.names.lookup x=some .local:=by first | exact .inl rfl | exact .inr rfl | assumption):PG X (.Name x pos) (gName i):=by
 intro pins s σ H v u Q I r h
 exact wpAny_assign_Name (store_ok I hN hi hx r (fun s' I'=>⟨_,H,I',h⟩) hf)
def gNil:TGs:=fun vs σ H Q=>vs=[]∧Q σ H
def gCons (t:TG) (u:TGs):TGs:=fun vs σ H Q=>∃ v r,vs=v::r∧t v σ H fun σ' H'=>u r σ' H' Q
theorem pgs_nil:PGs X [] gNil:=by
 intro pins s σ H vs us Q I r h
 obtain ⟨e,h⟩:=h
 subst e
 cases r
 exact assignInOrder_nil ⟨σ,H,I,h⟩
theorem pgs_cons {e:Expr} {es:List Expr} {t:TG} {u:TGs} (h1:PG X e t) (h2:PGs X es u)
  (hs:(assignEach (e::es) X.env).map (·.2)=assign e X.env::(assignEach es X.env).map (·.2):=by rfl):PGs X (e::es) (gCons t u):=by
 intro pins s σ H vs us Q I r h
 obtain ⟨v,vr,e1,h⟩:=h
 subst e1
 cases r with
 | cons r rr =>
  rw [hs]
  refine assignInOrder_cons (thn (h1 pins s σ H _ _ _ I r h) fun _ s1 ⟨σ1,H1,I1,q1⟩=>?_)
  exact h2 pins s1 σ1 H1 _ _ Q I1 rr q1
def gTup (K:PySem.W.Frag) (n:Nat) (t:TGs):TG:=fun v σ H Q=>∃ a xs,v=.ref a∧SqT K H a xs∧xs.length=n∧t xs σ H Q
theorem pg_tup {es:List Expr} {k:Nat} {t:TGs} {n:Nat} (hc:X.calm=true) (h:PGs X es t)
  (hn:(assignEach es X.env).length=n:=by rfl) (hst:(assignEach es X.env).findIdx? (·.1)=none:=by rfl):PG X (.Tuple es k pos) (gTup X.K n t):=by
 intro pins s σ H v u Q I r hw
 obtain ⟨a,xs,e1,hq,hl,hw⟩:=hw
 subst e1
 cases r
 obtain ⟨its,rv,ht,hz⟩:=I.tuple hq
 refine assign_Tuple_tuple (I.ok.hd hc) ht (by simp [hn,← hl,rv.length]) hst fun h' hx=>?_
 have I1:Inv X pins σ H { s with heap:=h' }:=I.kept (t':=s.toks) fun b o e=>hx b o (Nat.ne_of_lt (Heap.lt_size e)) e
 exact h pins _ σ H xs _ Q I1 (by simpa using rv) hw
def tAsg (te:TE) (g:TG):TS:=fun D σ H=>te σ H fun x H1=>g x σ H1 D.nx
theorem ps_asg {tg e:Expr} {te:TE} {g:TG} (he:PE X e te) (hg:PG X tg g) (hs:swapsWithSole [tg] e pos.line X.env=pure false:=by rfl) (hw:swappedStores [tg] e X.env=pure none:=by rfl)
  (h1:(assignEach [tg] X.env).map (·.2)=[assign tg X.env]:=by rfl):PS X (.Assign [tg] e pos) (tAsg te g):=by
 intro pins s σ H D I h
 refine wpAny_Assign_stores (thn (he pins s σ H _ I h) fun v s1 ⟨x,H1,I1,r1,q1⟩=>?_) hs hw
 rw [h1]
 exact thn (hg pins s1 σ H1 x v _ I1 r1 q1) fun _ s2 q=>q
theorem ps_set {i:Nat} {x:Str} {e:Expr} {te:TE} {pos':Pos} (hN:X.N.Nodup) (hi:X.N[i]?=some x) (hx:Loc X.env.scope x) (he:PE X e te) (hs:swapsWith e (some (.Name x pos')) pos.line X.env=pure false:=by rfl) (hf:X.fn x=true∨X.env.scope.names.lookup x=some .local:=by first | exact .inl rfl | exact .inr rfl | assumption) :
  PS X (.Assign [.Name x pos'] e pos) (tAsg te (gName i)):=by
 intro pins s σ H D I h
 refine wpAny_Assign_Name (thn (he pins s σ H _ I h) fun v s1 ⟨y,H1,I1,r1,q1⟩=>?_) hs
 exact store_ok I1 hN hi hx r1 (fun s2 I2=>⟨_,H1,I2,q1⟩) hf
def tPar (i j:Nat) (ta:TA):TS:=fun D σ H=>ta σ H fun vs H1=>∃ v w,vs=[v,w]∧D.nx ((σ.set i (some v)).set j (some w)) H1
theorem ps_par {i j:Nat} {x y:Str} {a b:Expr} {ta:TA} {px py pt:Pos} {kt k2 pt2} (hc:X.calm=true) (hN:X.N.Nodup) (hi:X.N[i]?=some x) (hj:X.N[j]?=some y) (hij:i≠j)
  (hx:X.env.scope.names.lookup x=some .local) (hy:X.env.scope.names.lookup y=some .local) (ha:PA X [a,b] ta)
  (hw:swappedStores [.Tuple [.Name x px,.Name y py] kt pt] (.Tuple [a,b] k2 pt2) X.env=pure (some [x,y]))
  (hs:swapsWithSole [.Tuple [.Name x px,.Name y py] kt pt] (.Tuple [a,b] k2 pt2) pos.line X.env=pure false:=by rfl) :
  PS X (.Assign [.Tuple [.Name x px,.Name y py] kt pt] (.Tuple [a,b] k2 pt2) pos) (tPar i j ta):=by
 intro pins s σ H D I h
 rw [exec_Assign_arm]
 refine wpAny_bind (wpAny_standAt ?_)
 rw [hs]
 refine wpAny_bind (wpAny_pure ?_)
 rw [if_neg (by decide)]
 refine wpAny_bind (Tuple_ (thn (ha _ pins s σ H _ I h) fun us s1 ⟨vs,H1,I1,r1,q1⟩=>?_))
 obtain ⟨v,w,e1,q1⟩:=q1
 subst e1
 obtain ⟨u1,u2,rfl,rv,rw'⟩:∃ u1 u2,us=[u1,u2]∧RelV v u1∧RelV w u2:=by
  cases r1 with
  | cons p q =>
   cases q with
   | cons p' q' =>
    cases q'
    exact ⟨_,_,rfl,p,p'⟩
 refine wpAny_newObj_type ?_ (by show 2≤sizeLine; decide)
 have I2:Inv X pins σ H1 { s1 with heap:=s1.heap.push { cls:=.type "tuple",data:=.seq [u1,u2].toArray } }:=I1.kept (t':=s1.toks) fun b o e=>Heap.get?_push_of_some _ e
 rw [hw]
 refine wpAny_bind (wpAny_pure ?_)
 show wpAny (model X.prog X.w) X.A (do rule "assign.swapped-stores"; let items ← unpackItems (.ref s1.heap.objs.size) 2 none; assignInOrder [fun v=>bindName X.env y v,fun v=>bindName X.env x v] items.reverse; pure Flow.next) _ _ _
 refine wpAny_bind (wpAny_rule (wpAny_bind (unpackItems_tuple (items:=#[u1,u2]) (I.ok.hd hc) (IsTup.new s1.heap _) fun h' hx'=>?_)))
 have I3:=I2.kept (h':=h') (t':=s1.toks) fun b o e=>hx' b o (Nat.ne_of_lt (Heap.lt_size e)) e
 show wpAny _ _ (assignInOrder [fun v=>bindName X.env y v,fun v=>bindName X.env x v] [u2,u1] >>= fun _=>pure Flow.next) _ _ _
 refine wpAny_bind (assignInOrder_cons (wpAny_bindName (store_ok I3 hN hj (.inl hy) rw' (fun s2 I4=>?_) (.inr hy))))
 refine assignInOrder_cons (wpAny_bindName (store_ok I4 hN hi (.inl hx) rv (fun s3 I5=>assignInOrder_nil (wpAny_pure ?_)) (.inr hx)))
 rw [List.set_comm _ _ (Ne.symm hij)] at I5
 exact ⟨_,H1,I5,q1⟩
def tAug (i:Nat) (te:TE) (ti:TIp):TS:=fun D σ H=>∃ x,σ[i]?=some (some x)∧te σ H fun y H1=>ti x y H1 fun z H2=>D.nx (σ.set i (some z)) H2
theorem ps_aug {i:Nat} {x:Str} {e:Expr} {te:TE} {op:Operator} {ti:TIp} {pos':Pos} (hN:X.N.Nodup) (hi:X.N[i]?=some x) (hx:Loc X.env.scope x) (he:PE X e te) (ho:PIp X op ti) (hf:X.fn x=true∨X.env.scope.names.lookup x=some .local:=by first | exact .inl rfl | exact .inr rfl | assumption) :
  PS X (.AugAssign (.Name x pos') op e pos) (tAug i te ti):=by
 intro pins s σ H D I h
 obtain ⟨v,e1,h⟩:=h
 obtain ⟨m,hn,hl⟩:=I.loc
 have vis:Vis X.env.scope x:=by rcases hx with k | k; exact .inl k; exact .inr (.inl k)
 obtain ⟨u,r,l⟩:=hl i x v hi e1 vis
 refine wpAny_AugAssign_Name ?_
 have go:wpAny (model X.prog X.w) X.A (eval e X.env) (fun w s₂=>wpAny (model X.prog X.w) X.A (inplaceOp op u w) (fun r s₃=>wpAny (model X.prog X.w) X.A (storeName X.env x r) (fun _=>SP X pins D .next) X.xe s₃) X.xe s₂) X.xe s:=by
  refine thn (he pins s σ H _ I h) fun w s1 ⟨y,H1,I1,r1,q1⟩=>?_
  refine thn (ho pins s1 σ H1 v y u w _ I1 r r1 q1) fun z s2 ⟨zv,H2,I2,r2,q2⟩=>?_
  exact store_ok I2 hN hi hx r2 (fun s3 I3=>⟨_,H2,I3,q2⟩) hf
 rcases l with ⟨hk,hm⟩ | ⟨hk,c,hc,hcell⟩
 ·exact wpAny_loadName_local I.ok.kind hk hn hm go
 ·rcases hk with hk | hk
  ·exact wpAny_loadName_cell I.ok.kind hk hc hcell go
  ·rcases hx with k | k
   ·have:X.env.scope.names.lookup x=some .free:=hk
    rw [k] at this; cases this
   ·have:X.env.scope.names.lookup x=some .free:=hk
    rw [k] at this; cases this
def ipI (f:Int→Int→Int):TIp:=fun x y H Q=>∃ i j,x=.int i∧y=.int j∧Q (.int (f i j)) H
theorem ip_add:PIp X .Add (ipI fun i j=>i+j):=by
 intro pins s σ H x y v u Q I r1 r2 h
 obtain ⟨i,j,e1,e2,q⟩:=h
 subst e1; subst e2
 obtain ⟨t,rfl⟩:=r1
 obtain ⟨t',rfl⟩:=r2
 exact iadd_int ⟨.int _,H,I.tok _,⟨_,rfl⟩,q⟩
end
section
variable {X:Cx} {pos:Pos}
def tWhile (c:TT) (tb:TS):TS:=fun D σ H=>∃ W:Nat→St→Hp→Prop,(∃ m,W m σ H)∧∀ m σ H,W m σ H →
 c σ H fun b H1=>if b=true then ∃ N:St→Hp→Prop,(∀ σ' H',N σ' H'→∃ m',m'<m∧W m' σ' H')∧tb { D with nx:=N,ct:=N,bk:=D.nx } σ H1 else D.nx σ H1
theorem ps_while {c:Expr} {body:List Stmt} {tc:TT} {tb:TS} (hp:PassesOwn (model X.prog X.w) X.A X.env X.xe) (hc:PT X c tc) (hb:PSs X body tb):PS X (.While c body [] pos) (tWhile tc tb):=by
 intro pins s σ H D I h
 obtain ⟨W,⟨m0,w0⟩,turn⟩:=h
 refine wpAny_While (codeAny_whileLoop (fun n s'=>∃ σ' H',Inv X pins σ' H' s'∧W n σ' H') ?_ m0 ⟨σ,H,I,w0⟩)
 rintro n s1 ⟨σ1,H1,I1,w1⟩
 refine wpAny_passesOwn hp (thn (hc pins s1 σ1 H1 _ I1 (turn n σ1 H1 w1)) fun b s2 ⟨H2,I2,q2⟩=>?_)
 cases b with
 | true =>
  obtain ⟨N,hN,q2⟩:=q2
  rw [if_pos rfl]
  refine wpAny_passesOwn hp (thn (hb pins s2 σ1 H2 _ I2 q2) fun f s3 q3=>?_)
  cases f with
  | next =>
   obtain ⟨σ3,H3,I3,n3⟩:=q3
   obtain ⟨m',hm,w3⟩:=hN σ3 H3 n3
   exact ⟨m',hm,σ3,H3,I3,w3⟩
  | cont =>
   obtain ⟨σ3,H3,I3,n3⟩:=q3
   obtain ⟨m',hm,w3⟩:=hN σ3 H3 n3
   exact ⟨m',hm,σ3,H3,I3,w3⟩
  | brk => exact q3
  | ret v => exact q3
 | false =>
  rw [if_neg Bool.false_ne_true]
  exact wpAny_execs_nil ⟨σ1,H2,I2,q2⟩
end
structure It where
 go:Nat→Hp→Prop
 yld:Nat→Hp→V→Hp→Prop
 stop:Nat→Hp→Prop
def FpOk (X:Cx) (pins:List (Addr×Obj)) (H:Hp) (b:Addr):Prop :=
 H b=none∧b≠X.env.locals∧b∉X.fs∧(b∈X.ex∨X.s₀.heap.objs.size≤b)∧(∀ x c,X.env.cells.lookup x=some c→c≠b)∧∀ p∈X.pn++pins,p.1≠b
theorem Inv.fpOk {X:Cx} {pins:List (Addr×Obj)} {σ:St} {H H':Hp} {s:Shared} {b:Addr} (I:Inv X pins σ H s) (hb:s.heap.objs.size≤b) (hn:H' b=none):FpOk X pins H' b:=by
 refine ⟨hn,Nat.ne_of_gt (Nat.lt_of_lt_of_le I.lt hb),I.nofs hb,.inr (Nat.le_trans I.sz hb),fun x c e z=>?_,fun p hp z=>?_⟩
 ·obtain ⟨v,q⟩:=I.cell x c e
  exact absurd (Nat.lt_of_lt_of_le q.lt (by rw [z]; exact hb)) (Nat.lt_irrefl _)
 ·exact absurd (Nat.lt_of_lt_of_le (Heap.lt_size (I.pin p hp).1) (by rw [z]; exact hb)) (Nat.lt_irrefl _)
structure Turn (P:Program) (w:World) (K:PySem.W.Frag) (tg:Expr) (J:It) (fp:List Addr) (it:Addr) (tn:Nat→Heap→Prop):Prop where
 mem:it∈fp
 obj:∀ i h,tn i h→∀ b∈fp,∃ o,h.get? b=some o∧∀ v,o.data≠.cell v
 keep:∀ i h h',tn i h→(∀ b∈fp,∀ o,h.get? b=some o→h'.get? b=some o)→tn i h'
 item:∀ (X:Cx),X.prog=P→X.w=w→X.K=K→X.calm=true→∀ (i:Nat) (pins:List (Addr×Obj)) (s:Shared) (σ:St) (H:Hp) (E:Value→Shared→Prop),Inv X pins σ H s→(∀ b∈fp,FpOk X pins H b)→tn i s.heap→J.go i H →
  wpAny (model P w) X.A (pyNext (.ref it)) (fun r s1=>∃ u,r=some u ∧
   wpAny (model P w) X.A (letOwnedTupleGo tg (.ref it) u) (fun _ s2=>∃ x H',Inv X pins σ H' s2∧RelV x u∧J.yld i H x H'∧tn (i+1) s2.heap∧∀ b∈fp,H' b=none) E s1) E s
 done:∀ (X:Cx),X.prog=P→X.w=w→X.K=K→X.calm=true→∀ (i:Nat) (pins:List (Addr×Obj)) (s:Shared) (σ:St) (H:Hp) (E:Value→Shared→Prop),Inv X pins σ H s→(∀ b∈fp,FpOk X pins H b)→tn i s.heap→J.stop i H →
  wpAny (model P w) X.A (pyNext (.ref it)) (fun r s1=>r=none∧Inv X pins σ H s1) E s
 self:∀ (A:Around) (i:Nat) (s:Shared) (Q:Value→Shared→Prop) (E:Value→Shared→Prop),tn i s.heap→Q (.ref it) s→wpAny (model P w) A (pyIter (.ref it)) Q E s
abbrev TI:=St→Hp→(It→Hp→Prop)→Prop
def PIE (X:Cx) (pins:List (Addr×Obj)) (σ:St) (tg:Expr) (R:It→Hp→Prop) (itv:Value) (s2:Shared):Prop :=
 ∃ (it:Addr) (fp:List Addr) (tn:Nat→Heap→Prop) (J:It) (H':Hp),itv=.ref it∧Inv X pins σ H' s2∧Turn X.prog X.w X.K tg J fp it tn∧tn 0 s2.heap∧(∀ b∈fp,FpOk X pins H' b)∧R J H'
def PI (X:Cx) (tg iter:Expr) (wi:TI):Prop :=
 ∀ (pins:List (Addr×Obj)) (s:Shared) (σ:St) (H:Hp) (R:It→Hp→Prop),Inv X pins σ H s→wi σ H R →
  wpAny (model X.prog X.w) X.A (eval iter X.env) (fun v s1=>wpAny (model X.prog X.w) X.A (pyIter v) (PIE X pins σ tg R) X.xe s1) X.xe s
theorem go_of {M:Model} {A:Around} {E:Value→Shared→Prop} {s:Shared} {tg:Expr} {it:Addr} {u:Value} {o:Obj} {n:String} {vs:Array Value} {Q:Unit→Shared→Prop} (ho:s.heap.get? it=some o) (hc:o.cls=.type n) (hd:o.data=.fields vs)
    (hn:["enumerate","zip","dict_itemiterator","dict_reverseitemiterator","odict_iterator","itertools.zip_longest","itertools.pairwise"].contains n=false) (hQ:Q () s):wpAny M A (letOwnedTupleGo tg (.ref it) u) Q E s:=by
  unfold letOwnedTupleGo
  cases tg<;>first
    | exact wpAny_pure hQ
    | (cases u<;>first
        | exact wpAny_pure hQ
        | (refine wpAny_bind (wpAny_load ho ?_)
           rw [hc,hd]
           show wpAny M A (if (["enumerate","zip","dict_itemiterator","dict_reverseitemiterator","odict_iterator","itertools.zip_longest","itertools.pairwise"].contains n&&vs[0]?==some (rawInt _))=true then _ else _) Q E s
           rw [if_neg (by intro h; rw [hn,Bool.false_and] at h; cases h)]
           exact wpAny_pure hQ))
def Itl (K:PySem.W.Frag) (a:Addr):It :=
 ⟨fun i H=>∃ xs x,SqL K H a xs∧xs[i]?=some x,fun i H x H'=>H'=H∧∀ xs,SqL K H a xs→xs[i]?=some x,fun i H=>∃ xs,SqL K H a xs∧xs.length≤i⟩
def Itr (lo:Int) (n:Nat):It:=⟨fun i _=>i<n,fun i H x H'=>H'=H∧x=.int (lo+i),fun i _=>n≤i⟩
theorem turn_list {P:Program} {w:World} {K:PySem.W.Frag} {tg:Expr} (a it:Addr):Turn P w K tg (Itl K a) [it] it (fun i h=>h.IsListIter it a i) where
 mem:=by simp
 obj:=fun i h st b hb=>by
  have e:b=it:=by simpa using hb
  subst e
  obtain ⟨o,e,c,d⟩:=st
  exact ⟨o,e,fun v z=>by rw [d] at z; cases z⟩
 keep:=fun i h h' st k=>st.at fun o e=>k it (by simp) o e
 item:=by
  intro X hP hw hK hc i pins s σ H E I hf st hg
  subst hP hw hK
  obtain ⟨xs,x,hq,hx⟩:=hg
  obtain ⟨its,rv,p,hz⟩:=I.list hq
  obtain ⟨u,hu,ru⟩:=rv.get hx
  obtain ⟨f0,f1,f2,f3,f4,f5⟩:=hf it (by simp)
  refine wpAny_pyNext_list_item st p.isList (x:=u) (by simpa using hu) fun h' st' sb=>?_
  have I1:Inv X pins σ H { s with heap:=h' }:=I.turned (t':=s.toks) (fun b o hb e=>(sb.2 b hb).trans e) f0 f1 f3 f4 f5
  obtain ⟨o,e,c,d⟩:=id st'
  exact ⟨u,rfl,go_of (s:={ s with heap:=h' }) e c d (by decide) ⟨x,H,I1,ru,⟨rfl,fun ys hy=>by rw [I.list_inj hy hq]; exact hx⟩,st',fun b hb=>(hf b hb).1⟩⟩
 done:=by
  intro X hP hw hK hc i pins s σ H E I hf st hg
  subst hP hw hK
  obtain ⟨xs,hq,hx⟩:=hg
  obtain ⟨its,rv,p,hz⟩:=I.list hq
  obtain ⟨f0,f1,f2,f3,f4,f5⟩:=hf it (by simp)
  have hl:=rv.length
  exact wpAny_pyNext_list_end (I.ok.hd hc) st p.isList (by simp; omega) fun h' eb=>⟨rfl,I.turned (t':=s.toks) (fun b o hb e=>eb b o hb e) f0 f1 f3 f4 f5⟩
 self:=fun _ _ _ _ _ st h=>wpAny_pyIter_listiter st h
theorem turn_range {P:Program} {w:World} {K:PySem.W.Frag} {tg:Expr} (it:Addr) (lo:Int) (n:Nat):Turn P w K tg (Itr lo n) [it] it (fun i h=>IsRangeIter h it (lo+(i:Nat)*1) ((n:Int) - (i:Nat)) 1) where
 mem:=by simp
 obj:=fun i h st b hb=>by
  have e:b=it:=by simpa using hb
  subst e
  exact ⟨_,st,fun v z=>by
   have z':Data.fields _=Data.cell v:=z
   cases z'⟩
 keep:=fun i h h' st k=>k it (by simp) _ st
 item:=by
  intro X hP hw hK hc i pins s σ H E I hf st hg
  subst hP hw hK
  obtain ⟨f0,f1,f2,f3,f4,f5⟩:=hf it (by simp)
  have W:=Walks.range (prog:=X.prog) (w:=X.w) (I.ok.hd hc) it lo 1 n
  refine W.item i s _ _ hg st fun v h' tk hv st' kk=>?_
  obtain ⟨t,rfl⟩:=hv
  have I1:Inv X pins σ H { s with heap:=h',toks:=tk }:=I.turned (fun b o hb e=>kk b o (by simpa using hb) e) f0 f1 f3 f4 f5
  refine ⟨_,rfl,go_of (s:={ s with heap:=h',toks:=tk }) (n:="range_iterator") st' rfl rfl (by decide) ⟨.int (lo+i),H,I1,⟨t,?_⟩,⟨rfl,rfl⟩,st',fun b hb=>(hf b hb).1⟩⟩
  rw [Int.mul_one]
 done:=by
  intro X hP hw hK hc i pins s σ H E I hf st hg
  subst hP hw hK
  obtain ⟨f0,f1,f2,f3,f4,f5⟩:=hf it (by simp)
  exact wpAny_pyNext_range_end (I.ok.hd hc) st (by have:n≤i:=hg; omega) fun h' eb=>⟨rfl,I.turned (t':=s.toks) (fun b o hb e=>eb b o hb e) f0 f1 f3 f4 f5⟩
 self:=fun _ _ _ _ _ st h=>wpAny_pyIter_rangeiter st h
end L2
namespace L2
open PySem PySem.Spec PyProof.Rows
section
variable {X:Cx} {tg:Expr}
def iList (K:PySem.W.Frag) (tl:TE):TI:=fun σ H R=>tl σ H fun x H1=>∃ a,x=.ref a∧(∃ xs,SqL K H1 a xs)∧R (Itl K a) H1
theorem pi_list {l:Expr} {tl:TE} (hl:PE X l tl):PI X tg l (iList X.K tl):=by
 intro pins s σ H R I h
 refine thn (hl pins s σ H _ I h) fun v s1 ⟨x,H1,I1,r1,q1⟩=>?_
 obtain ⟨a,e,⟨xs,hq⟩,q⟩:=q1
 subst e
 cases r1
 obtain ⟨its,rv,p,hz⟩:=I1.list hq
 refine wpAny_pyIter_list p.isList ?_
 refine ⟨s1.heap.objs.size,[s1.heap.objs.size],_,_,H1,rfl,I1.kept (t':=s1.toks) fun b o e=>Heap.get?_push_of_some _ e,turn_list a _,⟨_,Heap.get?_push_size _ rfl,rfl,rfl⟩,fun b hb=>?_,q⟩
 have e:b=s1.heap.objs.size:=by simpa using hb
 subst e
 exact I1.fpOk (Nat.le_refl _) (I1.hok.fresh (Nat.le_refl _))
theorem range_it {pins:List (Addr×Obj)} {σ:St} {H:Hp} {s:Shared} {R:It→Hp→Prop} {E:Value→Shared→Prop} {lo hi:Int} {t u v:Tok} {tk:Nat} (I:Inv X pins σ H s) (h1:-(2 ^ 62)≤lo) (h2:lo<2 ^ 62) (h3:-(2 ^ 62)≤hi) (h4:hi<2 ^ 62)
  (q:R (Itr lo (hi - lo).toNat) H):wpAny (model X.prog X.w) X.A (pyIter (.ref s.heap.objs.size)) (PIE X pins σ tg R) E { s with heap:=s.heap.push { cls:=.type "range",data:=.fields #[.int lo t,.int hi u,.int 1 v] },toks:=tk }:=by
 refine wpAny_pyIter_range (IsRange.new ..) (small_one h1 h2 h3 h4) ?_
 have I1:Inv X pins σ H { s with heap:=s.heap.push { cls:=.type "range",data:=.fields #[.int lo t,.int hi u,.int 1 v] },toks:=tk }:=I.kept fun b o e=>Heap.get?_push_of_some _ e
 refine ⟨(s.heap.push { cls:=.type "range",data:=.fields #[.int lo t,.int hi u,.int 1 v] }).objs.size,[(s.heap.push { cls:=.type "range",data:=.fields #[.int lo t,.int hi u,.int 1 v] }).objs.size],_,_,H,rfl,
  I1.kept (t':=tk) fun b o e=>Heap.get?_push_of_some _ e,turn_range _ lo (hi - lo).toNat,?_,fun b hb=>?_,q⟩
 ·have e1:lo+((0:Nat):Int)*1=lo:=by simp
  have e2:(((hi - lo).toNat:Nat):Int) - ((0:Nat):Int)=Builtin.Range.rangeSize lo hi 1:=by rw [rangeSize_one]; split<;>omega
  show IsRangeIter _ _ (lo+((0:Nat):Int)*1) ((((hi - lo).toNat:Nat):Int) - ((0:Nat):Int)) 1
  rw [e1,e2]
  exact Heap.get?_push_size _ rfl
 ·have e:b=(s.heap.push { cls:=.type "range",data:=.fields #[.int lo t,.int hi u,.int 1 v] }).objs.size:=by simpa using hb
  subst e
  exact I1.fpOk (Nat.le_refl _) (I1.hok.fresh (Nat.le_refl _))
def iRng1 (ta:TA):TI:=fun σ H R=>ta σ H fun vs H1=>∃ j:Int,vs=[.int j]∧-(2 ^ 62)≤j∧j<2 ^ 62∧R (Itr 0 j.toNat) H1
theorem pi_range1 {a:Expr} {ta:TA} {p pos:Pos} (hg:Gl X "range") (hm:X.mg "range"=none) (ha:PA X [a] ta) (hs:starEach [a] X.env=[(false,eval a X.env)]:=by rfl):PI X tg (.Call (.Name "range" p) [a] [] pos) (iRng1 ta):=by
 intro pins s σ H R I h
 refine Call_ (ld_blt I hg hm boot_range (PyProof.Rows.callWith_type1 (thn (ha pos pins s σ H _ I h) fun us s1 ⟨vs,H1,I1,r1,q1⟩=>?_) hs rfl))
 obtain ⟨j,e,q1,q2,q⟩:=q1
 subst e
 cases r1 with
 | cons r rr =>
  cases rr
  obtain ⟨t,rfl⟩:=r
  exact call_range_1 (range_it I1 (by omega) (by omega) q1 q2 (by simpa using q))
def tFor (wi:TI) (g:TG) (tb:TS):TS:=fun D σ H=>wi σ H fun J H1=>∃ W:Nat→Nat→St→Hp→Prop,(∃ m,W 0 m σ H1)∧∀ i m σ H,W i m σ H →
 (J.stop i H∧D.nx σ H)∨(J.go i H∧∃ N:St→Hp→Prop,(∀ σ' H',N σ' H'→∃ m',m'<m∧W (i+1) m' σ' H')∧∀ x H',J.yld i H x H'→g x σ H' fun σ2 H2=>tb { D with nx:=N,ct:=N,bk:=D.nx } σ2 H2)
def pinsAt (fp:List Addr) (h:Heap):List (Addr×Obj):=fp.filterMap fun b=>(h.get? b).map fun o=>(b,o)
theorem mem_pinsAt {fp:List Addr} {h:Heap} {b:Addr} {o:Obj} (hb:b∈fp) (e:h.get? b=some o):(b,o)∈pinsAt fp h:=List.mem_filterMap.mpr ⟨b,hb,by rw [e]; rfl⟩
theorem of_pinsAt {fp:List Addr} {h:Heap} {p:Addr×Obj} (hp:p∈pinsAt fp h):p.1∈fp∧h.get? p.1=some p.2:=by
 obtain ⟨b,hb,e⟩:=List.mem_filterMap.mp hp
 cases q:h.get? b with
 | none=>rw [q] at e; cases e
 | some o =>
  rw [q] at e
  have e':(b,o)=p:=Option.some.inj e
  subst e'
  exact ⟨hb,q⟩
theorem Inv.pinned {pins:List (Addr×Obj)} {σ:St} {H:Hp} {s:Shared} {fp:List Addr} (I:Inv X pins σ H s) (hf:∀ b∈fp,FpOk X pins H b) (ho:∀ b∈fp,∃ o,s.heap.get? b=some o∧∀ v,o.data≠.cell v):Inv X (pins++pinsAt fp s.heap) σ H s :=
 I.pins_of fun p hp=>(List.mem_append.mp hp).elim (fun z=>I.pin p (List.mem_append_right _ z)) fun z=>by
  obtain ⟨hb,e⟩:=of_pinsAt z
  obtain ⟨f0,f1,f2,_⟩:=hf p.1 hb
  obtain ⟨o,e',d⟩:=ho p.1 hb
  rw [e] at e'; cases e'
  exact ⟨e,f0,f1,f2,d⟩
theorem Inv.unpinned {pins pl:List (Addr×Obj)} {σ:St} {H:Hp} {s:Shared} (I:Inv X (pins++pl) σ H s):Inv X pins σ H s:=I.pins_of fun p hp=>I.pin p (List.mem_append_right _ (List.mem_append_left _ hp))
theorem ps_for {iter:Expr} {body:List Stmt} {wi:TI} {g:TG} {tb:TS} {pos:Pos} (hp:PassesOwn (model X.prog X.w) X.A X.env X.xe) (hc:X.calm=true) (hi:PI X tg iter wi) (hg:PG X tg g) (hb:PSs X body tb)
  (hs:∀ x,foldedSetIterable iter X.env x=pure x:=by intro _; rfl):PS X (.For tg iter body [] pos) (tFor wi g tb):=by
 intro pins s σ H D I h
 refine wpAny_For (thn (hi pins s σ H _ I h) fun v s1 h1=>thn h1 fun itv s2 h2=>?_) hs
 obtain ⟨it,fp,tn,J,H2,e,I2,T,st2,f2,W,⟨m0,w0⟩,turn⟩:=h2
 subst e
 -- what stays true of the iterator's objects through the loop
 have stat:∀ {H':Hp},(∀ b∈fp,H' b=none)→∀ b∈fp,FpOk X pins H' b:=fun hn b hb=>⟨hn b hb,(f2 b hb).2⟩
 refine codeAny_forLoop_any (fun n s'=>∃ i σ' H',Inv X pins σ' H' s'∧tn i s'.heap∧(∀ b∈fp,H' b=none)∧W i n σ' H') ?_ m0 ⟨0,σ,H2,I2,st2,fun b hb=>(f2 b hb).1,w0⟩
 rintro n s3 ⟨i,σ3,H3,I3,st3,fr3,w3⟩
 rcases turn i n σ3 H3 w3 with ⟨stop,qn⟩ | ⟨go,N,hN,step⟩
 ·refine wpAny_passesOwn hp (thn (T.done X rfl rfl rfl hc i pins s3 σ3 H3 X.xe I3 (stat fr3) st3 stop) fun r s4 ⟨hr,I4⟩=>?_)
  subst hr
  exact wpAny_execs_nil ⟨σ3,H3,I4,qn⟩
 ·refine wpAny_passesOwn hp (thn (T.item X rfl rfl rfl hc i pins s3 σ3 H3 X.xe I3 (stat fr3) st3 go) fun r s4 ⟨u,hr,h4⟩=>?_)
  subst hr
  refine wpAny_passesOwn hp (thn h4 fun _ s5 ⟨x,H5,I5,r5,y5,st5,fr5⟩=>?_)
  have I5':=I5.pinned (stat fr5) (T.obj _ _ st5)
  refine wpAny_passesOwn hp (thn (hg _ s5 σ3 H5 x u _ I5' r5 (step x H5 y5)) fun _ s6 ⟨σ6,H6,I6,q6⟩=>?_)
  refine wpAny_passesOwn hp (thn (hb _ s6 σ6 H6 _ I6 q6) fun f s7 q7=>?_)
  have again:∀ {σ7:St} {H7:Hp},Inv X (pins++pinsAt fp s5.heap) σ7 H7 s7→N σ7 H7→∃ m,m<n∧∃ i σ' H',Inv X pins σ' H' s7∧tn i s7.heap∧(∀ b∈fp,H' b=none)∧W i m σ' H':=fun {σ7 H7} I7 n7=>by
   obtain ⟨m',hm,w7⟩:=hN σ7 H7 n7
   refine ⟨m',hm,i+1,σ7,H7,I7.unpinned,T.keep _ _ _ st5 fun b hb o e=>(I7.pin (b,o) (List.mem_append_right _ (List.mem_append_right _ (mem_pinsAt hb e)))).1,fun b hb=>?_,w7⟩
   obtain ⟨o,e,d⟩:=T.obj _ _ st5 b hb
   exact (I7.pin (b,o) (List.mem_append_right _ (List.mem_append_right _ (mem_pinsAt hb e)))).2.1
  cases f with
  | next => obtain ⟨σ7, H7, I7, n7⟩ := q7; exact again I7 n7
  | cont => obtain ⟨σ7, H7, I7, n7⟩ := q7; exact again I7 n7
  | brk => obtain ⟨σ7, H7, I7, q7⟩ := q7; exact ⟨σ7, H7, I7.unpinned, q7⟩
  | ret v => obtain ⟨x7, σ7, H7, I7, r7, q7⟩ := q7; exact ⟨x7, σ7, H7, I7.unpinned, r7, q7⟩
end
theorem for_list {K:PySem.W.Frag} {a:Addr} {xs:List V} {g:TG} {tb:TS} {D:Ends} {σ:St} {H:Hp} (Pv:Nat→St→Hp→Prop) (h0:Pv 0 σ H) (hl:∀ i σ H,i≤xs.length→Pv i σ H→SqL K H a xs)
  (hs:∀ i x σ H,xs[i]?=some x→Pv i σ H→g x σ H fun σ2 H2=>tb { D with nx:=Pv (i+1),ct:=Pv (i+1),bk:=D.nx } σ2 H2) (hd:∀ σ H,Pv xs.length σ H→D.nx σ H) :
  ∃ W:Nat→Nat→St→Hp→Prop,(∃ m,W 0 m σ H)∧∀ i m σ H,W i m σ H →
   ((Itl K a).stop i H∧D.nx σ H)∨((Itl K a).go i H∧∃ N:St→Hp→Prop,(∀ σ' H',N σ' H'→∃ m',m'<m∧W (i+1) m' σ' H')∧∀ x H',(Itl K a).yld i H x H'→g x σ H' fun σ2 H2=>tb { D with nx:=N,ct:=N,bk:=D.nx } σ2 H2):=by
 refine ⟨fun i m σ H=>m=xs.length - i∧i≤xs.length∧Pv i σ H,⟨xs.length,by simp,Nat.zero_le _,h0⟩,?_⟩
 rintro i m σ H ⟨rfl,hi,p⟩
 have q:=hl i σ H hi p
 by_cases hlt:i<xs.length
 ·refine .inr ⟨⟨xs,xs[i],q,by simp [hlt]⟩,Pv (i+1),fun σ' H' p'=>⟨xs.length - (i+1),by omega,rfl,hlt,p'⟩,fun x H' y=>?_⟩
  obtain ⟨e,y⟩:=y
  subst e
  exact hs i x σ _ (y xs q) p
 ·have e:i=xs.length:=by omega
  subst e
  exact .inl ⟨⟨xs,q,Nat.le_refl _⟩,hd σ H p⟩
theorem for_range {lo:Int} {n:Nat} {g:TG} {tb:TS} {D:Ends} {σ:St} {H:Hp} (Pv:Nat→St→Hp→Prop) (h0:Pv 0 σ H)
  (hs:∀ i σ H,i<n→Pv i σ H→g (.int (lo+i)) σ H fun σ2 H2=>tb { D with nx:=Pv (i+1),ct:=Pv (i+1),bk:=D.nx } σ2 H2) (hd:∀ σ H,Pv n σ H→D.nx σ H) :
  ∃ W:Nat→Nat→St→Hp→Prop,(∃ m,W 0 m σ H)∧∀ i m σ H,W i m σ H →
   ((Itr lo n).stop i H∧D.nx σ H)∨((Itr lo n).go i H∧∃ N:St→Hp→Prop,(∀ σ' H',N σ' H'→∃ m',m'<m∧W (i+1) m' σ' H')∧∀ x H',(Itr lo n).yld i H x H'→g x σ H' fun σ2 H2=>tb { D with nx:=N,ct:=N,bk:=D.nx } σ2 H2):=by
 refine ⟨fun i m σ H=>m=n - i∧i≤n∧Pv i σ H,⟨n,by simp,Nat.zero_le _,h0⟩,?_⟩
 rintro i m σ H ⟨rfl,hi,p⟩
 by_cases hlt:i<n
 ·refine .inr ⟨hlt,Pv (i+1),fun σ' H' p'=>⟨n - (i+1),by omega,rfl,hlt,p'⟩,fun x H' y=>?_⟩
  obtain ⟨e,y⟩:=y
  subst e y
  exact hs i σ _ hlt p
 ·have e:i=n:=by omega
  subst e
  exact .inl ⟨Nat.le_refl _,hd σ H p⟩
end L2
namespace L2
open PySem PySem.Spec PyProof.Rows
abbrev R2:=V→V→Hp→VK→Prop
def OpR (X:Cx) (f:Value→Value→Sem Value) (r:R2):Prop :=
 ∀ (pins:List (Addr×Obj)) (s:Shared) (σ:St) (H:Hp) (x y:V) (v u:Value) (Q:VK),Inv X pins σ H s→RelV x v→RelV y u→r x y H Q →
  wpAny (model X.prog X.w) X.A (f v u) (EP X pins σ Q) X.xe s
def UnR (X:Cx) (f:Value→Sem Value) (r:V→Hp→VK→Prop):Prop :=
 ∀ (pins:List (Addr×Obj)) (s:Shared) (σ:St) (H:Hp) (x:V) (v:Value) (Q:VK),Inv X pins σ H s→RelV x v→r x H Q →
  wpAny (model X.prog X.w) X.A (f v) (EP X pins σ Q) X.xe s
def CallR (X:Cx) (f:Value) (r:List V→Hp→VK→Prop):Prop :=
 ∀ (pins:List (Addr×Obj)) (s:Shared) (σ:St) (H:Hp) (xs:List V) (us:List Value) (Q:VK),Inv X pins σ H s→Vals xs us→r xs H Q →
  wpAny (model X.prog X.w) X.A (call f us) (EP X pins σ Q) X.xe s
def tOp (r:R2) (ta tb:TE):TE:=fun σ H Q=>ta σ H fun x H1=>tb σ H1 fun y H2=>r x y H2 Q
def tUn (r:V→Hp→VK→Prop) (ta:TE):TE:=fun σ H Q=>ta σ H fun x H1=>r x H1 Q
def rI (C:Int→Int→Prop) (g:Int→Int→V):R2:=fun x y H Q=>∃ i j,x=.int i∧y=.int j∧C i j∧Q (g i j) H
def rI0 (g:Int→Int→V):R2:=fun x y H Q=>∃ i j,x=.int i∧y=.int j∧Q (g i j) H
def rU (g:Int→V):V→Hp→VK→Prop:=fun x H Q=>∃ i,x=.int i∧Q (g i) H
section
variable {X:Cx} {a b c:Expr} {ta tb tc:TE} {pos:Pos}
theorem binT (ha:PE X a ta) (hb:PE X b tb) {pins:List (Addr×Obj)} {s:Shared} {σ:St} {H:Hp} {R:V→V→Hp→Prop} (I:Inv X pins σ H s)
  (h:ta σ H fun x H1=>tb σ H1 fun y H2=>R x y H2) {Q:Value→Shared→Prop} {f:Value→Value→Sem Value}
  (hf:∀ v u s2 x y H2,Inv X pins σ H2 s2→RelV x v→RelV y u→R x y H2→wpAny (model X.prog X.w) X.A (f v u) Q X.xe s2) :
  wpAny (model X.prog X.w) X.A (eval a X.env) (fun v s₁=>wpAny (model X.prog X.w) X.A (eval b X.env) (fun u s₂=>wpAny (model X.prog X.w) X.A (f v u) Q X.xe s₂) X.xe s₁) X.xe s:=by
 refine thn (ha pins s σ H _ I h) fun v s1 ⟨x,H1,I1,r1,q1⟩=>?_
 refine thn (hb pins s1 σ H1 _ I1 q1) fun u s2 ⟨y,H2,I2,r2,q2⟩=>?_
 exact hf v u s2 x y H2 I2 r1 r2 q2
theorem pe_op {op:Operator} {r:R2} (ho:OpR X (binaryOp op) r) (ha:PE X a ta) (hb:PE X b tb):PE X (.BinOp a op b pos) (tOp r ta tb):=by
 intro pins s σ H Q I h
 exact wpAny_BinOp (binT ha hb I h fun v u s2 x y H2 I2 rx ry q=>ho pins s2 σ H2 x y v u Q I2 rx ry q)
theorem pe_un {op:UnaryOp} {r:V→Hp→VK→Prop} (ho:UnR X (unaryOp op) r) (ha:PE X a ta):PE X (.UnaryOp op a pos) (tUn r ta):=by
 intro pins s σ H Q I h
 exact UnaryOp_ (thn (ha pins s σ H _ I h) fun v s1 ⟨x,H1,I1,r1,q1⟩=>ho pins s1 σ H1 x v Q I1 r1 q1)
theorem opI {f:Value→Value→Sem Value} {C:Int→Int→Prop} {g:Int→Int→Int}
  (rule:∀ (i j:Int) (t u:Tok) (s:Shared) (Q:Value→Shared→Prop) (E:Value→Shared→Prop),C i j→Q (.int (g i j) s.toks) { s with toks:=s.toks+1 }→wpAny (model X.prog X.w) X.A (f (.int i t) (.int j u)) Q E s) :
  OpR X f (rI C fun i j=>.int (g i j)):=by
 intro pins s σ H x y v u Q I rx ry h
 obtain ⟨i,j,rfl,rfl,hc,q⟩:=h
 obtain ⟨t,rfl⟩:=rx
 obtain ⟨t',rfl⟩:=ry
 exact rule i j t t' s _ _ hc ⟨.int (g i j),H,I.tok _,⟨_,rfl⟩,q⟩
theorem opI0 {f:Value→Value→Sem Value} {g:Int→Int→Int}
  (rule:∀ (i j:Int) (t u:Tok) (s:Shared) (Q:Value→Shared→Prop) (E:Value→Shared→Prop),Q (.int (g i j) s.toks) { s with toks:=s.toks+1 }→wpAny (model X.prog X.w) X.A (f (.int i t) (.int j u)) Q E s) :
  OpR X f (rI0 fun i j=>.int (g i j)):=by
 intro pins s σ H x y v u Q I rx ry h
 obtain ⟨i,j,rfl,rfl,q⟩:=h
 obtain ⟨t,rfl⟩:=rx
 obtain ⟨t',rfl⟩:=ry
 exact rule i j t t' s _ _ ⟨.int (g i j),H,I.tok _,⟨_,rfl⟩,q⟩
theorem opB0 {f:Value→Value→Sem Value} {g:Int→Int→Bool}
  (rule:∀ (i j:Int) (t u:Tok) (s:Shared) (Q:Value→Shared→Prop) (E:Value→Shared→Prop),Q (.bool (g i j)) s→wpAny (model X.prog X.w) X.A (f (.int i t) (.int j u)) Q E s) :
  OpR X f (rI0 fun i j=>.bl (g i j)):=by
 intro pins s σ H x y v u Q I rx ry h
 obtain ⟨i,j,rfl,rfl,q⟩:=h
 obtain ⟨t,rfl⟩:=rx
 obtain ⟨t',rfl⟩:=ry
 exact rule i j t t' s _ _ ⟨.bl (g i j),H,I,rfl,q⟩
def CDiv (i j:Int):Prop:=0<j∧j<1073741824
def CPow (i j:Int):Prop:=0≤j∧j≤1000000∧i.natAbs<2 ^ 64
def CMul (i j:Int):Prop:=(-(2 ^ 64)<i∧i<2 ^ 64)∨(-(2 ^ 64)<j∧j<2 ^ 64)
theorem CMul.ok {i j:Int} (h:CMul i j):IntMulOk i j:=by
 rcases h with ⟨h1,h2⟩ | ⟨h1,h2⟩
 ·exact .of_left (intBits_le_64 h1 h2)
 ·exact .of_right (intBits_le_64 h1 h2)
theorem op_add:OpR X (binaryOp .Add) (rI0 fun i j=>.int (i+j)):=opI0 fun _ _ _ _ _ _ _ q=>add_int q
theorem op_sub:OpR X (binaryOp .Sub) (rI0 fun i j=>.int (i - j)):=opI0 fun _ _ _ _ _ _ _ q=>sub_int q
theorem op_mul:OpR X (binaryOp .Mult) (rI CMul fun i j=>.int (i*j)):=opI fun _ _ _ _ _ _ _ hc q=>mul_int q hc.ok
theorem op_fdiv:OpR X (binaryOp .FloorDiv) (rI CDiv fun i j=>.int (i / j)):=opI fun i j _ _ _ _ _ hc q=>by
 have h1:(0:Int)<j:=hc.1
 have h2:j<1073741824:=hc.2
 exact floordiv_int (by omega) (by rw [Int.fdiv_eq_ediv_of_nonneg i (by omega)]; exact q) (.inl (PyProof.noPylong_small (by omega)))
theorem op_mod:OpR X (binaryOp .Mod) (rI (fun _ j=>0<j) fun i j=>.int (i%j)):=opI fun i j _ _ _ _ _ hc q=>by
 have h1:(0:Int)<j:=hc
 exact mod_int' (by omega) (by rw [Int.fmod_eq_emod_of_nonneg i (by omega)]; exact q)
theorem op_pow:OpR X (binaryOp .Pow) (rI CPow fun i j=>.int (i ^ j.toNat)):=opI fun _ _ _ _ _ _ _ hc q=>pow_int_small hc.1 hc.2.1 hc.2.2 q
theorem unI {f:Value→Sem Value} {g:Int→Int}
  (rule:∀ (i:Int) (t:Tok) (s:Shared) (Q:Value→Shared→Prop) (E:Value→Shared→Prop),Q (.int (g i) s.toks) { s with toks:=s.toks+1 }→wpAny (model X.prog X.w) X.A (f (.int i t)) Q E s) :
  UnR X f (rU fun i=>.int (g i)):=by
 intro pins s σ H x v Q I rx h
 obtain ⟨i,rfl,q⟩:=h
 obtain ⟨t,rfl⟩:=rx
 exact rule i t s _ _ ⟨.int (g i),H,I.tok _,⟨_,rfl⟩,q⟩
theorem un_neg:UnR X (unaryOp .USub) (rU fun i=>.int (-i)):=unI fun _ _ _ _ _ q=>neg_int q
end
def scal:V→V→Bool
 | .non,.non=>true | .non,.int _=>true | .int _,.non=>true | .non,.bl _=>true | .bl _,.non=>true | .non,.str _=>true | .str _,.non=>true
 | .int _,.int _=>true | .bl _,.bl _=>true | .str _,.str _=>true | .byt _,.byt _=>true
 | .int _,.str _=>true | .str _,.int _=>true | .bl _,.str _=>true | .str _,.bl _=>true
 | _,_=>false
def rEq:R2:=fun x y H Q=>scal x y=true∧Q (.bl (decide (x=y))) H
def rNe:R2:=fun x y H Q=>scal x y=true∧Q (.bl (!decide (x=y))) H
theorem dec_int {i j:Int}:decide (V.int i=V.int j)=(i==j):=by
 rw [Bool.eq_iff_iff]
 simp
theorem dec_bl {i j:Bool}:decide (V.bl i=V.bl j)=(i==j):=by
 rw [Bool.eq_iff_iff]
 simp
theorem dec_str {i j:Str}:decide (V.str i=V.str j)=(i==j):=by
 rw [Bool.eq_iff_iff]
 simp
theorem dec_byt {i j:Array UInt8}:decide (V.byt i=V.byt j)=(i.toList==j.toList):=by
 rw [Bool.eq_iff_iff]
 cases i
 cases j
 simp
section
variable {X:Cx} {a b c:Expr} {ta tb tc:TE} {pos:Pos}
theorem fin_bl {pins:List (Addr×Obj)} {σ:St} {H:Hp} {s:Shared} {Q:VK} {k k':Bool} (I:Inv X pins σ H s) (q:Q (.bl k) H) (e:k=k'):EP X pins σ Q (.bool k') s:=by
 subst e
 exact ⟨.bl k,H,I,rfl,q⟩
theorem op_eq:OpR X (compareOp .Eq) rEq:=by
 intro pins s σ H x y v u Q I rx ry h
 obtain ⟨hs,q⟩:=h
 cases x with
 | non =>
  cases rx
  cases y with
  | non => cases ry; exact PySem.EqNone.eq_none_none (fin_bl I q (by simp))
  | bl j => cases ry; exact PySem.EqNone.eq_none_bool (fin_bl I q (by simp))
  | int j => obtain ⟨t', rfl⟩ := ry; exact PySem.EqNone.eq_none_int (fin_bl I q (by simp))
  | str j => obtain ⟨t', rfl⟩ := ry; exact PySem.EqNone.eq_none_str (fin_bl I q (by simp))
  | _ => exact absurd (show false = true from hs) Bool.false_ne_true
 | bl i =>
  cases rx
  cases y with
  | non => cases ry; exact PySem.EqNone.eq_bool_none (fin_bl I q (by simp))
  | bl j => cases ry; exact eq_bool (fin_bl I q dec_bl)
  | str j => obtain ⟨t', rfl⟩ := ry; exact PySem.EqMixed.eq_bool_str (fin_bl I q (by simp))
  | _ => exact absurd (show false = true from hs) Bool.false_ne_true
 | int i =>
  obtain ⟨t,rfl⟩:=rx
  cases y with
  | non => cases ry; exact PySem.EqNone.eq_int_none (fin_bl I q (by simp))
  | int j => obtain ⟨t', rfl⟩ := ry; exact eq_int (fin_bl I q dec_int)
  | str j => obtain ⟨t', rfl⟩ := ry; exact PySem.EqMixed.eq_int_str (fin_bl I q (by simp))
  | _ => exact absurd (show false = true from hs) Bool.false_ne_true
 | str i =>
  obtain ⟨t,rfl⟩:=rx
  cases y with
  | non => cases ry; exact PySem.EqNone.eq_str_none (fin_bl I q (by simp))
  | bl j => cases ry; exact PySem.EqMixed.eq_str_bool (fin_bl I q (by simp))
  | int j => obtain ⟨t', rfl⟩ := ry; exact PySem.EqMixed.eq_str_int (fin_bl I q (by simp))
  | str j => obtain ⟨t', rfl⟩ := ry; exact eq_str (fin_bl I q dec_str)
  | _ => exact absurd (show false = true from hs) Bool.false_ne_true
 | byt i =>
  obtain ⟨t,rfl⟩:=rx
  cases y with
  | byt j => obtain ⟨t', rfl⟩ := ry; exact PySem.W.eq_bytes (fin_bl I q dec_byt)
  | _ => exact absurd (show false = true from hs) Bool.false_ne_true
 | _=>cases y<;>exact absurd (show false=true from hs) Bool.false_ne_true
theorem op_ne:OpR X (compareOp .NotEq) rNe:=by
 intro pins s σ H x y v u Q I rx ry h
 obtain ⟨hs,q⟩:=h
 cases x with
 | non =>
  cases rx
  cases y with
  | non => cases ry; exact PySem.EqNone.ne_none_none (fin_bl I q (by simp))
  | bl j => cases ry; exact PySem.EqNone.ne_none_bool (fin_bl I q (by simp))
  | int j => obtain ⟨t', rfl⟩ := ry; exact PySem.EqNone.ne_none_int (fin_bl I q (by simp))
  | str j => obtain ⟨t', rfl⟩ := ry; exact PySem.EqNone.ne_none_str (fin_bl I q (by simp))
  | _ => exact absurd (show false = true from hs) Bool.false_ne_true
 | bl i =>
  cases rx
  cases y with
  | non => cases ry; exact PySem.EqNone.ne_bool_none (fin_bl I q (by simp))
  | bl j => cases ry; exact ne_bool (fin_bl I q (congrArg not dec_bl))
  | str j => obtain ⟨t', rfl⟩ := ry; exact PySem.EqMixed.ne_bool_str (fin_bl I q (by simp))
  | _ => exact absurd (show false = true from hs) Bool.false_ne_true
 | int i =>
  obtain ⟨t,rfl⟩:=rx
  cases y with
  | non => cases ry; exact PySem.EqNone.ne_int_none (fin_bl I q (by simp))
  | int j => obtain ⟨t', rfl⟩ := ry; exact ne_int (fin_bl I q (congrArg not dec_int))
  | str j => obtain ⟨t', rfl⟩ := ry; exact PySem.EqMixed.ne_int_str (fin_bl I q (by simp))
  | _ => exact absurd (show false = true from hs) Bool.false_ne_true
 | str i =>
  obtain ⟨t,rfl⟩:=rx
  cases y with
  | non => cases ry; exact PySem.EqNone.ne_str_none (fin_bl I q (by simp))
  | bl j => cases ry; exact PySem.EqMixed.ne_str_bool (fin_bl I q (by simp))
  | int j => obtain ⟨t', rfl⟩ := ry; exact PySem.EqMixed.ne_str_int (fin_bl I q (by simp))
  | str j => obtain ⟨t', rfl⟩ := ry; exact ne_str (fin_bl I q (congrArg not dec_str))
  | _ => exact absurd (show false = true from hs) Bool.false_ne_true
 | byt i =>
  obtain ⟨t,rfl⟩:=rx
  cases y with
  | byt j => obtain ⟨t', rfl⟩ := ry; exact PySem.W.ne_bytes (fin_bl I q (congrArg not dec_byt))
  | _ => exact absurd (show false = true from hs) Bool.false_ne_true
 | _=>cases y<;>exact absurd (show false=true from hs) Bool.false_ne_true
theorem op_lt:OpR X (compareOp .Lt) (rI0 fun i j=>.bl (decide (i<j))):=opB0 fun _ _ _ _ _ _ _ q=>lt_int q
theorem op_le:OpR X (compareOp .LtE) (rI0 fun i j=>.bl (decide (i≤j))):=opB0 fun _ _ _ _ _ _ _ q=>le_int q
theorem op_gt:OpR X (compareOp .Gt) (rI0 fun i j=>.bl (decide (j<i))):=opB0 fun _ _ _ _ _ _ _ q=>gt_int q
theorem op_notN:OpR X (compareOp .IsNot) (fun x y H Q=>y=.non∧Q (.bl (!decide (x=.non))) H):=by
 intro pins s σ H x y v u Q I rx ry h
 obtain ⟨rfl,q⟩:=h
 cases ry
 refine isnot_none_gen (fin_bl I q ?_)
 cases x<;>first
  | (cases rx; rfl)
  | (obtain ⟨t, rfl⟩ := rx; rfl)
theorem nomark (b:Expr) {op:CmpOp} (h:op≠.In:=by decide) (h2:op≠.NotIn:=by decide):behindInMarks op b=false:=by
 have e1:(op==CmpOp.In)=false:=by cases op<;>first | rfl | exact absurd rfl h
 have e2:(op==CmpOp.NotIn)=false:=by cases op<;>first | rfl | exact absurd rfl h2
 cases b<;>simp [behindInMarks,e1,e2]
theorem pe_cmpR {op:CmpOp} {r:R2} (ho:OpR X (compareOp op) r) (ha:PE X a ta) (hb:PE X b tb) (hm:behindInMarks op b=false):PE X (.Compare a [op] [b] pos) (tOp r ta tb):=by
 intro pins s σ H Q I h
 exact wpAny_Compare1 (binT ha hb I h fun v u s2 x y H2 I2 rx ry q=>ho pins s2 σ H2 x y v u Q I2 rx ry q) hm
def tTest (t:TE):TT:=fun σ H Q=>t σ H fun x H'=>∃ k,x=.bl k∧Q k H'
theorem pt_cmpR {op:CmpOp} {r:R2} (ho:OpR X (compareOp op) r) (ha:PE X a ta) (hb:PE X b tb) (hm:behindInMarks op b=false):PT X (.Compare a [op] [b] pos) (tTest (tOp r ta tb)):=by
 intro pins s σ H Q I h
 refine wpAny_isTrue_Compare1 (thn (ha pins s σ H _ I h) fun v s1 ⟨x,H1,I1,r1,q1⟩=>thn (hb pins s1 σ H1 _ I1 q1) fun u s2 ⟨y,H2,I2,r2,q2⟩ =>
  thn (ho pins s2 σ H2 x y v u _ I2 r1 r2 q2) fun c s3 ⟨z,H3,I3,r3,k,e,q3⟩=>?_) hm
 subst e
 cases r3
 exact wpAny_truthy_bool ⟨H3,I3,q3⟩
def tChain (r r':R2) (ta tb tc:TE):TE:=fun σ H Q=>ta σ H fun x H1=>tb σ H1 fun y H2=>r x y H2 fun z H3=>∃ k,z=.bl k ∧
 (if k=true then tc σ H3 fun w' H4=>r' y w' H4 Q else Q (.bl false) H3)
theorem pe_chain {op op':CmpOp} {r r':R2} (ho:OpR X (compareOp op) r) (ho':OpR X (compareOp op') r') (ha:PE X a ta) (hb:PE X b tb) (hc:PE X c tc)
  (hm:lastMarks [op,op'] [b,c]=false:=by with_unfolding_all rfl):PE X (.Compare a [op,op'] [b,c] pos) (tChain r r' ta tb tc):=by
 intro pins s σ H Q I h
 refine Compare_chain (thn (ha pins s σ H _ I h) fun v s1 ⟨x,H1,I1,r1,q1⟩=>chain_link (thn (hb pins s1 σ H1 _ I1 q1) fun u s2 ⟨y,H2,I2,r2,q2⟩ =>
  thn (ho pins s2 σ H2 x y v u _ I2 r1 r2 q2) fun d s3 ⟨z,H3,I3,r3,k,e,q3⟩=>?_)) hm
 subst e
 cases r3
 refine wpAny_truthy_bool ?_
 cases k with
 | false=>exact ite_ff ⟨.bl false,H3,I3,rfl,q3⟩
 | true=>exact ite_tt (chain_last (thn (hc pins s3 σ H3 _ I3 q3) fun w' s4 ⟨z',H4,I4,r4,q4⟩=>ho' pins s4 σ H4 y z' u w' Q I4 r2 r4 q4))
theorem line63:(sizeLine:Nat)<2 ^ 63:=by rw [sizeLine_eq]; decide
theorem vals1 {x:V} {us:List Value} (r:Vals [x] us):∃ u,us=[u]∧RelV x u:=by
 cases r with
 | cons r1 r2=>cases r2; exact ⟨_,rfl,r1⟩
theorem call_abs:CallR X (.builtin "abs") (fun xs H Q=>∃ i,xs=[.int i]∧Q (.int (if i<0 then -i else i)) H):=by
 intro pins s σ H xs us Q I r h
 obtain ⟨i,rfl,q⟩:=h
 obtain ⟨u,rfl,t,rfl⟩:=vals1 r
 exact call_abs_int fun u tk=>⟨.int (if i<0 then -i else i),H,I.tok _,⟨_,rfl⟩,q⟩
end
end L2
namespace L2
open PySem PySem.Spec PyProof.Rows
structure ObjM (h:Heap) (x dx C:Addr) (mA:Str→Option Value):Prop where
 obj:h.get? x=some (PySem.W.instObj C dx)
 ns:h.Ns1 dx mA
 ne:dx≠x
theorem lookIn_ns {h:Heap} {dx:Addr} {mA:Str→Option Value} (n:h.Ns1 dx mA):∃ od,h.get? dx=some od∧∀ name,PySem.W.lookIn name od=some (mA name):=by
 obtain ⟨o,es,ep,ho,hd,hk,_,hm⟩:=n
 refine ⟨o,ho,fun name=>?_⟩
 have e:=hm name
 unfold nsFind findBy at e
 rw [← Array.find?_toList] at e
 unfold PySem.W.lookIn
 rw [hd]
 dsimp only
 split
 ·rename_i y q
  rw [q] at e
  exact congrArg some e
 ·rename_i q
  rw [q] at e
  have a:es.toList.any (·.refKey)=false:=by
   rw [List.any_eq_false]
   intro y hy
   obtain ⟨z,t,hkey⟩:=hk y (Array.mem_toList_iff.mp hy)
   simp [DictEntry.refKey,hkey]
  have a':¬ es.toList.any (·.refKey)=true:=by rw [a]; exact Bool.false_ne_true
  rw [if_neg a']
  exact congrArg some e
theorem ObjM.look {h:Heap} {x dx C:Addr} {mA:Str→Option Value} (I:ObjM h x dx C mA):∃ od,PySem.W.InstAt h x (PySem.W.instObj C dx) C (some od)∧∀ name,PySem.W.lookIn name od=some (mA name) :=
 let ⟨od,ho,hl⟩:=lookIn_ns I.ns
 ⟨od,⟨I.obj,rfl,rfl,ho⟩,hl⟩
section
variable {prog:Program} {w:World} {A:Around} {E:Value→Shared→Prop} {s:Shared} {K:PySem.W.Frag} {x dx C f:Addr} {mA:Str→Option Value} {name:Str} {v:Value}
theorem get_map {expr:Bool} {Q:Value→Shared→Prop} (X:K.In s.heap) (I:ObjM s.heap x dx C mA) (hg:PySem.W.plainGet K C name=true) (hh:PySem.W.hasDictIn K C=true)
  (ha:PySem.W.findIn K (.ref C) name=some none) (hv:mA name=some v) (hv':PySem.W.handedIn v=true) (h:Q v { s with toks:=s.toks+1 }) :
  wpAny (model prog w) A (getAttr (.ref x) name expr) Q E s:=by
 obtain ⟨od,J,hl⟩:=I.look
 exact PySem.W.get_value X J (PySem.W.plainGet_of hg).1 (PySem.W.findObj_own hh ha rfl (by rw [hl,hv])) hv' h
theorem get_meth {pl:Sem Bool} {Q:Value×List Value→Shared→Prop} (X:K.In s.heap) (I:ObjM s.heap x dx C mA) (hg:PySem.W.plainGet K C name=true)
  (hf:PySem.W.findIn K (.ref C) name=some (some (.ref f))) (ht:PySem.W.isFn K (.ref f)=true) (hv:mA name=none) (h:Q (.ref f,[.ref x]) s) :
  wpAny (model prog w) A (getMethod (.ref x) name pl) Q E s:=by
 obtain ⟨od,J,hl⟩:=I.look
 exact PySem.W.method_fn X J (PySem.W.plainGet_of hg).1 (PySem.W.plainGet_of hg).2 hf (beq_iff_eq.mp ht) (by show (PySem.W.lookIn name od).map (·.isSome)=some false; rw [hl,hv]; rfl) h
theorem set_map {ns:List Str} {Q:Unit→Shared→Prop} (X:K.In s.heap) (I:ObjM s.heap x dx C mA)
  (hs:PySem.W.findIn K (.ref C) "__setattr__"=some (some (.builtin "object.__setattr__"))) (hp:PySem.W.plainOver K C=true) (ht:PySem.W.takerIn K C name=some none) (hh:PySem.W.hasDictIn K C=true)
  (hw:PySem.Within mA ns) (hsz:ns.length≤sizeLine)
  (h:∀ h',ObjM h' x dx C (fun y=>if y=name then some v else mA y)→Heap.SameBut dx s.heap h'→Q () { s with heap:=h',toks:=s.toks+2 }) :
  wpAny (model prog w) A (setAttr (.ref x) name v) Q E s:=by
 obtain ⟨od,J,hl⟩:=I.look
 refine PySem.W.set_plain X J hs (PySem.W.osa_open (s:={ s with toks:=s.toks+1 }) (r:=none) X J hp ht fun b=>?_)
 obtain ⟨cd,hc,hd'⟩:=PySem.W.any_some hh
 have hx:s.heap.get? x=some ⟨.ref C,some dx,.plain,#[]⟩:=I.obj
 refine wpAny_bind (wpAny_pure (wpAny_bind (wpAny_bind (wpAny_loadPart hx (wpAny_bind (PySem.W.Looks.here (s:={ s with toks:=s.toks+1 }) (PySem.W.looks_clsIn X hc) ?_))))))
 rw [hd']
 refine wpAny_pure (a:=some dx) (wpAny_bind (wpAny_pure (wpAny_bind ?_)))
 refine wpAny_nsSet1 (s:={ s with toks:=s.toks+1 }) I.ns fun h' hn2 hs2=>?_
 obtain ⟨oD,esD,epD,hoD,hdD,hcD⟩:=hn2.count (PySem.Within.cons name v hw)
 refine wpAny_bind (wpAny_lookBehind hoD (by rw [hdD]; exact pastItsLine_dict (Nat.le_trans hcD (by rw [List.length_cons]; omega))) ?_)
 exact wpAny_pure (h _ ⟨(hs2.2 _ (Ne.symm I.ne)).trans I.obj,hn2,I.ne⟩ hs2)
theorem make_map {R:Result→Shared→Prop} {vs:List Value} {kw:List (Str×Value)} (X:K.In s.heap) (hm:PySem.W.makesIn K C=true)
  (hi:PySem.W.findIn K (.ref C) "__init__"=some (some (.ref f))) (hf:PySem.W.typeIn K (.ref f)=some (.type "function"))
  (h:codeAny (model prog w) (A.under (.builtin "type.__call__" ⟨.ref C::vs,kw⟩)) (.call (.ref f) ⟨.ref (s.heap.objs.size+1)::vs,kw⟩) (PySem.W.InitBack (s.heap.objs.size+1) R)
   { s with heap:=(s.heap.push PySem.W.emptyDict).push (PySem.W.instObj C s.heap.objs.size) }) :
  codeAny (model prog w) A (.call (.ref C) ⟨vs,kw⟩) R s:=by
 obtain ⟨hh,g,d,t,os⟩:=s
 exact PySem.W.make_core (PySem.W.makes_of X hm) (PySem.W.looks_findIn X hi) (fun self=>PySem.W.bind_fn X self hf) (.inl rfl) h
end
def putF (f:Str) (v:V):List (Str×V)→List (Str×V)
 | []=>[(f,v)]
 | (g,x)::r=>if g=f then (g,v)::r else (g,x)::putF f v r
theorem lookup_putF (f g:Str) (v:V):∀ fs:List (Str×V),(putF f v fs).lookup g=if g=f then some v else fs.lookup g
 | []=>by
  show List.lookup g [(f,v)]=_
  by_cases h:g=f
  ·have hb:(g==f)=true:=beq_iff_eq.mpr h
   simp only [List.lookup,hb,if_pos h]
  ·have hb:(g==f)=false:=beq_eq_false_iff_ne.mpr h
   simp only [List.lookup,hb,if_neg h]
 | (k,x)::r=>by
  have ih:=lookup_putF f g v r
  rw [show putF f v ((k,x)::r)=(if k=f then (k,v)::r else (k,x)::putF f v r) from rfl]
  by_cases hk:k=f
  ·rw [if_pos hk]
   by_cases h:g=k
   ·have hb:(g==k)=true:=beq_iff_eq.mpr h
    simp only [List.lookup,hb,if_pos (h.trans hk)]
   ·have hb:(g==k)=false:=beq_eq_false_iff_ne.mpr h
    simp only [List.lookup,hb,if_neg (fun e:g=f=>h (e.trans hk.symm))]
  ·rw [if_neg hk]
   by_cases h:g=k
   ·have hb:(g==k)=true:=beq_iff_eq.mpr h
    simp only [List.lookup,hb,if_neg (fun e:g=f=>hk (h.symm.trans e))]
   ·have hb:(g==k)=false:=beq_eq_false_iff_ne.mpr h
    simp only [List.lookup,hb]
    exact ih
theorem keys_putF (f:Str) (v:V):∀ fs:List (Str×V),f∈(putF f v fs).map (·.1)∧∀ g,g∈fs.map (·.1)→g∈(putF f v fs).map (·.1)
 | []=>⟨by simp [putF],fun g h=>by simp at h⟩
 | (k,x)::r=>by
  obtain ⟨i1,i2⟩:=keys_putF f v r
  rw [show putF f v ((k,x)::r)=(if k=f then (k,v)::r else (k,x)::putF f v r) from rfl]
  by_cases hk:k=f
  ·rw [if_pos hk]
   subst hk
   exact ⟨by simp,fun g h=>by simpa using h⟩
  ·rw [if_neg hk]
   refine ⟨?_,fun g h=>?_⟩
   ·rw [List.map_cons]
    exact List.mem_cons_of_mem _ i1
   ·rw [List.map_cons] at h ⊢
    rcases List.mem_cons.mp h with e | e
    ·exact List.mem_cons.mpr (.inl e)
    ·exact List.mem_cons_of_mem _ (i2 g e)
theorem length_putF (f:Str) (v:V):∀ fs:List (Str×V),(putF f v fs).length≤fs.length+1
 | []=>by simp [putF]
 | (k,x)::r=>by
  have ih:=length_putF f v r
  rw [show putF f v ((k,x)::r)=(if k=f then (k,v)::r else (k,x)::putF f v r) from rfl]
  by_cases hk:k=f
  ·rw [if_pos hk,List.length_cons,List.length_cons]; omega
  ·rw [if_neg hk,List.length_cons,List.length_cons]; omega
theorem RelO.some_of {v:V} {o:Option Value} (r:RelO (some v) o):∃ u,o=some u∧RelV v u:=by
 cases o with
 | none=>exact (show False from r).elim
 | some u=>exact ⟨u,rfl,r⟩
theorem RelO.none_of {o:Option Value} (r:RelO none o):o=none:=by
 cases o with
 | none=>rfl
 | some u=>exact (show False from r).elim
theorem handed_of {v:V} {u:Value} (r:RelV v u):PySem.W.handedIn u=true:=by
 cases v with
 | non=>cases (show u=Value.none from r); rfl
 | bl b=>cases (show u=Value.bool b from r); rfl
 | int i=>obtain ⟨t,e⟩:=(show ∃ t,u=Value.int i t from r); cases e; rfl
 | str x=>obtain ⟨t,e⟩:=(show ∃ t,u=Value.str x t from r); cases e; rfl
 | byt b=>obtain ⟨t,e⟩:=(show ∃ t,u=Value.bytes b t from r); cases e; rfl
 | flt b=>obtain ⟨t,e⟩:=(show ∃ t,u=Value.float b t from r); cases e; rfl
 | ref a=>cases (show u=Value.ref a from r); rfl
 | ty n=>cases (show u=Value.type n from r); rfl
section
variable {P:Program} {w:World} {H H':Hp} {h h':Heap} {a C dx:Addr} {fs fs':List (Str×V)}
theorem ins_get (hok:HOk P w H h) (e:H a=some (.ins C dx fs)):∃ mA,ObjM h a dx C mA∧(∀ f,RelO (fs.lookup f) (mA f))∧PySem.Within mA (fs.map (·.1))∧fs.length≤1000∧H dx=some (.own a):=by
 obtain ⟨d,z,ne,ob,mA,n,r,q⟩:=(show ObjOk P w H h a (.ins C dx fs) from hok a _ e)
 exact ⟨mA,⟨ob,n,ne⟩,r,q,z,d⟩
end
structure Cls (K:PySem.W.Frag) (C:Addr):Prop where
 pg:PySem.W.plainGet K C Str.empty=true
 hd:PySem.W.hasDictIn K C=true
 po:PySem.W.plainOver K C=true
 sa:PySem.W.findIn K (.ref C) "__setattr__"=some (some (.builtin "object.__setattr__"))
theorem Cls.get {K:PySem.W.Frag} {C:Addr} (c:Cls K C) (f:Str):PySem.W.plainGet K C f=true:=c.pg
def NoAttr (K:PySem.W.Frag) (C:Addr) (f:Str):Prop:=PySem.W.findIn K (.ref C) f=some none
theorem NoAttr.taker {K:PySem.W.Frag} {C:Addr} {f:Str} (n:NoAttr K C f):PySem.W.takerIn K C f=some none:=by
 unfold PySem.W.takerIn
 rw [show PySem.W.findIn K (.ref C) f=some none from n]
 rfl
structure Con (K:PySem.W.Frag) (C:Addr) (f:Str) (v:V) (u:Value):Prop where
 at_:PySem.W.findIn K (.ref C) f=some (some u)
 rel:RelV v u
 get:PySem.W.specialIn K u "__get__"=some none
 cp:PySem.W.copiedNames.contains f=false
structure Meth (K:PySem.W.Frag) (C:Addr) (m:Str) (f:Addr):Prop where
 at_:PySem.W.findIn K (.ref C) m=some (some (.ref f))
 fn:PySem.W.isFn K (.ref f)=true
 kp:PySem.W.keepIn K (.ref f)=true
section
variable {X:Cx} {pins:List (Addr×Obj)} {σ:St} {H:Hp} {s:Shared} {a C dx:Addr} {fs:List (Str×V)} {f:Str} {v:V} {A:Around} {E:Value→Shared→Prop}
theorem getattr_ok {b:Bool} {Q:Value→Shared→Prop} (I:Inv X pins σ H s) (e:H a=some (.ins C dx fs)) (c:Cls X.K C) (n:NoAttr X.K C f) (l:fs.lookup f=some v)
  (h:∀ u s',Inv X pins σ H s'→RelV v u→Q u s'):wpAny (model X.prog X.w) A (getAttr (.ref a) f b) Q E s:=by
 obtain ⟨mA,O,r,_,_,_⟩:=ins_get I.hok e
 obtain ⟨u,hu,ru⟩:=RelO.some_of (v:=v) (o:=mA f) (by rw [← l]; exact r f)
 exact get_map I.kIn O (c.get f) c.hd n hu (handed_of ru) (h u _ (I.tok _) ru)
theorem getmeth_ok {m:Str} {g:Addr} {pl:Sem Bool} {Q:Value×List Value→Shared→Prop} (I:Inv X pins σ H s) (e:H a=some (.ins C dx fs)) (c:Cls X.K C) (k:Meth X.K C m g) (l:fs.lookup m=none)
  (h:Q (.ref g,[.ref a]) s):wpAny (model X.prog X.w) A (getMethod (.ref a) m pl) Q E s:=by
 obtain ⟨mA,O,r,_,_,_⟩:=ins_get I.hok e
 have hn:mA m=none:=RelO.none_of (by rw [← l]; exact r m)
 exact get_meth I.kIn O (c.get m) k.at_ k.fn hn h
theorem setattr_ok {y:V} {u:Value} {Q:Unit→Shared→Prop} (I:Inv X pins σ H s) (e:H a=some (.ins C dx fs)) (c:Cls X.K C) (n:NoAttr X.K C f) (hl:fs.length<1000) (ry:RelV y u)
  (h:∀ s',Inv X pins σ (upd H a (.ins C dx (putF f y fs))) s'→Q () s'):wpAny (model X.prog X.w) A (setAttr (.ref a) f u) Q E s:=by
 obtain ⟨mA,O,r,wi,_,ho⟩:=ins_get I.hok e
 have hz:(fs.map (·.1)).length≤sizeLine:=by rw [List.length_map,sizeLine_eq]; omega
 refine set_map I.kIn O c.sa c.po n.taker c.hd wi hz fun h' O' sb=>h _ ?_
 have hd:∃ o,h'.get? dx=some o:=let ⟨o,_,_,e',_⟩:=O'.ns; ⟨o,e'⟩
 refine I.write (x:=a) (e:=dx) (by rw [e]; exact True.intro) (.inr ho) (fun b q hb z=>(sb.2 b hb).trans z) hd ?_
 refine ⟨by rw [upd_ne O.ne]; exact ho,?_,O.ne,O'.obj,_,O'.ns,fun g=>?_,fun g hg=>?_⟩
 ·have:=length_putF f y fs; omega
 ·show RelO ((putF f y fs).lookup g) (if g=f then some u else mA g)
  rw [lookup_putF]
  by_cases q:g=f
  ·rw [if_pos q,if_pos q]; exact ry
  ·rw [if_neg q,if_neg q]; exact r g
 ·by_cases q:g=f
  ·rw [q]; exact (keys_putF f y fs).1
  ·refine (keys_putF f y fs).2 g (wi g fun z=>hg ?_)
   show (if g=f then some u else mA g)=none
   rw [if_neg q]; exact z
theorem Inv.made (I:Inv X pins σ H s):Inv X pins σ (upd (upd H s.heap.objs.size (.own (s.heap.objs.size+1))) (s.heap.objs.size+1) (.ins C s.heap.objs.size []))
  { s with heap:=(s.heap.push PySem.W.emptyDict).push (PySem.W.instObj C s.heap.objs.size) }:=by
 have e1:(s.heap.push PySem.W.emptyDict).get? s.heap.objs.size=some PySem.W.emptyDict:=Heap.get?_push_size s.heap rfl
 have e2:((s.heap.push PySem.W.emptyDict).push (PySem.W.instObj C s.heap.objs.size)).get? (s.heap.objs.size+1)=some (PySem.W.instObj C s.heap.objs.size):=by
  have:=Heap.get?_push_size (s.heap.push PySem.W.emptyDict) (o:=PySem.W.instObj C s.heap.objs.size) rfl
  rwa [Heap.size_push] at this
 have e3:(s.heap.push PySem.W.emptyDict).Ns s.heap.objs.size (fun _=>none):=⟨PySem.W.emptyDict,#[],_,e1,rfl,(fun e he=>absurd he (by simp)),fun _=>rfl⟩
 have I1:=I.laid (a:=s.heap.objs.size) (o:=.own (s.heap.objs.size+1)) (h':=s.heap.push PySem.W.emptyDict) (t':=s.toks) (fun b u q=>Heap.get?_push_of_some _ q) (Nat.le_refl _) ⟨_,e1⟩
 refine I1.laid (a:=s.heap.objs.size+1) (o:=.ins C s.heap.objs.size []) (t':=s.toks) (fun b u q=>Heap.get?_push_of_some _ q) (Nat.le_of_eq (Heap.size_push _ _)) ?_
 have ne:s.heap.objs.size≠s.heap.objs.size+1:=Nat.ne_of_lt (Nat.lt_succ_self _)
 refine ⟨by rw [upd_ne ne,upd_same],Nat.zero_le _,ne,e2,fun _=>none,(Heap.Ns1.of_empty e3).at fun o q=>Heap.get?_push_of_some _ q,fun _=>True.intro,fun y hy=>absurd rfl hy⟩
theorem attr_of {prog:Program} {w:World} {env:Env} {e:Expr} {f:Str} {pos:Pos} {s:Shared} {Q:Value→Shared→Prop} (hb:attributeBase e f env (eval e env)=eval e env)
  (h:wpAny (model prog w) A (eval e env) (fun o s₁=>wpAny (model prog w) A (getAttr o f true) Q E s₁) E s):wpAny (model prog w) A (eval (.Attribute e f pos) env) Q E s :=
 Attribute_any_ h (by rw [arm_eval_Attribute,hb])
end
def tFld (K:PySem.W.Frag) (ta:TE) (f:Str):TE:=fun σ H Q=>ta σ H fun x H1=>∃ a C dx fs v,x=.ref a∧H1 a=some (.ins C dx fs)∧Cls K C∧NoAttr K C f∧fs.lookup f=some v∧Q v H1
def sFld (K:PySem.W.Frag) (ta tv:TE) (f:Str):TS:=fun D σ H=>tv σ H fun y H1=>ta σ H1 fun x H2=>∃ a C dx fs,x=.ref a∧H2 a=some (.ins C dx fs)∧Cls K C∧NoAttr K C f∧fs.length<1000 ∧
 D.nx σ (upd H2 a (.ins C dx (putF f y fs)))
section
variable {X:Cx} {o e value:Expr} {f:Str} {pos pos' tpos:Pos} {ta tv:TE}
theorem pe_fld (he:PE X e ta) (hb:attributeBase e f X.env (eval e X.env)=eval e X.env):PE X (.Attribute e f pos) (tFld X.K ta f):=by
 intro pins s σ H Q I h
 refine attr_of hb (thn (he pins s σ H _ I h) fun u s1 ⟨x,H1,I1,rx,a,C,dx,fs,v,ex,ea,c,n,l,q⟩=>?_)
 subst ex
 obtain rfl:u=Value.ref a:=rx
 exact getattr_ok I1 ea c n l fun u' s2 I2 ru=>⟨v,H1,I2,ru,q⟩
theorem ps_fld (ha:PE X o ta) (hv:PE X value tv) (hs:swapsWith value (some (.Attribute o f pos')) pos.line X.env=pure false):PS X (.Assign [.Attribute o f pos'] value pos) (sFld X.K ta tv f):=by
 intro pins s σ H D I h
 refine plainObj_wpAny_Assign_Attribute (thn (hv pins s σ H _ I h) fun u s1 ⟨y,H1,I1,ry,q⟩=>thn (ha pins s1 σ H1 _ I1 q) fun ov s2 ⟨x,H2,I2,rx,a,C,dx,fs,ex,ea,c,n,l,q2⟩=>?_) hs
 subst ex
 obtain rfl:ov=Value.ref a:=rx
 exact setattr_ok I2 ea c n l ry fun s3 I3=>⟨σ,_,I3,q2⟩
end
section
variable {X:Cx} {pins:List (Addr×Obj)} {σ:St} {H:Hp} {s:Shared} {A:Around} {E:Value→Shared→Prop} {Q:Value→Shared→Prop} {c:Value} {b:Bool}
inductive TyOf (K:PySem.W.Frag) (H:Hp):V→Value→Prop where
  | non : TyOf K H .non (.type "NoneType")
  | bl (x : Bool) : TyOf K H (.bl x) (.type "bool")
  | int (i : Int) : TyOf K H (.int i) (.type "int")
  | str (x : Str) : TyOf K H (.str x) (.type "str")
  | flt (x : UInt64) : TyOf K H (.flt x) (.type "float")
  | lst {a : Addr} {xs : List V} (e : H a = some (.lst xs)) : TyOf K H (.ref a) (.type "list")
  | frz {a : Addr} {o : Obj} {xs : List V} (e : H a = some (.frz o (.lst xs))) : TyOf K H (.ref a) (.type "list")
  | tup {a : Addr} {xs : List V} (e : H a = some (.tup xs)) : TyOf K H (.ref a) (.type "tuple")
  | dK {a : Addr} {kvs : List (Key × V)} (e : H a = some (.dK kvs)) : TyOf K H (.ref a) (.type "dict")
  | dT {a : Addr} {kvs : List (List Key × V)} (e : H a = some (.dT kvs)) : TyOf K H (.ref a) (.type "dict")
  | ins {a C dx : Addr} {fs : List (Str × V)} (e : H a = some (.ins C dx fs)) (cl : Cls K C) (ha : PySem.W.findIn K (.ref C) "__class__" = some (some (.builtin "object.__class__")))
      (hn:PySem.W.specialIn K (.builtin "object.__class__") "__get__"=some (some (.builtin "getset_descriptor.__get__"))) (htk:PySem.W.takesIn K (.builtin "object.__class__")=some true)
      (hm:PySem.W.mroIn K C (.type "object")=some true):TyOf K H (.ref a) (.ref C)
theorem isinst_ok {x:V} {u t:Value} (I:Inv X pins σ H s) (rx:RelV x u) (ty:TyOf X.K H x t) (e:PySem.W.kitOne X.K t c=some b) (h:∀ tk,Q (.bool b) { s with toks:=tk }) :
  wpAny (model X.prog X.w) A (call (.builtin "isinstance") [u,c]) Q E s:=by
 cases ty with
 | non=>cases (show u=Value.none from rx); exact PySem.W.kia_one PySem.W.kitx_none I.kIn True.intro e (fun z=>nomatch z) h
 | bl y=>cases (show u=Value.bool y from rx); exact PySem.W.kia_one PySem.W.kitx_bool I.kIn True.intro e (fun z=>nomatch z) h
 | int i=>obtain ⟨t,q⟩:=(show ∃ t,u=Value.int i t from rx); cases q; exact PySem.W.kia_one PySem.W.kitx_int I.kIn True.intro e (fun z=>nomatch z) h
 | str y=>obtain ⟨t,q⟩:=(show ∃ t,u=Value.str y t from rx); cases q; exact PySem.W.kia_one PySem.W.kitx_str I.kIn True.intro e (fun z=>nomatch z) h
 | flt y=>obtain ⟨t,q⟩:=(show ∃ t,u=Value.float y t from rx); cases q; exact PySem.W.kia_one PySem.W.kitx_float I.kIn True.intro e (fun z=>nomatch z) h
 | @lst a xs ea =>
  cases (show u=Value.ref a from rx)
  obtain ⟨_,_,n,_,h1⟩:=(show ObjOk X.prog X.w H s.heap a (.lst xs) from I.hok a _ ea)
  exact PySem.W.kia_one PySem.W.kitx_list I.kIn ⟨_,h1,rfl⟩ e (fun z=>nomatch z) h
 | @frz a ob xs ea =>
  cases (show u=Value.ref a from rx)
  obtain ⟨_,_,_,n,_,h1⟩:=(show ObjOk X.prog X.w H s.heap a (.frz ob (.lst xs)) from I.hok a _ ea)
  exact PySem.W.kia_one PySem.W.kitx_list I.kIn ⟨_,h1,rfl⟩ e (fun z=>nomatch z) h
 | @tup a xs ea =>
  cases (show u=Value.ref a from rx)
  obtain ⟨_,_,_,p⟩:=(show ObjOk X.prog X.w H s.heap a (.tup xs) from I.hok a _ ea)
  obtain ⟨o,h1,h2,_⟩:=p
  exact PySem.W.kia_one PySem.W.kitx_tuple I.kIn ⟨o,h1,h2⟩ e (fun z=>nomatch z) h
 | @dK a kvs ea =>
  cases (show u=Value.ref a from rx)
  obtain ⟨_,_,vs,_,p⟩:=(show ObjOk X.prog X.w H s.heap a (.dK kvs) from I.hok a _ ea)
  obtain ⟨o,es,ep,h1,h2,_⟩:=p
  exact PySem.W.kia_one PySem.W.kitx_dict I.kIn ⟨o,h1,h2.1⟩ e (fun z=>nomatch z) h
 | @dT a kvs ea =>
  cases (show u=Value.ref a from rx)
  obtain ⟨_,_,xs,_,o,es,ep,h1,h2,_⟩:=(show ObjOk X.prog X.w H s.heap a (.dT kvs) from I.hok a _ ea)
  exact PySem.W.kia_one PySem.W.kitx_dict I.kIn ⟨o,h1,h2.1⟩ e (fun z=>nomatch z) h
 | @ins a C dx fs ea cl ha hn htk hm =>
  cases (show u=Value.ref a from rx)
  obtain ⟨mA,O,_⟩:=ins_get I.hok ea
  obtain ⟨od,J,_⟩:=O.look
  exact PySem.W.kia_one (PySem.W.kitx_own (cl.get _) cl.hd ha hn htk hm) I.kIn J e (fun z=>nomatch z) h
end
end L2
namespace L2
open PySem PySem.Spec PyProof.Rows
structure Room (k:Nat) (A:Around):Prop where
 hd:A.handled=none
 dp:A.depth+3*k+5<recursionLimit
 un:A.units+16*k+200<cLine
theorem Room.mono {j k:Nat} {A:Around} (r:Room k A) (h:j≤k):Room j A:=⟨r.hd,by have:=r.dp; omega,by have:=r.un; omega⟩
theorem Room.deeper {k:Nat} {A:Around} (r:Room (k+1) A) (env:Env):Room k (A.deeper env) :=
 ⟨r.hd,by have:=r.dp; show A.depth+1+3*k+5<_; omega,by have:=r.un; show A.units+3+16*k+200<_; omega⟩
theorem make_depth {A:Around} {C:Addr} {us:List Value} {kw:List (Str×Value)}:(A.under (.builtin "type.__call__" ⟨.ref C::us,kw⟩)).depth=A.depth+1:=by
 first | rfl | simp [Around.under,Code.weight,Code.isCreation,Code.isGuard,Code.isCaller,Code.frames,Code.isFrame,guardIds]
theorem make_units {A:Around} {C:Addr} {us:List Value} {kw:List (Str×Value)}:(A.under (.builtin "type.__call__" ⟨.ref C::us,kw⟩)).units=A.units+1:=by
 first | rfl | simp [Around.under,Code.cUnits,Code.frames,Code.isFrame]
theorem Room.make {k:Nat} {A:Around} (r:Room (k+1) A) (C:Addr) (us:List Value) (kw:List (Str×Value)):Room k (A.under (.builtin "type.__call__" ⟨.ref C::us,kw⟩)) :=
 ⟨r.hd,by have:=r.dp; rw [make_depth]; omega,by have:=r.un; rw [make_units]; omega⟩
theorem Room.depth {k:Nat} {A:Around} (r:Room k A):A.depth<recursionLimit:=by have:=r.dp; omega
theorem Room.units {k:Nat} {A:Around} (r:Room k A):A.units+64<cLine:=by have:=r.un; omega
def tNil:TA:=fun _ H Q=>Q [] H
def tCons (ta:TE) (tr:TA):TA:=fun σ H Q=>ta σ H fun x H1=>tr σ H1 fun xs H2=>Q (x::xs) H2
section
variable {X:Cx} {e:Expr} {es:List Expr} {te:TE} {t:TA} {pos:Pos}
theorem pa_nil:PA X [] tNil:=fun _ _ _ _ H Q I h=>Calls.spliced_nil ⟨[],H,I,.nil,h⟩
theorem pa_cons (ha:PE X e te) (hr:PA X es t) (hs:starEach (e::es) X.env=(false,eval e X.env)::starEach es X.env:=by rfl):PA X (e::es) (tCons te t):=by
 intro pos pins s σ H Q I h
 rw [hs]
 show wpAny _ _ (spliced ((false,eval e X.env)::backTo pos (starEach es X.env))) _ _ s
 refine Calls.spliced_cons (thn (ha pins s σ H _ I h) fun u s1 ⟨x,H1,I1,r1,q1⟩=>?_)
 exact thn (hr pos pins s1 σ H1 _ I1 q1) fun us s2 ⟨xs,H2,I2,r2,q2⟩=>⟨x::xs,H2,I2,.cons r1 r2,q2⟩
def tTup (t:TA):TE:=fun σ H Q=>t σ H fun xs H1=>xs.length≤sizeLine∧∀ p,H1 p=none→Q (.ref p) (upd H1 p (.tup xs))
def tLst (t:TA):TE:=fun σ H Q=>t σ H fun xs H1=>xs.length≤sizeLine∧∀ p,H1 p=none→Q (.ref p) (upd H1 p (.lst xs))
theorem pe_tup {x1} (h:PA X es t):PE X (.Tuple es x1 pos) (tTup t):=by
 intro pins s σ H Q I hq
 refine wpAny_Tuple_spliced (thn (h pos pins s σ H _ I hq) fun us s1 ⟨xs,H1,I1,r,z,q⟩=>⟨by rw [← r.length]; exact z,?_⟩)
 have hf:H1 s1.heap.objs.size=none:=I1.hok.fresh (Nat.le_refl _)
 refine ⟨.ref s1.heap.objs.size,upd H1 s1.heap.objs.size (.tup xs),I1.laid (t':=s1.toks) (fun b u e=>Heap.get?_push_of_some _ e) (Nat.le_refl _) ?_,rfl,q _ hf⟩
 exact ⟨z,us,r,⟨_,Heap.get?_push_size _ rfl,rfl,_,rfl⟩⟩
theorem pe_lst (h:PA X es t):PE X (.List es pos) (tLst t):=by
 intro pins s σ H Q I hq
 refine wpAny_List_spliced (thn (h pos pins s σ H _ I hq) fun us s1 ⟨xs,H1,I1,r,z,q⟩=>⟨by rw [← r.length]; exact z,?_⟩)
 have hf:H1 s1.heap.objs.size=none:=I1.hok.fresh (Nat.le_refl _)
 refine ⟨.ref s1.heap.objs.size,upd H1 s1.heap.objs.size (.lst xs),I1.laid (t':=s1.toks) (fun b u e=>Heap.get?_push_of_some _ e) (Nat.le_refl _) ?_,rfl,q _ hf⟩
 exact ⟨z,us,0,r,Heap.get?_push_size _ rfl⟩
end
abbrev Sp:=List V→Hp→VK→XK→Prop
abbrev CXT:=List Env→Hp→Shared→XK→Value→Shared→Prop
structure Env0 (P:Program) (w:World) (K:PySem.W.Frag) (mg:Str→Option Value) (base:Heap) (A:Around) (outer:List Env) (s:Shared) (H:Hp):Prop where
 frames:A.frames=some outer
 mod:Mod K mg base
 bs:∀ b o,base.get? b=some o→s.heap.get? b=some o∧H b=none
 bsz:base.objs.size≤s.heap.objs.size
 funs:s.heap.FunFrames base outer
 frf:∀ b∈frs outer,H b=none
 hok:HOk P w H s.heap
 bare:AllBare s.gens
def CE (outer:List Env) (P:Program) (w:World) (H:Hp) (s:Shared) (Q:VK) (u:Value) (s':Shared):Prop :=
 ∃ v H',s'.os=s.os∧AllBare s'.gens∧Un (frs outer) [] H H' s.heap s'.heap∧HOk P w H' s'.heap∧RelV v u∧Q v H'
def CR (CX:CXT) (outer:List Env) (P:Program) (w:World) (H:Hp) (s:Shared) (Q:VK) (E:XK) (r:Result) (s':Shared):Prop :=
 match r with
 | .ok (.ret u)=>CE outer P w H s Q u s'
 | .ok _=>False
 | .error e=>CX outer H s E e s'
structure FnOk (P:Program) (w:World) (K:PySem.W.Frag) (mg:Str→Option Value) (base:Heap) (CX:CXT) (k:Nat) (f:Addr) (fd:FuncData) (ps:List Str) (sp:Sp):Prop where
 len:∀ vs H Q E,sp vs H Q E→vs.length=ps.length
 run:∀ (A:Around) (outer:List Env) (s:Shared) (H:Hp) (args:Args) (us:List Value) (vs:List V) (Q:VK) (E:XK),Room k A→Env0 P w K mg base A outer s H→BindsTo s fd args (ps.zip us)→Vals vs us→sp vs H Q E →
  codeAny (model P w) A (.call (.ref f) args) (CR CX outer P w H s Q E) s
theorem Env0.make {P:Program} {w:World} {K:PySem.W.Frag} {mg:Str→Option Value} {base:Heap} {A:Around} {outer:List Env} {s:Shared} {H:Hp} (e:Env0 P w K mg base A outer s H) (C:Addr) (us:List Value) (kw:List (Str×Value)) :
  Env0 P w K mg base (A.under (.builtin "type.__call__" ⟨.ref C::us,kw⟩)) outer s H:=⟨by first | exact e.frames | (simpa [Around.under,Code.envs,Code.isFrame,pushEnvs] using e.frames),e.mod,e.bs,e.bsz,e.funs,e.frf,e.hok,e.bare⟩
section
variable {X:Cx} {pins:List (Addr×Obj)} {σ:St} {H:Hp} {s s':Shared}
theorem Inv.env0 (I:Inv X pins σ H s):Env0 X.prog X.w X.K X.mg X.base X.A X.stack s H :=
 ⟨I.ok.frames,I.ok.mod,I.bs,Nat.le_trans I.ok.bsz I.sz,I.stack,I.stkFree,I.hok,I.bare⟩
theorem Inv.after {Q:VK} {u:Value} (I:Inv X pins σ H s) (h:CE X.stack X.prog X.w H s Q u s'):EP X pins σ Q u s':=by
 obtain ⟨v,H',os,bare,un,hok,r,q⟩:=h
 obtain ⟨hh,g,d,t,os'⟩:=s'
 obtain rfl:os'=s.os:=os
 exact ⟨v,H',I.call (h':=hh) (g':=g) (d':=d) (t':=t) (ch:=[]) un hok bare (fun b z=>absurd z (by simp)),r,q⟩
end
def tCall (sp:Sp) (dvs:List V) (E:XK) (t:TA):TE:=fun σ H Q=>t σ H fun vs H1=>sp (vs++dvs) H1 Q E
def tMeth (C:Addr) (m:Str) (sp:Sp) (dvs:List V) (E:XK) (ta:TE) (t:TA):TE:=fun σ H Q=>ta σ H fun x H1=>∃ a dx fs,x=.ref a∧H1 a=some (.ins C dx fs)∧fs.lookup m=none ∧
 t σ H1 fun vs H2=>sp (x::(vs++dvs)) H2 Q E
def tMake (C:Addr) (sp:Sp) (dvs:List V) (E:XK) (t:TA):TE:=fun σ H Q=>t σ H fun vs H1=>∀ x dx,H1 x=none→H1 dx=none→dx≠x →
 sp (.ref x::(vs++dvs)) (upd (upd H1 dx (.own x)) x (.ins C dx [])) (fun v H2=>v=.non∧Q (.ref x) H2) E
def Binds (K:PySem.W.Frag) (fd:FuncData) (ps:List Str) (ds:List Value):Prop :=
 ∀ (s:Shared) (us:List Value),K.In s.heap→(us++ds).length=ps.length→BindsTo s fd ⟨us,[]⟩ (ps.zip (us++ds))
theorem Binds.all {K:PySem.W.Frag} {fd:FuncData} {ps:List Str} (h:∀ us:List Value,us.length=ps.length→bindArgs fd ⟨us,[]⟩=pure (ps.zip us)):Binds K fd ps []:=fun s us _ hl=>by
 rw [List.append_nil] at hl ⊢
 exact .of_eq (h us hl)
def Passes (CX:CXT) (X:Cx) (E:XK):Prop:=∀ (pins:List (Addr×Obj)) (σ:St) (H:Hp) (s:Shared) (e:Value) (s':Shared),Inv X pins σ H s→CX X.stack H s E e s'→X.xe e s'
section
variable {X:Cx} {CX:CXT} {k:Nat} {f C:Addr} {fd:FuncData} {ps:List Str} {sp:Sp} {dvs:List V} {ds:List Value} {E:XK} {x m:Str} {p pos apos:Pos} {e o:Expr} {es:List Expr} {ta:TE} {t:TA}
theorem run_fn {pins:List (Addr×Obj)} {σ:St} {H:Hp} {s:Shared} {Q:VK} {us:List Value} {vs:List V} (F:FnOk X.prog X.w X.K X.mg X.base CX k f fd ps sp) (hr:Room k X.A) (hb:Binds X.K fd ps ds) (hd:Vals dvs ds) (hx:Passes CX X E)
  (I:Inv X pins σ H s) (r:Vals vs us) (h:sp (vs++dvs) H Q E):wpAny (model X.prog X.w) X.A (call (.ref f) us) (EP X pins σ Q) X.xe s:=by
 have r2:Vals (vs++dvs) (us++ds):=r.append hd
 have hl:(us++ds).length=ps.length:=by rw [← r2.length]; exact F.len _ _ _ _ h
 refine wpAny_call (codeAny_mono (F.run X.A X.stack s H ⟨us,[]⟩ (us++ds) (vs++dvs) Q E hr I.env0 (hb s us I.kIn hl) r2 h) fun r s' hq=>?_)
 cases r with
 | error e=>exact hx pins σ H s e s' I hq
 | ok fl =>
  cases fl with
  | ret u => exact I.after hq
  | next => exact False.elim hq
  | brk => exact False.elim hq
  | cont => exact False.elim hq
theorem pe_call (F:FnOk X.prog X.w X.K X.mg X.base CX k f fd ps sp) (hr:Room k X.A) (hg:Gl X x) (hm:X.mg x=some (.ref f)) (hk:PySem.W.keepIn X.K (.ref f)=true) (hb:Binds X.K fd ps ds) (hd:Vals dvs ds) (hx:Passes CX X E)
  (ha:PA X (e::es) t) (hdb:(x==("__debug__":Str))=false:=by decide) (he:starEach (e::es) X.env=(false,eval e X.env)::starEach es X.env:=by rfl) (hpl:(backTo pos (starEach es X.env)).any (·.1)=false:=by rfl) :
  PE X (.Call (.Name x p) (e::es) [] pos) (tCall sp dvs E t):=by
 intro pins s σ H Q I h
 refine wpAny_Call_Name_kw (ld_glob I hg hm ?_ hdb)
 refine PySem.W.callWith_K (h₀:=X.base) I.ok.mod.kin hk (thn (ha pos pins s σ H _ I h) fun us s1 ⟨vs,H1,I1,r,q⟩=>⟨I1.kIn,?_⟩) he hpl
 exact run_fn F hr hb hd hx I1 r q
theorem pe_meth {pl:Sem Bool} (he:PE X o ta) (c:Cls X.K C) (hm:Meth X.K C m f) (F:FnOk X.prog X.w X.K X.mg X.base CX k f fd ps sp) (hr:Room k X.A) (hb:Binds X.K fd ps ds) (hd:Vals dvs ds) (hx:Passes CX X E) (ha:PA X (e::es) t)
  (hst:starEach (e::es) X.env=(false,eval e X.env)::starEach es X.env:=by rfl) (hpl:(backTo pos (starEach es X.env)).any (·.1)=false:=by rfl)
  (ht:eval (.Call (.Attribute o m apos) (e::es) [] pos) X.env=(do
   let ov ← eval o X.env
   standAt apos.atName
   let (f,first) ← holding [ov] (getMethod ov m pl)
   callWith pos f first (backTo pos (starEach (e::es) X.env)) (backToKw pos (keywordEach [] X.env))):=by rfl) :
  PE X (.Call (.Attribute o m apos) (e::es) [] pos) (tMeth C m sp dvs E ta t):=by
 intro pins s σ H Q I h
 refine PySem.W.methodCall_KW (pl:=pl) (thn (he pins s σ H _ I h) fun u s1 ⟨x,H1,I1,rx,a,dx,fs,ex,ea,l,q⟩=>?_) ht
 subst ex
 obtain rfl:u=Value.ref a:=rx
 refine getmeth_ok I1 ea c hm l ?_
 refine PySem.W.callWith_K (first:=[.ref a]) (h₀:=X.base) I.ok.mod.kin hm.kp (thn (ha pos pins s1 σ H1 _ I1 q) fun us s2 ⟨vs,H2,I2,r,q2⟩=>⟨I2.kIn,?_⟩) hst hpl
 exact run_fn (us:=.ref a::us) (vs:=.ref a::vs) F hr hb hd hx I2 (.cons rfl r) q2
theorem pe_meth0 {pl:Sem Bool} (he:PE X o ta) (c:Cls X.K C) (hm:Meth X.K C m f) (F:FnOk X.prog X.w X.K X.mg X.base CX k f fd ps sp) (hr:Room k X.A) (hb:Binds X.K fd ps ds) (hd:Vals dvs ds) (hx:Passes CX X E)
  (ht:eval (.Call (.Attribute o m apos) [] [] pos) X.env=(do
   let ov ← eval o X.env
   standAt apos.atName
   let (f,first) ← holding [ov] (getMethod ov m pl)
   callWith pos f first (backTo pos (starEach [] X.env)) (backToKw pos (keywordEach [] X.env))):=by rfl) :
  PE X (.Call (.Attribute o m apos) [] [] pos) (tMeth C m sp dvs E ta tNil):=by
 intro pins s σ H Q I h
 refine PySem.W.methodCall_KW (pl:=pl) (thn (he pins s σ H _ I h) fun u s1 ⟨x,H1,I1,rx,a,dx,fs,ex,ea,l,q⟩=>?_) ht
 subst ex
 obtain rfl:u=Value.ref a:=rx
 refine getmeth_ok I1 ea c hm l ?_
 exact PySem.W.callWith_K0 (first:=[.ref a]) I1.kIn hm.kp (run_fn (us:=[.ref a]) (vs:=[.ref a]) F hr hb hd hx I1 (.cons rfl .nil) q)
structure Mk (K:PySem.W.Frag) (C f:Addr):Prop where
 makes:PySem.W.makesIn K C=true
 init:PySem.W.findIn K (.ref C) "__init__"=some (some (.ref f))
 fn:PySem.W.isFn K (.ref f)=true
 kp:PySem.W.keepIn K (.ref C)=true
theorem run_make {pins:List (Addr×Obj)} {σ:St} {H:Hp} {s:Shared} {Q:VK} {us:List Value} {vs:List V} (M:Mk X.K C f) (F:FnOk X.prog X.w X.K X.mg X.base CX k f fd ps sp) (hr:Room (k+1) X.A) (hb:Binds X.K fd ps ds) (hd:Vals dvs ds)
  (hx:Passes CX X E) (I:Inv X pins σ H s) (r:Vals vs us)
  (h:∀ x dx,H x=none→H dx=none→dx≠x→sp (.ref x::(vs++dvs)) (upd (upd H dx (.own x)) x (.ins C dx [])) (fun v H2=>v=.non∧Q (.ref x) H2) E) :
  wpAny (model X.prog X.w) X.A (call (.ref C) us) (EP X pins σ Q) X.xe s:=by
 have hq:=h (s.heap.objs.size+1) s.heap.objs.size (I.hok.fresh (Nat.le_succ _)) (I.hok.fresh (Nat.le_refl _)) (Nat.ne_of_lt (Nat.lt_succ_self _))
 have I2:=Inv.made (C:=C) I
 have r2:Vals (V.ref (s.heap.objs.size+1)::(vs++dvs)) (Value.ref (s.heap.objs.size+1)::(us++ds)):=.cons rfl (r.append hd)
 have hl:(Value.ref (s.heap.objs.size+1)::us++ds).length=ps.length:=by
  have e:=r2.length
  rw [F.len _ _ _ _ hq] at e
  exact e.symm
 refine wpAny_call (make_map (f:=f) I.kIn M.makes M.init (beq_iff_eq.mp M.fn) (codeAny_mono (F.run _ X.stack _ _ ⟨Value.ref (s.heap.objs.size+1)::us,[]⟩ (Value.ref (s.heap.objs.size+1)::(us++ds)) _ _ E (hr.make C us [])
  (I2.env0.make C us []) (hb _ (Value.ref (s.heap.objs.size+1)::us) I2.kIn hl) r2 hq) fun r s' hq'=>?_))
 cases r with
 | error e=>exact hx pins σ _ _ e s' I2 hq'
 | ok fl =>
  cases fl with
  | ret u =>
   obtain ⟨v,H',I3,rv,ev,q3⟩:=I2.after hq'
   subst ev
   exact ⟨rv,⟨V.ref (s.heap.objs.size+1),H',I3,rfl,q3⟩⟩
  | next => exact False.elim hq'
  | brk => exact False.elim hq'
  | cont => exact False.elim hq'
theorem pe_make (M:Mk X.K C f) (F:FnOk X.prog X.w X.K X.mg X.base CX k f fd ps sp) (hr:Room (k+1) X.A) (hg:Gl X x) (hm:X.mg x=some (.ref C)) (hb:Binds X.K fd ps ds) (hd:Vals dvs ds) (hx:Passes CX X E)
  (ha:PA X (e::es) t) (hdb:(x==("__debug__":Str))=false:=by decide) (he:starEach (e::es) X.env=(false,eval e X.env)::starEach es X.env:=by rfl) (hpl:(backTo pos (starEach es X.env)).any (·.1)=false:=by rfl) :
  PE X (.Call (.Name x p) (e::es) [] pos) (tMake C sp dvs E t):=by
 intro pins s σ H Q I h
 refine wpAny_Call_Name_kw (ld_glob I hg hm ?_ hdb)
 refine PySem.W.callWith_K (h₀:=X.base) I.ok.mod.kin M.kp (thn (ha pos pins s σ H _ I h) fun us s1 ⟨vs,H1,I1,r,q⟩=>⟨I1.kIn,?_⟩) he hpl
 exact run_make M F hr hb hd hx I1 r q
end
section
variable {X:Cx} {CX:CXT} {k:Nat} {f C:Addr} {fd:FuncData} {ps ks:List Str} {sp:Sp} {E:XK} {x m:Str} {p pos apos kpos:Pos} {e o:Expr} {es:List Expr} {kws:List Keyword} {te ta:TE} {t tk:TA} {nm:Option Str}
variable {g:List Value→List Value→List Value} {gV:List V→List V→List V}
end
structure FnScope (N P:List Str) (sc:Scope):Prop where
 kind:sc.kind=.function
 co:sc.isCoroutine=false
 gen:sc.isGenerator=false
 nd:N.Nodup
 pre:N.take P.length=P
 par:∀ x∈P,sc.names.lookup x=some .local∨sc.names.lookup x=some .cell
 nofree:∀ y∈sc.names,y.2≠.free
theorem bindL_out {kindOf:Str→Option NameKind} {x:Str}:∀ {binds:List (Str×Value)} {m:Str→Option Value},(∀ v,(x,v)∉binds)→bindL kindOf binds m x=m x
 | [],_,_=>rfl
 | (n,v)::r,m,h=>by
  unfold bindL
  rw [bindL_out fun w hw=>h w (List.mem_cons_of_mem _ hw)]
  split
  ·have:x≠n:=by rintro rfl; exact h v List.mem_cons_self
   simp [this]
  ·rfl
theorem bindC_out {kindOf:Str→Option NameKind} {x:Str}:∀ {binds:List (Str×Value)} {m:Str→Option Value},(∀ v,(x,v)∉binds)→bindC kindOf binds m x=m x
 | [],_,_=>rfl
 | (n,v)::r,m,h=>by
  unfold bindC
  rw [bindC_out fun w hw=>h w (List.mem_cons_of_mem _ hw)]
  split
  ·rfl
  ·have:x≠n:=by rintro rfl; exact h v List.mem_cons_self
   simp [this]
theorem bindL_get {kindOf:Str→Option NameKind} {x:Str} {v:Value}:∀ {P:List Str} {vs:List Value} {i:Nat} {m:Str→Option Value},P.Nodup→P[i]?=some x→vs[i]?=some v→kindOf x=some .local →
  bindL kindOf (P.zip vs) m x=some v
 | [],_,_,_,_,h,_,_=>by simp at h
 | _::_,[],_,_,_,_,h,_=>by simp at h
 | p::P,w::vs,0,m,nd,h1,h2,hk=>by
  simp at h1 h2; subst h1; subst h2
  show bindL kindOf ((p,w)::P.zip vs) m p=_
  unfold bindL
  rw [bindL_out fun v hv=>(List.nodup_cons.mp nd).1 (List.of_mem_zip hv).1,if_pos hk]
  simp
 | p::P,w::vs,i+1,m,nd,h1,h2,hk=>by
  show bindL kindOf ((p,w)::P.zip vs) m x=_
  unfold bindL
  exact bindL_get (i:=i) (List.nodup_cons.mp nd).2 (by simpa using h1) (by simpa using h2) hk
theorem bindC_get {kindOf:Str→Option NameKind} {x:Str} {v:Value}:∀ {P:List Str} {vs:List Value} {i:Nat} {m:Str→Option Value},P.Nodup→P[i]?=some x→vs[i]?=some v→kindOf x≠some .local →
  bindC kindOf (P.zip vs) m x=some v
 | [],_,_,_,_,h,_,_=>by simp at h
 | _::_,[],_,_,_,_,h,_=>by simp at h
 | p::P,w::vs,0,m,nd,h1,h2,hk=>by
  simp at h1 h2; subst h1; subst h2
  show bindC kindOf ((p,w)::P.zip vs) m p=_
  unfold bindC
  rw [bindC_out fun v hv=>(List.nodup_cons.mp nd).1 (List.of_mem_zip hv).1,if_neg hk]
  simp
 | p::P,w::vs,i+1,m,nd,h1,h2,hk=>by
  show bindC kindOf ((p,w)::P.zip vs) m x=_
  unfold bindC
  exact bindC_get (i:=i) (List.nodup_cons.mp nd).2 (by simpa using h1) (by simpa using h2) hk
def start (N:List Str) (vs:List V):St:=vs.map some++List.replicate (N.length - vs.length) none
def cxOf (CX:CXT) (P:Program) (w:World) (K:PySem.W.Frag) (mg:Str→Option Value) (base:Heap) (N:List Str) (qual:Str) (scope:Scope) (f:Addr) (cd:Value) (A:Around) (outer:List Env) (s:Shared) (H:Hp) (E:XK):Cx where
 prog:=P
 w:=w
 K:=K
 mg:=mg
 base:=base
 A:=A.deeper (envOfC qual scope s.heap.objs.size f cd)
 N:=N
 s₀:=s
 H₀:=H
 env:=envOfC qual scope s.heap.objs.size f cd
 outer:=outer
 stack:=envOfC qual scope s.heap.objs.size f cd::outer
 ex:=[]
 calm:=true
 fn:=fun _=>true
 pn:=[]
 xe:=fun e s'=>wpAny (model P w) (A.deeper (envOfC qual scope s.heap.objs.size f cd)) (leaving (envOfC qual scope s.heap.objs.size f cd) e) (fun _ s''=>CX outer H s E e s'') (fun e' s''=>CX outer H s E e' s'') s'
theorem cell_has {sc:Scope} {n:Nat} {x:Str} (h:sc.names.lookup x=some .cell):∃ c,(cellsFrom n sc.names []).lookup x=some c:=by
 have q:=PySem.W.cellsFrom_some sc.names n [] (.inl h)
 exact Option.isSome_iff_exists.mp q
theorem inv_start {CX:CXT} {P:Program} {w:World} {K:PySem.W.Frag} {mg:Str→Option Value} {base:Heap} {N ps:List Str} {qual:Str} {scope:Scope} {f:Addr} {cd:Value} {A:Around} {outer:List Env} {s s1:Shared} {H:Hp} {E:XK} {us:List Value} {vs:List V}
    (S:FnScope N ps scope) (hd:A.handled=none) (e0:Env0 P w K mg base A outer s H) (hl:vs.length=ps.length) (r:Vals vs us)
    (x:InCallC s s.heap.objs.size (bindL (envOfC qual scope s.heap.objs.size f cd).kindOf (ps.zip us) fun _=>none) (cellsFrom (s.heap.objs.size+1) scope.names []) (bindC (envOfC qual scope s.heap.objs.size f cd).kindOf (ps.zip us) fun _=>none) s1) :
    Inv (cxOf CX P w K mg base N qual scope f cd A outer s H E) [] (start N vs) H s1:=by
  have hpl:ps.length≤N.length:=by have:=congrArg List.length S.pre; rw [List.length_take] at this; omega
  obtain ⟨h1,tk,rfl,hk⟩:=x.done
  have noA:∀ b:Addr,b∉(cxOf CX P w K mg base N qual scope f cd A outer s H E).ex:=fun b z=>absurd (show b∈([]:List Addr) from z) (by simp)
  refine ⟨⟨e0.mod,S.kind,rfl,rfl,Nat.le_refl _,fun y z c h1 h2=>?_,fun y hy=>?_,fun y c _ h=>?_,fun _=>hd,Around.frames_deeper e0.frames,.inr ⟨rfl,rfl⟩,fun b z=>absurd z (noA b),e0.bs,e0.bsz,fun b _ _=>noA b,fun b z=>absurd z (noA b),e0.funs,e0.frf⟩,
    rfl,e0.bare,Un.kept hk,⟨_,x.toInCall.ns,fun i y v h1 h2 h3=>?_⟩,fun y c h=>⟨_,x.cell y c h⟩,e0.hok.fresh (Nat.le_refl _),fun y c h=>?_,fun p hp=>absurd (show p∈([]:List (Addr×Obj)) from hp) (by simp),e0.hok.kept hk,?_⟩
  · exact name_of_addr x.apart (PySem.mem_of_lookup h1) (PySem.mem_of_lookup h2)
  · have hy:scope.names.lookup y=some .cell∨scope.names.lookup y=some .free:=hy
    rcases hy with hy | hy
    · exact cell_has hy
    · exact absurd rfl (S.nofree _ (PySem.mem_of_lookup hy))
  · exact Nat.le_of_lt (x.above y c (PySem.mem_of_lookup h))
  · have hi:i<vs.length:=by
      unfold start at h2
      by_cases hi:i<vs.length
      · exact hi
      · rw [List.getElem?_append_right (by simpa using hi)] at h2
        rw [List.getElem?_replicate] at h2
        split at h2<;>cases h2
    have ha:vs[i]?=some v:=by
      unfold start at h2
      rw [List.getElem?_append_left (by simpa using hi),List.getElem?_map] at h2
      cases e:vs[i]? with
      | none=>rw [e] at h2; cases h2
      | some a=>rw [e] at h2; cases h2; rfl
    obtain ⟨u,hu,rv⟩:=r.get ha
    have hp:ps[i]?=some y:=by
      rw [← S.pre,List.getElem?_take_of_lt (by omega)]; exact h1
    have ndP:ps.Nodup:=by rw [← S.pre]; exact S.nd.sublist (List.take_sublist _ _)
    refine ⟨u,rv,?_⟩
    rcases S.par y (List.mem_of_getElem? hp) with k | k
    · exact .inl ⟨k,bindL_get ndP hp hu k⟩
    · obtain ⟨c,e⟩:=cell_has (n:=s.heap.objs.size+1) k
      refine .inr ⟨.inl k,c,e,?_⟩
      have q:=x.cell y c e
      rw [bindC_get ndP hp hu (by show scope.names.lookup y≠_; rw [k]; decide)] at q
      exact q
  · exact e0.hok.fresh (Nat.le_of_lt (x.above y c (PySem.mem_of_lookup h)))
  · unfold start
    show _=N.length
    rw [List.length_append,List.length_map,List.length_replicate]
    omega
theorem fn_of {CX:CXT} {P:Program} {w:World} {K:PySem.W.Frag} {mg:Str→Option Value} {base:Heap} {k:Nat} {f:Addr} {name qual:Str} {params:Arguments} {body:List Stmt} {scope:Scope} {dV kV doc pm cdv ct oc:Value} {an od:Option Addr}
  {osl:Array (Option Value)} {N ps:List Str} {sp:Sp} (lk:K.lookup f=some ⟨oc,od,.func (PySem.W.fnOf name qual params body scope dV kV doc pm an cdv ct),osl⟩) (hcd:PySem.W.codeIn K cdv qual=true) (S:FnScope N ps scope)
  (len:∀ vs H Q E,sp vs H Q E→vs.length=ps.length)
  (hbody:∀ (A:Around) (outer:List Env) (s:Shared) (H:Hp) (vs:List V) (Q:VK) (E:XK),Room k (A.deeper (envOfC qual scope s.heap.objs.size f cdv))→sp vs H Q E →
   ∃ t,PSs (cxOf CX P w K mg base N qual scope f cdv A outer s H E) body t∧t { nx:=fun _ H'=>Q .non H',rt:=Q } (start N vs) H) :
  FnOk P w K mg base CX (k+1) f (PySem.W.fnOf name qual params body scope dV kV doc pm an cdv ct) ps sp:=by
 refine ⟨len,fun A outer s H args us vs Q E hr e0 hb r hsp=>?_⟩
 have hl:=len _ _ _ _ hsp
 have KX:K.In s.heap:=e0.mod.kin.keeps fun b o e=>(e0.bs b o e).1
 have lim:s.heap.NoLimit:=e0.mod.nolimit.keeps fun b o e=>(e0.bs b o e).1
 have hkind:∀ y∈ps.zip us,scope.names.lookup y.1=some .local∨(scope.names.lookup y.1=some .cell∧((cellsFrom (s.heap.objs.size+1) scope.names []).lookup y.1).isSome=true):=fun ⟨n,v⟩ hy=>by
  rcases S.par n (List.of_mem_zip hy).1 with q | q
  ·exact .inl q
  ·exact .inr ⟨q,PySem.W.cellsFrom_some _ _ _ (.inl q)⟩
 refine codeAny_call_function hr.depth (KX _ _ lk) rfl S.co S.gen rfl (PySem.W.codeRec_of KX hcd) (hb _ _ _ _ ?_)
 refine wpAny_newFunctionEnv_cells S.kind hkind fun env he s1 x=>?_
 subst he
 refine ⟨lim.keeps x.toInCall.keep,codeAny_func ?_⟩
 obtain ⟨t,ht,hq⟩:=hbody A outer s H vs Q E (hr.deeper _) hsp
 have I:Inv (cxOf CX P w K mg base N qual scope f cdv A outer s H E) [] (start N vs) H s1:=inv_start S hr.hd e0 hl r x
 refine wpAny_mono (ht [] s1 (start N vs) H _ I hq) (fun fl s' hs=>?_) fun e s' hs=>hs
 have fin:∀ {σ':St} {H':Hp} {v:V} {u:Value},Inv (cxOf CX P w K mg base N qual scope f cdv A outer s H E) [] σ' H' s'→RelV v u→Q v H'→CE outer P w H s Q u s' :=
  fun {σ' H' v u} J rv q=>⟨v,H',J.os,J.bare,J.base,J.hok,rv,q⟩
 cases fl with
 | ret u =>
  obtain ⟨v,σ',H',J,rv,q⟩:=hs
  exact fin J rv q
 | next =>
  obtain ⟨σ',H',J,q⟩:=hs
  exact fin (v:=V.non) (u:=Value.none) J rfl q
 | brk =>
  obtain ⟨_,_,_,q⟩:=hs
  exact False.elim q
 | cont =>
  obtain ⟨_,_,_,q⟩:=hs
  exact False.elim q
end L2
namespace L2
open PySem PySem.Spec PyProof.Rows
section
variable {X:Cx} {x:Str} {p pos:Pos} {e:Expr} {es:List Expr} {t:TA} {id T:String} {r:List V→Hp→VK→Prop}
def tCB (r:List V→Hp→VK→Prop) (t:TA):TE:=fun σ H Q=>t σ H fun vs H1=>r vs H1 Q
theorem pe_callB (hc:CallR X (.builtin id) r) (hg:Gl X x) (hm:X.mg x=none) (hv:bootBuiltins x=some (.builtin id)) (ha:PA X (e::es) t) (hn:x≠"__name__":=by decide) (hdb:(x==("__debug__":Str))=false:=by decide)
  (he:starEach (e::es) X.env=(false,eval e X.env)::starEach es X.env:=by rfl) (hpl:(backTo pos (starEach es X.env)).any (·.1)=false:=by rfl):PE X (.Call (.Name x p) (e::es) [] pos) (tCB r t):=by
 intro pins s σ H Q I h
 refine wpAny_Call_Name_kw (ld_blt I hg hm hv ?_ hn hdb)
 exact PyProof.Rows.callWith_builtin1 (thn (ha pos pins s σ H _ I h) fun us s1 ⟨vs,H1,I1,r1,q1⟩=>hc pins s1 σ H1 vs us Q I1 r1 q1) he hpl
theorem pe_callTy (hc:CallR X (.type T) r) (hg:Gl X x) (hm:X.mg x=none) (hv:bootBuiltins x=some (.type T)) (ha:PA X (e::es) t) (hn:x≠"__name__":=by decide) (hdb:(x==("__debug__":Str))=false:=by decide)
  (he:starEach (e::es) X.env=(false,eval e X.env)::starEach es X.env:=by rfl) (hpl:(backTo pos (starEach es X.env)).any (·.1)=false:=by rfl):PE X (.Call (.Name x p) (e::es) [] pos) (tCB r t):=by
 intro pins s σ H Q I h
 refine wpAny_Call_Name_kw (ld_blt I hg hm hv ?_ hn hdb)
 exact PyProof.Rows.callWith_type1 (thn (ha pos pins s σ H _ I h) fun us s1 ⟨vs,H1,I1,r1,q1⟩=>hc pins s1 σ H1 vs us Q I1 r1 q1) he hpl
end
end L2
namespace HT
open PySem PyProof.Rows
section
open PySem.SeqAt
open PySem.AutoSeq1 (wpAny_loadPart')
open PySem.MeetsSeq PySem.MeetsSeq2 PySem.MeetsSeq3
end
section
variable {prog:Program} {w:World} {A:Around} {E:Value→Shared→Prop} {s:Shared}
theorem cat_tup {t b:Addr} {vs ws:List Value} {Q:Value→Shared→Prop} (ht:IsTup s.heap t vs.toArray) (hb:IsTup s.heap b ws.toArray) (hv:vs≠[])
    (h1:ws=[]→Q (.ref t) s) (h2:ws≠[]→Q (.ref s.heap.objs.size) { s with heap:=s.heap.push { cls:=.type "tuple",data:=.seq (vs++ws).toArray } })
    (hsz:vs.length+ws.length≤sizeLine):wpAny (model prog w) A (binaryOp .Add (.ref t) (.ref b)) Q E s:=by
  obtain ⟨⟨cls,dd,data,sl⟩,ho,hc,n,hd⟩:=id ht
  obtain ⟨⟨cls2,dd2,data2,sl2⟩,ho2,hc2,n2,hd2⟩:=id hb
  simp only at hc hd hc2 hd2
  subst hc hd hc2 hd2
  have e:vs.toArray++ws.toArray=(vs++ws).toArray:=by simp
  by_cases hw:ws=[]
  · exact concat_meets ⟨_,ho,rfl⟩ ⟨_,ho2,rfl⟩ noFill_tuple_add seq_tuple_add PySem.F.slot_tuple_add PySem.F.entry_tuple_add (PySem.F.args_tuple_add_2 _ _)
      (tuple_addW1 t b vs.toArray ws.toArray n n2 dd dd2 sl sl2 (by simpa using hv) (by simp [hw])) ⟨ho,ho2,h1 hw⟩
  · refine concat_meets ⟨_,ho,rfl⟩ ⟨_,ho2,rfl⟩ noFill_tuple_add seq_tuple_add PySem.F.slot_tuple_add PySem.F.entry_tuple_add (PySem.F.args_tuple_add_2 _ _)
      (tuple_addW2 t b vs.toArray ws.toArray n n2 dd dd2 sl sl2 (by simpa using hv) (by simpa using hw) (by rw [List.size_toArray,List.size_toArray]; exact hsz)) ⟨ho,ho2,?_⟩
    rw [e]
    exact h2 hw
def sIx (n d:Nat):Option Int→Nat
 | none=>d
 | some v=>if v<0 then (v+(n:Int)).toNat else min v.toNat n
theorem sIx_none (n d:Nat):sIx n d none=d:=rfl
theorem sIx_nat (n d k:Nat):sIx n d (some (k:Int))=min k n:=by
 show (if (k:Int)<0 then ((k:Int)+(n:Int)).toNat else min (k:Int).toNat n)=min k n
 rw [if_neg (by omega),Int.toNat_natCast]
theorem sIx_le (n d:Nat) (hd:d≤n) (o:Option Int):sIx n d o≤n:=by
 cases o with
 | none=>exact hd
 | some v =>
  show (if v<0 then (v+(n:Int)).toNat else min v.toNat n)≤n
  by_cases hv:v<0
  ·rw [if_pos hv]; omega
  ·rw [if_neg hv]; exact Nat.min_le_right _ _
theorem clip_eq (v:Int) (n d:Nat):(if v<0 then max (v+(n:Int)) 0 else min v (n:Int))=((sIx n d (some v):Nat):Int):=by
 show (if v<0 then max (v+(n:Int)) 0 else min v (n:Int))=(((if v<0 then (v+(n:Int)).toNat else min v.toNat n):Nat):Int)
 by_cases hv:v<0
 ·simp only [if_pos hv]; omega
 ·simp only [if_neg hv]; omega
theorem adjust_gen (lo hi:Option Int) (n:Nat):Builtin.Slice.sliceAdjust lo hi 1 (n:Int)=(((sIx n 0 lo:Nat):Int),((sIx n n hi:Nat):Int)):=by
 have h1:¬ ((1:Int)<0):=by omega
 unfold Builtin.Slice.sliceAdjust
 simp only [h1,if_false]
 refine Prod.ext ?_ ?_
 ·cases lo with
  | none => rfl
  | some v => exact clip_eq v n 0
 ·cases hi with
  | none => rfl
  | some v => exact clip_eq v n n
theorem places_gen (i j:Nat):Builtin.Slice.slicePlaces (i:Int) (j:Int) 1=j - i:=by
 unfold Builtin.Slice.slicePlaces
 have h1:(1:Int) > 0:=by omega
 simp only [h1,if_true,Int.ediv_one]
 split<;>omega
theorem slicePart_ {v:Value} {o:Option Int} {Q:Option Int→Shared→Prop} (p:IsPart v o) (h:Q o s):wpAny (model prog w) A (Builtin.Slice.slicePartIndex v) Q E s:=by
 cases p with
 | none=>exact slicePart_none h
 | int i t=>exact slicePart_int h
theorem sliceApplied_gen {sl:Addr} {vl vu:Value} {lo hi:Option Int} {n:Nat} {Q:Int×Int×Nat→Shared→Prop} (hs:s.heap.IsSliceOf sl vl vu .none) (pl:IsPart vl lo) (pu:IsPart vu hi)
  (h:Q (((sIx n 0 lo:Nat):Int),1,sIx n n hi - sIx n 0 lo) s):wpAny (model prog w) A (Builtin.Slice.sliceApplied (.ref sl) (pure (n:Int))) Q E s:=by
 obtain ⟨os,hos,hcs,hds⟩:=id hs
 unfold Builtin.Slice.sliceApplied Builtin.Slice.sliceFields
 refine wpAny_bind (wpAny_bind (wpAny_field hos hds (x:=vl) rfl (wpAny_bind (wpAny_field hos hds (x:=vu) rfl (wpAny_bind (wpAny_field hos hds (x:=.none) rfl (wpAny_pure ?_)))))))
 refine wpAny_bind (slicePart_none ?_)
 show wpAny _ _ (if ((1:Int)==0)=true then _ else _) _ _ s
 rw [if_neg (by decide)]
 refine wpAny_bind (slicePart_ pl (wpAny_bind (slicePart_ pu (wpAny_bind (wpAny_pure ?_)))))
 show wpAny _ _ (match Builtin.Slice.sliceAdjust lo hi 1 (n:Int) with | (lo,hi)=>pure (lo,(1:Int),Builtin.Slice.slicePlaces lo hi 1)) _ _ s
 rw [adjust_gen lo hi n]
 show wpAny _ _ (pure (((sIx n 0 lo:Nat):Int),(1:Int),Builtin.Slice.slicePlaces ((sIx n 0 lo:Nat):Int) ((sIx n n hi:Nat):Int) 1)) _ _ s
 rw [places_gen]
 exact wpAny_pure h
theorem pick_gen (xs:Array Value) (i k:Nat):((List.range k).filterMap fun (m:Nat)=>xs[((i:Int)+(m:Int)*1).toNat]?).toArray=((xs.toList.drop i).take k).toArray:=by
 have e:(fun (m:Nat)=>xs[((i:Int)+(m:Int)*1).toNat]?)=fun m=>xs[i+m]?:=by
  funext m
  have:((i:Int)+(m:Int)*1).toNat=i+m:=by omega
  rw [this]
 rw [e]
 have:=pick_run xs i k
 rw [List.filterMap_map] at this
 have e2:((fun x=>xs[x]?)∘fun x=>i+x)=fun m=>xs[i+m]?:=rfl
 rw [e2] at this
 rw [this]
theorem getItem_tuple_cut {t sl:Addr} {items:Array Value} {vl vu:Value} {lo hi:Option Int} {Q:Value→Shared→Prop} (ht:IsTup s.heap t items) (hs:s.heap.IsSliceOf sl vl vu .none) (pl:IsPart vl lo) (pu:IsPart vu hi)
  (hw:¬ (sIx items.size 0 lo=0∧sIx items.size items.size hi=items.size))
  (h:Q (.ref s.heap.objs.size) { s with heap:=s.heap.push { cls:=.type "tuple",data:=.seq ((items.toList.drop (sIx items.size 0 lo)).take (sIx items.size items.size hi - sIx items.size 0 lo)).toArray } })
  (hsz:items.size≤sizeLine):wpAny (model prog w) A (getItem (.ref t) (.ref sl)) Q E s:=by
 have htake:sizeOk (.seq ((items.toList.drop (sIx items.size 0 lo)).take (sIx items.size items.size hi - sIx items.size 0 lo)).toArray):=by
  show ((items.toList.drop (sIx items.size 0 lo)).take (sIx items.size items.size hi - sIx items.size 0 lo)).toArray.size≤sizeLine
  rw [List.size_toArray,List.length_take,List.length_drop,Array.length_toList]
  omega
 have hj:sIx items.size items.size hi≤items.size:=sIx_le _ _ (Nat.le_refl _) hi
 obtain ⟨os,hos,hcs,hds⟩:=id hs
 have hTs:s.TypeIs (.ref sl) "slice":=⟨os,hos,hcs⟩
 unfold getItem
 try with_reducible refine wpAny_holding ?_
 first | refine wpAny_bind (wpAny_pure ?_) | skip
 refine wpAny_bind (wpAny_sequenceKey ht.typeIs (by decide) ?_)
 refine wpAny_bind (wpAny_callSpecial?_slot (name:=Str.ofString "__getitem__") ht.typeIs PyProof.Rows.slot_tuple_getitem
  (wpAny_call_entry PyProof.Rows.slot_tuple_getitem ht.typeIs entry_tuple_getitem ?_ (args_tuple_getitem _ _)))
 show wpAny _ _ (Builtin.Tuple.tupleItemsOf (.ref t) >>= _) _ _ s
 refine wpAny_bind (tupleItemsOf_ ht ?_)
 refine wpAny_bind (wpAny_typeOf hTs ?_)
 rw [if_pos (by decide)]
 refine wpAny_bind (sliceApplied_gen hs pl pu ?_)
 have hno:¬ ((((sIx items.size 0 lo:Nat):Int)==0&&(1:Int)==1&&(sIx items.size items.size hi - sIx items.size 0 lo)==items.size)=true):=by
  intro q
  rw [Bool.and_eq_true,Bool.and_eq_true] at q
  have q1:((sIx items.size 0 lo:Nat):Int)=0:=eq_of_beq q.1.1
  have q2:sIx items.size items.size hi - sIx items.size 0 lo=items.size:=eq_of_beq q.2
  exact hw ⟨by omega,by omega⟩
 show wpAny _ _ (if (((sIx items.size 0 lo:Nat):Int)==0&&(1:Int)==1&&(sIx items.size items.size hi - sIx items.size 0 lo)==items.size)=true then _ else _) _ _ s
 rw [if_neg hno,pick_gen]
 first
  | exact wpAny_bind (m := Builtin.Tuple.tupleExact _) (wpAny_newObj_type (wpAny_pure ⟨_, rfl, wpAny_pure h⟩) htake)
  | exact wpAny_bind (m := Builtin.Tuple.tupleExact _) (wpAny_newObj_type (wpAny_bind (wpAny_pure (wpAny_pure ⟨_, rfl, wpAny_pure h⟩))) htake)
  | exact wpAny_bind (wpAny_bind (m := Builtin.Tuple.tupleExact _) (wpAny_newObj_type (wpAny_pure (wpAny_pure ⟨_, rfl, wpAny_pure h⟩)) htake))
  | exact wpAny_bind (wpAny_bind (m := Builtin.Tuple.tupleExact _) (wpAny_newObj_type (wpAny_pure ⟨_, rfl, wpAny_pure h⟩) htake))
end
end HT
namespace L2
open PySem PySem.Spec PyProof.Rows
abbrev TO:=St→Hp→(Option Int→Hp→Prop)→Prop
def PO (X:Cx) (e:Option Expr) (t:TO):Prop :=
 ∀ (pins:List (Addr×Obj)) (s:Shared) (σ:St) (H:Hp) (Q:Option Int→Hp→Prop),Inv X pins σ H s→t σ H Q →
  wpAny (model X.prog X.w) X.A (evalPart e X.env) (fun u s'=>∃ o H',Inv X pins σ H' s'∧IsPart u o∧Q o H') X.xe s
def tNoPart:TO:=fun _ H Q=>Q none H
def tPart (t:TE):TO:=fun σ H Q=>t σ H fun x H1=>∃ i,x=.int i∧Q (some i) H1
section
variable {X:Cx} {e:Expr} {te:TE} {lo hi:Option Expr} {tl th:TO} {pos p2:Pos}
theorem po_none:PO X none tNoPart:=by
 intro pins s σ H Q I h
 rw [evalPart_none]
 exact wpAny_pure ⟨none,H,I,.none,h⟩
theorem po_some (h:PE X e te):PO X (some e) (tPart te):=by
 intro pins s σ H Q I hw
 rw [evalPart_some]
 refine thn (h pins s σ H _ I hw) fun u s1 ⟨x,H1,I1,r1,q1⟩=>?_
 obtain ⟨i,rfl,q⟩:=q1
 obtain ⟨t,rfl⟩:=r1
 exact ⟨some i,H1,I1,.int i t,q⟩
def SlR (X:Cx) (r:V→Option Int→Option Int→Hp→VK→Prop):Prop :=
 ∀ (pins:List (Addr×Obj)) (s:Shared) (σ:St) (H:Hp) (x:V) (v vl vu:Value) (lo hi:Option Int) (sl:Addr) (Q:VK),Inv X pins σ H s→RelV x v→s.heap.IsSliceOf sl vl vu .none→IsPart vl lo→IsPart vu hi→r x lo hi H Q →
  ∃ T id,typeLookup (.type T) "__getitem__"=pure (some (.builtin id))∧s.TypeIs v T∧wpAny (model X.prog X.w) X.A (getItem v (.ref sl)) (EP X pins σ Q) X.xe s
def tSl (r:V→Option Int→Option Int→Hp→VK→Prop) (te:TE) (tl th:TO):TE:=fun σ H Q=>te σ H fun x H1=>tl σ H1 fun l H2=>th σ H2 fun u H3=>r x l u H3 Q
theorem pe_slice {r:V→Option Int→Option Int→Hp→VK→Prop} (hr:SlR X r) (he:PE X e te) (hl:PO X lo tl) (hu:PO X hi th):PE X (.Subscript e (.Slice lo hi none p2) pos) (tSl r te tl th):=by
 intro pins s σ H Q I h
 refine Subscript_ (thn (he pins s σ H _ I h) fun v s1 ⟨x,H1,I1,r1,q1⟩=>?_)
 refine wpAny_Slice (thn (hl pins s1 σ H1 _ I1 q1) fun vl s2 ⟨l,H2,I2,pl,q2⟩=>thn (hu pins s2 σ H2 _ I2 q2) fun vu s3 ⟨u,H3,I3,pu,q3⟩=>?_)
 rw [evalPart_none]
 refine wpAny_pure ?_
 have I4:Inv X pins σ H3 { s3 with heap:=s3.heap.push { cls:=.type "slice",data:=.fields #[vl,vu,.none] } }:=I3.kept (t':=s3.toks) fun b ob q=>Heap.get?_push_of_some _ q
 obtain ⟨T,id,hT,ht,hg⟩:=hr pins { s3 with heap:=s3.heap.push { cls:=.type "slice",data:=.fields #[vl,vu,.none] } } σ H3 x v vl vu l u s3.heap.objs.size Q I4 r1 (Heap.IsSliceOf.new ..) pl pu q3
 show wpAny (model X.prog X.w) X.A (subscriptTail e (.Slice lo hi none p2) v (.ref s3.heap.objs.size)) (EP X pins σ Q) X.xe { s3 with heap:=s3.heap.push { cls:=.type "slice",data:=.fields #[vl,vu,.none] } }
 exact tail_any (ops:=[.ref s3.heap.objs.size,v]) ht hT hg (by with_unfolding_all rfl)
def cutV (xs:List V) (lo hi:Option Int):List V:=(xs.drop (HT.sIx xs.length 0 lo)).take (HT.sIx xs.length xs.length hi - HT.sIx xs.length 0 lo)
theorem cutV_length (xs:List V) (lo hi:Option Int):(cutV xs lo hi).length≤xs.length:=by
 unfold cutV
 rw [List.length_take,List.length_drop]
 omega
def rSlT (K:PySem.W.Frag):V→Option Int→Option Int→Hp→VK→Prop:=fun x lo hi H Q=>∃ a xs,x=.ref a∧SqT K H a xs ∧
 ¬ (HT.sIx xs.length 0 lo=0∧HT.sIx xs.length xs.length hi=xs.length)∧∀ p,H p=none→Q (.ref p) (upd H p (.tup (cutV xs lo hi)))
theorem sl_tup:SlR X (rSlT X.K):=by
 intro pins s σ H x v vl vu lo hi sl Q I rx hs pl pu h
 obtain ⟨a,xs,rfl,hx,hw,q⟩:=h
 cases rx
 obtain ⟨its,r,ht,hz⟩:=I.tuple hx
 have hlen:its.toArray.size=xs.length:=by rw [List.size_toArray]; exact r.length.symm
 refine ⟨"tuple",_,PyProof.Rows.slot_tuple_getitem.lookup,ht.typeIs,?_⟩
 refine HT.getItem_tuple_cut ht hs pl pu (by rw [hlen]; exact hw) ?_ (by rw [hlen]; exact hz)
 rw [hlen]
 refine ⟨.ref s.heap.objs.size,_,I.laid (t':=s.toks) (o:=.tup (cutV xs lo hi)) (fun b ob q=>Heap.get?_push_of_some _ q) (Nat.le_refl _) ?_,rfl,q _ (I.hok.fresh (Nat.le_refl _))⟩
 exact ⟨Nat.le_trans (cutV_length xs lo hi) hz,_,(r.drop (HT.sIx xs.length 0 lo)).take (HT.sIx xs.length xs.length hi - HT.sIx xs.length 0 lo),IsTup.new _ _⟩
def rCatT (K:PySem.W.Frag):R2:=fun x y H Q=>∃ a b xs ys,x=.ref a∧y=.ref b∧SqT K H a xs∧SqT K H b ys∧xs≠[]∧xs.length+ys.length≤sizeLine ∧
 (ys=[]→Q (.ref a) H)∧(ys≠[]→∀ p,H p=none→Q (.ref p) (upd H p (.tup (xs++ys))))
theorem Vals.nil_iff {xs:List V} {us:List Value} (r:Vals xs us):us=[]↔xs=[]:=by
 cases r with
 | nil=>simp
 | cons _ _=>simp
theorem op_catT:OpR X (binaryOp .Add) (rCatT X.K):=by
 intro pins s σ H x y v u Q I rx ry h
 obtain ⟨a,b,xs,ys,rfl,rfl,ha,hb,hx,hz,q1,q2⟩:=h
 cases rx
 cases ry
 obtain ⟨its,r1,p1,_⟩:=I.tuple ha
 obtain ⟨its2,r2,p2,_⟩:=I.tuple hb
 refine HT.cat_tup p1 p2 (fun z=>hx (r1.nil_iff.mp z)) (fun z=>⟨.ref a,H,I,rfl,q1 (r2.nil_iff.mp z)⟩) (fun z=>?_) (by rw [← r1.length,← r2.length]; exact hz)
 refine ⟨.ref s.heap.objs.size,_,I.laid (t':=s.toks) (o:=.tup (xs++ys)) (fun b ob q=>Heap.get?_push_of_some _ q) (Nat.le_refl _) ?_,rfl,q2 (fun w=>z (r2.nil_iff.mpr w)) _ (I.hok.fresh (Nat.le_refl _))⟩
 exact ⟨by rw [List.length_append]; exact hz,_,r1.append r2,IsTup.new _ _⟩
end
end L2
namespace L2
open PySem PySem.Spec PyProof.Rows
def ixN (n:Nat) (i:Int):Option Nat:=if 0≤i then (if i<n then some i.toNat else none) else if -(n:Int)≤i then some (i+n).toNat else none
def atI {α:Type} (xs:List α) (i:Int):Option α:=(ixN xs.length i).bind fun j=>xs[j]?
theorem ixN_seq {n:Nat} {i:Int} {j:Nat} (h:ixN n i=some j):seqIndex? i n=some j∧j<n∧-(n:Int)≤i∧i<n:=by
 unfold ixN at h
 by_cases h0:0≤i
 ·rw [if_pos h0] at h
  by_cases h1:i<n
  ·rw [if_pos h1] at h
   have e:i.toNat=j:=Option.some.inj h
   exact ⟨by rw [seqIndex_of h0 h1,e],by omega,by omega,h1⟩
  ·rw [if_neg h1] at h; cases h
 ·rw [if_neg h0] at h
  by_cases h1:-(n:Int)≤i
  ·rw [if_pos h1] at h
   have e:(i+n).toNat=j:=Option.some.inj h
   exact ⟨by rw [seqIndex_neg (by omega) h1,e],by omega,h1,by omega⟩
  ·rw [if_neg h1] at h; cases h
theorem atI_get {α:Type} {xs:List α} {i:Int} {v:α} (h:atI xs i=some v):∃ j,seqIndex? i xs.length=some j∧xs[j]?=some v∧j<xs.length∧-(xs.length:Int)≤i∧i<xs.length:=by
 unfold atI at h
 cases e:ixN xs.length i with
 | none=>rw [e] at h; cases h
 | some j =>
  rw [e] at h
  obtain ⟨h1,h2,h3,h4⟩:=ixN_seq e
  exact ⟨j,h1,h,h2,h3,h4⟩
theorem atI_nat {α:Type} {xs:List α} {j:Nat} {v:α} (h:xs[j]?=some v):atI xs (j:Int)=some v:=by
 have hj:j<xs.length:=(List.getElem?_eq_some_iff.mp h).1
 have e:ixN xs.length (j:Int)=some j:=by
  unfold ixN
  rw [if_pos (by omega),if_pos (by omega)]; simp
 unfold atI; rw [e]; exact h
def PlainIx (b:Expr):Prop:=∀ o i,subscripted b false o i=operate [o,i] (getItem o i)
def IxR (X:Cx) (r:R2):Prop :=
 ∀ (value slice:Expr) (pins:List (Addr×Obj)) (s:Shared) (σ:St) (H:Hp) (x y:V) (v u:Value) (Q:VK),Inv X pins σ H s→RelV x v→RelV y u→r x y H Q →
  subscripted slice false v u=operate [v,u] (getItem v u)→wpAny (model X.prog X.w) X.A (subscriptTail value slice v u) (EP X pins σ Q) X.xe s
def MtR (X:Cx) (id:String) (r:V→List V→Hp→VK→Prop):Prop :=
 ∀ (pins:List (Addr×Obj)) (s:Shared) (σ:St) (H:Hp) (x:V) (xs:List V) (v:Value) (us:List Value) (Q:VK),Inv X pins σ H s→RelV x v→Vals xs us→r x xs H Q →
  wpAny (model X.prog X.w) X.A (call (.builtin id) (v::us)) (EP X pins σ Q) X.xe s
section
variable {X:Cx} {a b:Expr} {ta tb:TE} {pos:Pos}
theorem pe_ix {r:R2} (hr:IxR X r) (ha:PE X a ta) (hb:PE X b tb) (hs:PlainIx b):PE X (.Subscript a b pos) (tOp r ta tb):=by
 intro pins s σ H Q I h
 exact Subscript_ (binT ha hb I h fun v u s2 x y H2 I2 rx ry q=>hr a b pins s2 σ H2 x y v u Q I2 rx ry q (hs _ _))
def rIxL (K:PySem.W.Frag):R2:=fun x y H Q=>∃ p xs i v,x=.ref p∧y=.int i∧SqL K H p xs∧atI xs i=some v∧Q v H
def rIxT (K:PySem.W.Frag):R2:=fun x y H Q=>∃ p xs i v,x=.ref p∧y=.int i∧SqT K H p xs∧atI xs i=some v∧Q v H
theorem ix_list:IxR X (rIxL X.K):=by
  intro value slice pins s σ H x y v u Q I rx ry h hs
  obtain ⟨p,xs,i,z,rfl,rfl,hq,he,q⟩:=h
  cases rx
  obtain ⟨t,rfl⟩:=ry
  obtain ⟨its,r,pl,hz⟩:=I.list hq
  obtain ⟨j,h1,h2,h3,h4,h5⟩:=atI_get he
  obtain ⟨w,ew,rw'⟩:=r.get h2
  have hl:=r.length
  have hn:=line63
  have fin:EP X pins σ Q w s:=⟨z,H,I,rw',q⟩
  by_cases h0:0≤i
  · have hj:i.toNat=j:=by
      rw [seqIndex_of h0 h5] at h1
      exact Option.some.inj h1
    exact item_listR pl.isList h0 (by omega) (by rw [hj]; simpa using ew) fin hs
  · have hj:(i+(its.toArray.size:Int)).toNat=j:=by
      rw [seqIndex_neg (by omega) h4] at h1
      rw [List.size_toArray,← hl]
      exact Option.some.inj h1
    exact subscriptTail_builtinR (x:=w) pl.isList.typeIs slot_list_getitem.lookup
      (wpAny_getItem_list_neg (Q:=fun r s'=>r=w∧EP X pins σ Q r s') pl.isList (by omega) (by rw [List.size_toArray]<;>omega) (by omega) (by rw [hj]; simpa using ew) ⟨rfl,fin⟩) hs
theorem ix_tup:IxR X (rIxT X.K):=by
 intro value slice pins s σ H x y v u Q I rx ry h hs
 obtain ⟨p,xs,i,z,rfl,rfl,hq,he,q⟩:=h
 cases rx
 obtain ⟨t,rfl⟩:=ry
 obtain ⟨its,r,pl,hz⟩:=I.tuple hq
 obtain ⟨j,h1,h2,h3,h4,h5⟩:=atI_get he
 obtain ⟨w,ew,rw'⟩:=r.get h2
 have hl:=r.length
 have hn:=line63
 have fin:EP X pins σ Q w s:=⟨z,H,I,rw',q⟩
 exact subscriptTail_builtinR (x:=w) pl.typeIs slot_tuple_getitem.lookup
  (getItem_tuple (j:=j) (Q:=fun r s'=>r=w∧EP X pins σ Q r s') pl (by omega) (by omega) (by rw [List.size_toArray,← hl]; exact h1) (by simpa using ew) ⟨rfl,fin⟩) hs
theorem slice_bounds (lo hi:Option Int) (n:Nat):(sliceBounds lo hi none n).1=((HT.sIx n 0 lo:Nat):Int)∧(sliceBounds lo hi none n).2.1=((HT.sIx n n hi:Nat):Int)∧(sliceBounds lo hi none n).2.2=1:=by
 refine ⟨?_,?_,rfl⟩
 ·cases lo with
  | none => simp [sliceBounds, HT.sIx]
  | some i =>
   simp only [sliceBounds,HT.sIx,Option.getD_none,show (1:Int) > 0 by decide,if_true]
   by_cases h:i<0
   ·simp only [h,if_true]<;>omega
   ·simp only [h,if_false]<;>omega
 ·cases hi with
  | none => simp [sliceBounds, HT.sIx]
  | some i =>
   simp only [sliceBounds,HT.sIx,Option.getD_none,show (1:Int) > 0 by decide,if_true]
   by_cases h:i<0
   ·simp only [h,if_true]<;>omega
   ·simp only [h,if_false]<;>omega
theorem slicePick_cut (its:List Value) (lo hi:Option Int):slicePick its.toArray lo hi none=((its.drop (HT.sIx its.length 0 lo)).take (HT.sIx its.length its.length hi - HT.sIx its.length 0 lo)).toArray:=by
 obtain ⟨h1,h2,h3⟩:=slice_bounds lo hi its.toArray.size
 unfold slicePick
 rw [h1,h2,h3]
 simp only [sliceRange_one,pick_run,List.size_toArray]<;>rfl
def rSlL (K:PySem.W.Frag):V→Option Int→Option Int→Hp→VK→Prop:=fun x lo hi H Q=>∃ a xs,x=.ref a∧SqL K H a xs∧∀ p,H p=none→Q (.ref p) (upd H p (.lst (cutV xs lo hi)))
theorem sl_list:SlR X (rSlL X.K):=by
 intro pins s σ H x v vl vu lo hi sl Q I rx hs pl pu h
 obtain ⟨a,xs,rfl,hx,q⟩:=h
 cases rx
 obtain ⟨its,r,ht,hz⟩:=I.list hx
 have hlen:=r.length
 refine ⟨"list",_,slot_list_getitem.lookup,ht.isList.typeIs,?_⟩
 refine wpAny_getItem_list_slice ht.isList hs pl pu .none (by simp) ?_ (by rw [List.size_toArray]<;>omega)
 rw [slicePick_cut,← hlen]
 refine ⟨.ref s.heap.objs.size,_,I.laid (t':=s.toks) (o:=.lst (cutV xs lo hi)) (fun b ob q=>Heap.get?_push_of_some _ q) (Nat.le_refl _) ?_,rfl,q _ (I.hok.fresh (Nat.le_refl _))⟩
 exact ⟨Nat.le_trans (cutV_length xs lo hi) hz,_,0,(r.drop (HT.sIx xs.length 0 lo)).take (HT.sIx xs.length xs.length hi - HT.sIx xs.length 0 lo),Heap.get?_push_size _ rfl⟩
def flatV:V→Bool
 | .non=>true
 | .bl _=>true
 | .int _=>true
 | .str _=>true
 | _=>false
def eqV:V→V→Bool
 | .non,.non=>true
 | .bl a,.bl b=>a==b
 | .bl a,.int b=>(if a then 1 else 0)==b
 | .int a,.bl b=>a==(if b then 1 else 0)
 | .int a,.int b=>a==b
 | .str a,.str b=>a==b
 | _,_=>false
theorem eqAt_V {A:Around} {s:Shared} {y x:V} {u v:Value} (ry:RelV y u) (rx:RelV x v) (fy:flatV y=true) (fx:flatV x=true):SeqAt.EqAt A s u v (eqV y x):=by
 cases y with
 | non =>
  cases ry
  cases x with
  | non => cases rx; exact SeqAt.EqAt.same _
  | bl b => cases rx; exact SeqAt.EqAt.none_bool b
  | int b => obtain ⟨t, rfl⟩ := rx; exact SeqAt.EqAt.none_int b t
  | str b => obtain ⟨t, rfl⟩ := rx; exact SeqAt.EqAt.none_str b t
  | _ => exact absurd (show false = true from fx) Bool.false_ne_true
 | bl a =>
  cases ry
  cases x with
  | non => cases rx; exact SeqAt.EqAt.bool_none a
  | bl b => cases rx; exact SeqAt.EqAt.bool_bool a b
  | int b => obtain ⟨t, rfl⟩ := rx; exact SeqAt.EqAt.bool_int a b t
  | str b => obtain ⟨t, rfl⟩ := rx; exact SeqAt.EqAt.bool_str a b t
  | _ => exact absurd (show false = true from fx) Bool.false_ne_true
 | int a =>
  obtain ⟨t',rfl⟩:=ry
  cases x with
  | non => cases rx; exact SeqAt.EqAt.int_none a t'
  | bl b => cases rx; exact SeqAt.EqAt.int_bool a t' b
  | int b => obtain ⟨t, rfl⟩ := rx; exact SeqAt.EqAt.int_int a t' b t
  | str b => obtain ⟨t, rfl⟩ := rx; exact SeqAt.EqAt.int_str a t' b t
  | _ => exact absurd (show false = true from fx) Bool.false_ne_true
 | str a =>
  obtain ⟨t',rfl⟩:=ry
  cases x with
  | non => cases rx; exact SeqAt.EqAt.str_none a t'
  | bl b => cases rx; exact SeqAt.EqAt.str_bool a t' b
  | int b => obtain ⟨t, rfl⟩ := rx; exact SeqAt.EqAt.str_int a t' b t
  | str b => obtain ⟨t, rfl⟩ := rx; exact SeqAt.EqAt.str_str a t' b t
  | _ => exact absurd (show false = true from fx) Bool.false_ne_true
 | _=>exact absurd (show false=true from fy) Bool.false_ne_true
def eqU (x:V) (u:Value):Bool:=match u with
 | .none=>eqV .non x
 | .bool b=>eqV (.bl b) x
 | .int i _=>eqV (.int i) x
 | .str z _=>eqV (.str z) x
 | _=>false
theorem eqU_of {x y:V} {u:Value} (r:RelV y u) (f:flatV y=true):eqU x u=eqV y x:=by
 cases y with
 | non=>cases r; rfl
 | bl b=>cases r; rfl
 | int i=>obtain ⟨t,rfl⟩:=r; rfl
 | str z=>obtain ⟨t,rfl⟩:=r; rfl
 | _=>exact absurd (show false=true from f) Bool.false_ne_true
theorem any_eqU {x:V}:∀ {xs:List V} {us:List Value},Vals xs us→xs.all flatV=true→us.any (eqU x)=xs.any fun y=>eqV y x
 | _,_,.nil,_=>rfl
 | y::xs,u::us,.cons r t,f=>by
  rw [List.all_cons,Bool.and_eq_true] at f
  rw [List.any_cons,List.any_cons,eqU_of r f.1,any_eqU t f.2]
theorem mem_eqAt {A:Around} {s:Shared} {x:V} {v:Value} (rx:RelV x v) (fx:flatV x=true):∀ {xs:List V} {us:List Value},Vals xs us→xs.all flatV=true→∀ u∈us,SeqAt.EqAt A s u v (eqU x u)
 | _,_,.nil,_=>fun u hu=>by cases hu
 | y::xs,u::us,.cons r t,f=>fun u' hu=>by
  rw [List.all_cons,Bool.and_eq_true] at f
  rcases List.mem_cons.mp hu with rfl | hu
  ·rw [eqU_of r f.1]; exact eqAt_V r rx f.1 fx
  ·exact mem_eqAt rx fx t f.2 u' hu
def inV (x:V) (xs:List V):Bool:=xs.any fun y=>eqV y x
def rIn (K:PySem.W.Frag) (neg:Bool):R2:=fun x y H Q=>∃ p xs,y=.ref p∧(SqL K H p xs∨SqT K H p xs)∧flatV x=true∧xs.all flatV=true∧Q (.bl (if neg then !inV x xs else inV x xs)) H
theorem op_notIn_seq:OpR X (compareOp .NotIn) (rIn X.K true):=by
 intro pins s σ H x y v u Q I rx ry h
 obtain ⟨p,xs,rfl,hq,fx,fs,q⟩:=h
 cases ry
 rcases hq with hq | hq
 ·obtain ⟨its,r,pl,hz⟩:=I.list hq
  refine SeqAt.notIn_listAt (eqU x) pl.isList (fun w hw=>mem_eqAt rx fx r fs w (by simpa using hw)) ⟨.bl _,H,I,rfl,?_⟩
  rw [show its.toArray.any (eqU x)=its.any (eqU x) by simp,any_eqU r fs]
  exact q
 ·obtain ⟨its,r,pl,hz⟩:=I.tuple hq
  refine SeqAt.notIn_tupleAt (eqU x) pl (fun w hw=>mem_eqAt rx fx r fs w (by simpa using hw)) ⟨.bl _,H,I,rfl,?_⟩
  rw [show its.toArray.any (eqU x)=its.any (eqU x) by simp,any_eqU r fs]
  exact q
theorem call_len_seq:CallR X (.builtin "len") (fun xs H Q=>∃ p ys,xs=[.ref p]∧(SqL X.K H p ys∨SqT X.K H p ys)∧Q (.int ys.length) H):=by
 intro pins s σ H xs us Q I r h
 obtain ⟨p,ys,rfl,hq,q⟩:=h
 obtain ⟨u,rfl,rx⟩:=vals1 r
 cases rx
 have hn:=line63
 rcases hq with hq | hq
 ·obtain ⟨its,r',pl,hz⟩:=I.list hq
  have hlen:=r'.length
  exact Calls.call_len_list pl.isList (by simp only [List.size_toArray]<;>omega) ⟨.int ys.length,H,I.tok _,⟨s.toks+1,by rw [List.size_toArray,hlen]⟩,q⟩
 ·obtain ⟨its,r',pl,hz⟩:=I.tuple hq
  have hlen:=r'.length
  exact len_tuple pl (by simp only [List.size_toArray]<;>omega) ⟨.int ys.length,H,I.tok _,⟨s.toks+1,by rw [List.size_toArray,hlen]⟩,q⟩
theorem call_list_of:CallR X (.type "list") (fun xs H Q=>∃ p ys,xs=[.ref p]∧(SqL X.K H p ys∨SqT X.K H p ys)∧∀ l,H l=none→Q (.ref l) (upd H l (.lst ys))):=by
  intro pins s σ H xs us Q I r h
  obtain ⟨p,ys,rfl,hq,q⟩:=h
  obtain ⟨u,rfl,rx⟩:=vals1 r
  cases rx
  have fin:∀ (its:List Value),Vals ys its→ys.length≤sizeLine→∀ (h':Heap) (c':Nat),(∀ b o',s.heap.get? b=some o'→h'.get? b=some o') →
      h'.get? s.heap.objs.size=some { cls:=.type "list",dict:=none,data:=.seq its.toArray c',slots:=#[] }→EP X pins σ Q (.ref s.heap.objs.size) { s with heap:=h' }:=fun its r' hz h' c' kp e =>
    ⟨.ref s.heap.objs.size,_,I.laid (t':=s.toks) kp (Nat.le_refl _) (show ObjOk X.prog X.w _ h' _ (.lst ys) from ⟨hz,its,c',r',e⟩),rfl,q _ (I.hok.fresh (Nat.le_refl _))⟩
  rcases hq with hq | hq
  · obtain ⟨its,r',pl,hz⟩:=I.list hq
    have hlen:=r'.length
    obtain ⟨o,ho,hc,n,hd⟩:=pl.isList
    exact call_list_seq p (.inl rfl) ho hc hd (fun h' c' kp e=>fin its r' hz h' c' kp e) (by simp only [List.size_toArray]<;>omega)
  · obtain ⟨its,r',pl,hz⟩:=I.tuple hq
    have hlen:=r'.length
    obtain ⟨o,ho,hc,n,hd⟩:=pl
    exact call_list_seq p (.inr rfl) ho hc hd (fun h' c' kp e=>fin its r' hz h' c' kp e) (by simp only [List.size_toArray]<;>omega)
def tyV (K:PySem.W.Frag) (T:String) (x:V) (H:Hp):Prop:=match x with
  | .str _ => T = "str"
  | .int _ => T = "int"
  | .ref p => (T = "list" ∧ ∃ xs, SqL K H p xs) ∨ (T = "tuple" ∧ ∃ o, K.lookup p = some o ∧ o.cls = .type "tuple" ∧ o.dict = none) ∨
      (T="dict"∧((∃ kvs,H p=some (.dK kvs))∨∃ kvs,H p=some (.dT kvs)))∨(T="set"∧∃ S n,H p=some (.set S n))
  | _ => False
theorem tyV_is {pins:List (Addr×Obj)} {σ:St} {H:Hp} {s:Shared} {T:String} {x:V} {v:Value} (I:Inv X pins σ H s) (r:RelV x v) (ty:tyV X.K T x H) :
    s.TypeIs v T∧∀ a,v=.ref a→∃ ob,s.heap.get? a=some ob∧ob.dict=none:=by
  cases x with
  | str z =>
    obtain ⟨t,rfl⟩:=r
    cases (show T="str" from ty)
    exact ⟨typeIs_str s z t,fun _ e=>nomatch e⟩
  | int i =>
    obtain ⟨t,rfl⟩:=r
    cases (show T="int" from ty)
    exact ⟨typeIs_int s i t,fun _ e=>nomatch e⟩
  | ref p =>
    cases r
    rcases ty with ⟨rfl,xs,hq⟩ | ⟨rfl,o,hk,hc,hd⟩ | ⟨rfl,hk⟩ | ⟨rfl,S,n,hk⟩
    · obtain ⟨its,_,pl,_⟩:=I.list hq
      refine ⟨pl.isList.typeIs,fun a e=>?_⟩
      cases e
      obtain ⟨o,n,e,c,hd,_⟩:=pl
      exact ⟨o,e,hd⟩
    · refine ⟨⟨o,I.kIn p o hk,hc⟩,fun a e=>?_⟩
      cases e
      exact ⟨o,I.kIn _ o hk,hd⟩
    · have z:∃ o,s.heap.get? p=some o∧o.ExactDict:=by
        rcases hk with ⟨kvs,hk⟩ | ⟨kvs,hk⟩
        · obtain ⟨_,_,_,_,o,_,_,e,ex,_⟩:=I.hok p _ hk
          exact ⟨o,e,ex⟩
        · obtain ⟨_,_,_,_,o,_,_,e,ex,_⟩:=I.hok p _ hk
          exact ⟨o,e,ex⟩
      obtain ⟨o,e,ex⟩:=z
      refine ⟨⟨o,e,ex.1⟩,fun a e2=>?_⟩
      cases e2
      exact ⟨o,e,ex.2.1⟩
    · obtain ⟨o,_,_,_,e,ex,_⟩:=I.hok p _ hk
      refine ⟨⟨o,e,ex.1⟩,fun a e2=>?_⟩
      cases e2
      exact ⟨o,e,ex.2.1⟩
  | _ => exact False.elim ty
def tBM0 (K:PySem.W.Frag) (T:String) (r:V→List V→Hp→VK→Prop) (to:TE):TE:=fun σ H Q=>to σ H fun x H1=>tyV K T x H1∧r x [] H1 Q
def tBM (K:PySem.W.Frag) (T:String) (r:V→List V→Hp→VK→Prop) (to:TE) (t:TA):TE:=fun σ H Q=>to σ H fun x H1=>tyV K T x H1∧t σ H1 fun xs H2=>r x xs H2 Q
variable {o e:Expr} {es:List Expr} {to:TE} {t:TA} {name:Str} {apos cpos:Pos} {T id:String} {r:V→List V→Hp→VK→Prop}
theorem pe_bm0 (pa:PlainAttrs T) (slot:Slot T name id) (hty:typeOf (.builtin id)=pure (.type "method_descriptor")) (hm:MtR X id r) (ho:PE X o to)
  (hbase:attributeBase o name X.env (eval o X.env)=eval o X.env:=by rfl) (hline:(apos.endLine==cpos.line)=true:=by rfl):PE X (.Call (.Attribute o name apos) [] [] cpos) (tBM0 X.K T r to):=by
 intro pins s σ H Q I h
 refine wpAny_Call_method0_late hbase hline (thn (ho pins s σ H _ I h) fun v s1 ⟨x,H1,I1,r1,ty,q1⟩=>?_)
 obtain ⟨h1,h2⟩:=tyV_is I1 r1 ty
 exact ⟨T,id,pa,slot,hty,h1,h2,Calls.callWith_builtin rfl (PySem.evalArgs_none (hm pins s1 σ H1 x [] v [] Q I1 r1 .nil q1))⟩
theorem pe_bm (pa:PlainAttrs T) (slot:Slot T name id) (hty:typeOf (.builtin id)=pure (.type "method_descriptor")) (hm:MtR X id r) (ho:PE X o to) (ha:PA X (e::es) t)
  (hbase:attributeBase o name X.env (eval o X.env)=eval o X.env:=by rfl)
  (hfew:((backTo cpos (starEach (e::es) X.env)).all (fun x=>!x.1)&&(backToKw cpos (keywordEach [] X.env)).all (fun x=>x.1.isSome)
   && decide ((e::es).length+([]:List Keyword).length+(if ([]:List Keyword).isEmpty then 0 else 1)<30))=true:=by rfl)
  (hline:(apos.endLine==cpos.line)=true:=by rfl) (hs:starEach (e::es) X.env=(false,eval e X.env)::starEach es X.env:=by rfl) (hplain:(backTo cpos (starEach es X.env)).any (·.1)=false:=by rfl) :
  PE X (.Call (.Attribute o name apos) (e::es) [] cpos) (tBM X.K T r to t):=by
 intro pins s σ H Q I h
 refine wpAny_Call_method_late hbase hfew hline rfl (thn (ho pins s σ H _ I h) fun v s1 ⟨x,H1,I1,r1,ty,q1⟩=>?_)
 obtain ⟨h1,h2⟩:=tyV_is I1 r1 ty
 refine ⟨T,id,pa,slot,hty,h1,h2,?_⟩
 have hA:=ha cpos pins s1 σ H1 _ I1 q1
 rw [hs] at hA ⊢
 refine Calls.callWith_builtin (by show (false||(backTo cpos (starEach es X.env)).any (·.1))=false; rw [hplain]<;>rfl) (Calls.evalArgs_plain ?_)
 exact thn hA fun us s2 ⟨vs,H2,I2,r2,q2⟩=>hm pins s2 σ H2 x vs v us Q I2 r1 r2 q2
/- xs.append(e),list.index on a module's tuple .. are MtR facts of 06m -/
end
end L2
namespace L2
open PySem PySem.Spec PyProof.Rows
def MtM (X:Cx) (id:String) (r:V→List V→Hp→VK→Prop):Prop :=
 ∀ (pins:List (Addr×Obj)) (s:Shared) (σ:St) (H:Hp) (x:V) (xs:List V) (v:Value) (us:List Value) (Q:VK),Inv X pins σ H s→RelV x v→Vals xs us→r x xs H Q →
  wpAny (model X.prog X.w) X.A (call (.builtin id) (v::us)) (EP X pins σ Q) X.xe s
theorem Vals.one:∀ {x:V} {us:List Value},Vals [x] us→∃ u,us=[u]∧RelV x u
 | _,_,.cons r .nil=>⟨_,rfl,r⟩
theorem Vals.two:∀ {x y:V} {us:List Value},Vals [x,y] us→∃ u v,us=[u,v]∧RelV x u∧RelV y v
 | _,_,_,.cons r (.cons q .nil)=>⟨_,_,rfl,r,q⟩
theorem Vals.zero:∀ {us:List Value},Vals [] us→us=[]
 | _,.nil=>rfl
section
variable {X:Cx} {pins:List (Addr×Obj)} {σ:St} {H:Hp} {s:Shared} {l b:Addr} {xs ys zs:List V}
theorem Inv.lset {its its':List Value} {n:Nat} {f:Array Value→Array Value} {t':Nat} (I:Inv X pins σ H s) (hH:H l=some (.lst xs))
  (e:s.heap.get? l=some { cls:=.type "list",data:=.seq its.toArray n }) (hf:f its.toArray=its'.toArray) (hv:Vals ys its') (hz:ys.length≤sizeLine) :
  Inv X pins σ (upd H l (.lst ys)) { s with heap:=s.heap.update l (Obj.mapSeq f),toks:=t' }:=by
 have q:=PySem.IsL.update e f
 rw [hf] at q
 refine I.write (x:=l) (e:=l) (by rw [hH]; exact trivial) (.inl rfl) (fun b' u hb hu=>(Heap.get?_update_other s.heap (Obj.mapSeq f) (Ne.symm hb)).trans hu) ⟨_,q⟩ ?_
 exact ⟨hz,its',_,hv,q⟩
theorem Inv.lnew {its:List Value} {t':Nat} (I:Inv X pins σ H s) (hv:Vals ys its) (hz:ys.length≤sizeLine) :
  Inv X pins σ (upd H s.heap.objs.size (.lst ys)) { s with heap:=s.heap.push { cls:=.type "list",data:=.seq its.toArray },toks:=t' } :=
 I.laid (fun _ _ q=>Heap.get?_push_of_some _ q) (Nat.le_refl _) ⟨hz,its,0,hv,Heap.get?_push_size _ rfl⟩
theorem Inv.fresh (I:Inv X pins σ H s):H s.heap.objs.size=none:=I.hok.fresh (Nat.le_refl _)
theorem Inv.lstM (I:Inv X pins σ H s) (hH:H l=some (.lst xs)):xs.length≤sizeLine∧∃ (its:List Value) (n:Nat),Vals xs its∧xs.length=its.length∧s.heap.get? l=some { cls:=.type "list",data:=.seq its.toArray n }:=by
 obtain ⟨z,its,n,r,e⟩:=I.hok l _ hH
 exact ⟨z,its,n,r,r.length,e⟩
end
section
variable {X:Cx}
def rAppend:V→List V→Hp→VK→Prop:=fun x vs H Q=>∃ l xs y,x=.ref l∧vs=[y]∧H l=some (.lst xs)∧xs.length<sizeLine∧Q .non (upd H l (.lst (xs++[y])))
theorem mt_append:MtM X "list.append" rAppend:=by
 intro pins s σ H x vs v us Q I rx rv h
 obtain ⟨l,xs,y,rfl,rfl,hH,hz,q⟩:=h
 cases rx
 obtain ⟨u,rfl,ru⟩:=rv.one
 obtain ⟨z,its,n,r,hl,e⟩:=I.lstM hH
 refine call_meets F.slot_list_append ⟨_,e,rfl⟩ F.entry_list_append (F.args_list_append_2 _ _) (PySem.list_append l its.toArray n u (by rw [List.size_toArray]; omega)) ⟨e,?_⟩
 refine ⟨.non,_,I.lset (its':=its++[u]) hH e (by simp) (r.append (.cons ru .nil)) ?_,rfl,q⟩
 rw [List.length_append,List.length_singleton]
 omega
def rClear:V→List V→Hp→VK→Prop:=fun x vs H Q=>∃ l xs,x=.ref l∧vs=[]∧H l=some (.lst xs)∧Q .non (upd H l (.lst []))
theorem mt_clear:MtM X "list.clear" rClear:=by
 intro pins s σ H x vs v us Q I rx rv h
 obtain ⟨l,xs,rfl,rfl,hH,q⟩:=h
 cases rx
 have hus:=rv.zero
 subst hus
 obtain ⟨z,its,n,r,hl,e⟩:=I.lstM hH
 refine call_meets F.slot_list_clear ⟨_,e,rfl⟩ F.entry_list_clear (F.args_list_clear_1 _) (AutoSeq1.list_clear_list_0 l its.toArray n (by rw [List.size_toArray]; omega)) ⟨e,?_⟩
 exact ⟨.non,_,I.lset (its':=[]) (ys:=[]) hH e rfl .nil (Nat.zero_le _),rfl,q⟩
def rCat:R2:=fun x y H Q=>∃ l b xs zs,x=.ref l∧y=.ref b∧H l=some (.lst xs)∧H b=some (.lst zs)∧xs.length+zs.length≤sizeLine∧∀ p,H p=none→Q (.ref p) (upd H p (.lst (xs++zs)))
theorem op_cat:OpR X (binaryOp .Add) rCat:=by
 intro pins s σ H x y v u Q I rx ry h
 obtain ⟨l,b,xs,zs,rfl,rfl,hH,hB,hz,q⟩:=h
 cases rx
 cases ry
 obtain ⟨z,its,n,r,hl,e⟩:=I.lstM hH
 obtain ⟨z2,its2,n2,r2,hl2,e2⟩:=I.lstM hB
 refine PySem.P.add_list e e2 ?_ (by rw [List.size_toArray,List.size_toArray]; omega)
 have ea:its.toArray++its2.toArray=(its++its2).toArray:=by simp
 rw [ea]
 exact ⟨.ref _,_,I.lnew (t':=s.toks) (r.append r2) (by rw [List.length_append]; omega),rfl,q _ I.fresh⟩
end
section
variable {prog:Program} {w:World} {A:Around} {E:Value→Shared→Prop} {s:Shared}
set_option maxRecDepth 100000 in
end
section
variable {X:Cx}
end
end L2
namespace Att
open PySem PySem.W PySem.Calls PyProof.Rows
theorem ints_of_wellAll {P:Params} {h:Heap}:∀ (ns:List Int) (vs:List Value),WellAll P h vs (ns.map WData.int)→IntsAre vs ns:=by
 intro ns
 induction ns with
 | nil =>
  intro vs w
  rw [List.map_nil] at w
  cases w
  exact .nil
 | cons n ns ih =>
  intro vs w
  rw [List.map_cons] at w
  cases w with
  | cons a b =>
   cases a
   exact .cons _ _ (ih _ b)
theorem script_of {l:OpenLaw} {n:Nat} (hn:l.most=some n) {P:Params} {h:Heap} {args:List WData} {vals:List Value}
  (hpre:l.row.toRowW.claim.pre args=true) (hwl:WellAll P h vals args) :
  ∃ a vs ns,vals=[Value.ref a]∧args=[WData.list (ns.map WData.int)]∧h.get? a=some { cls:=.type "list",data:=.seq vs.toArray }∧IntsAre vs ns∧ns.length≤n:=by
 have hsh:WShape.hasAll [] args [.list .int]=true:=(pre_splitW hpre).1
 have hc:l.pre.holds [] { args:=args }=true:=(pre_splitW hpre).2
 obtain ⟨d,r,rfl,h1,h2⟩:=hasAllW_cons hsh
 obtain rfl:=hasAllW_nil h2
 obtain ⟨xs,rfl,h3⟩:=hasW_list h1
 obtain ⟨ns,rfl⟩:=items_int h3
 have hlen:ns.length≤n:=by
  unfold OpenLaw.pre at hc
  have h4:(WTm.not (.lt (.lit (.int (n:Int))) (.len (.arg 0)))).holds [] { args:=[.list (ns.map .int)] }=true:=by
   have h4:=(holds_andW hc).1
   rw [hn] at h4
   exact h4
  have h5:=condW_of h4 (w_not (w_lt w_lit (w_len_list (w_arg rfl))))
  rw [List.length_map] at h5
  refine Nat.le_of_not_lt fun q=>?_
  have q':(n:Int)<((ns.length:Nat):Int):=by omega
  first
   | (rw [decide_eq_true q'] at h5; exact absurd h5 (by decide))
   | (simp at h5; omega)
 cases hwl with
 | cons w1 w2 =>
  cases w2
  cases w1 with
  | list ho hall => exact ⟨_, _, ns, rfl, rfl, ho, ints_of_wellAll ns _ hall, hlen⟩
theorem post_true (l:OpenLaw) (args:List WData):l.row.toRowW.claim.post args (.bool true) args=true :=
 postW_of (r:=l.row.toRowW) (X:=(true==true))
  (show WShape.has [] (.bool true) .bool=true by first | rfl | decide | simp [WShape.has,WShape.arms,WShape.armsAll])
  (show (WTm.eq .res (.lit (.bool true))).value [] { args:=args,res:=some (.bool true),after:=args }=some (.bool (true==true)) from w_eq_bool (w_res rfl) w_lit) rfl
theorem attach_call {l:OpenLaw} {n:Nat} {q:Program} {loose:List Str} {XP:(Str→Option Value)→Heap→Prop} {YP:World→Heap→Prop} {d:DefRec}
  (hn:l.most=some n) (hdf:d.params.defaults=[])
  (call:∀ (w:World) (s₀ s₁:Shared) (mg mb:Str→Option Value) (fa:Addr) (o:Obj) (pm cd doc:Value) (a:Addr) (vs:List Value) (ns:List Int),
   Ground q loose [] XP w s₀ mg mb s₁.heap→YP w s₁.heap →
   s₁.heap.get? fa=some o→o.data=.func (docDef d.name d.params d.body d.scope pm cd doc)→s₁.heap.CodeRec cd d.name→mg d.name=some (.ref fa) →
   s₁.heap.get? a=some { cls:=.type "list",data:=.seq vs.toArray }→IntsAre vs ns→ns.length≤n→s₁.gens=#[] →
   codeAny (model l.prog w) callerA (.call (.ref fa) ⟨[.ref a],[]⟩) (fun r s'=>r=.ok (.ret (.bool true))∧OldK s₁.heap s'.heap∧s'.os=s₁.os∧AllBare s'.gens) s₁) :
  WalkO q loose XP YP l.row.toRowW d [] (fun f vs=>PySem.call f vs):=by
 intro w s₀ s₁ mg mb G Y fa o pm cd doc dV kV ho hd hcd hD hmg hg args vals as hpre hlay hrd hwl hlo
 obtain rfl:dV=.none:=Dflts.none hD hdf
 obtain rfl:kV=.none:=Dflts.noKw hD
 obtain ⟨a,vs,ns,rfl,rfl,hobj,hints,hlen⟩:=script_of hn hpre hwl
 refine enter_call (codeAny_mono (call w s₀ s₁ mg mb fa o pm cd doc a vs ns G Y ho (fd_plain hd) hcd hmg hobj hints hlen hg) fun r s' hq=>?_)
 obtain ⟨rfl,h2,h3,h4⟩:=hq
 exact ⟨.inl ⟨.bool true,.bool true,[],rfl,fun _=>rfl,.bool true,post_true l _,fun _=>⟨List.Pairwise.nil,fun _ hm=>(nomatch hm)⟩⟩,h2,h3,h4⟩
section
variable {prog:Program} {w:World} {A:Around} {E:Value→Shared→Prop} {s:Shared} {K:Frag}
def ledger (h:Heap) (L d:Addr):List (Addr×Obj):=(List.range h.objs.size).filterMap fun a=>if a=L∨a=d then none else (h.get? a).map fun o=>(a,o)
end
end Att
namespace L2
open PySem PySem.Spec PyProof.Rows
theorem vals_ints:∀ {vs:List Value} {ns:List Int},IntsAre vs ns→Vals (ns.map V.int) vs
 | _,_,.nil=>.nil
 | _,_,.cons n t h=>.cons ⟨t,rfl⟩ (vals_ints h)
def Only (H:Hp):Prop:=∀ b,H b=none∨∃ o xs,H b=some (.frz o (.lst xs))
theorem law_call {P:Program} {w:World} {K:PySem.W.Frag} {mg mb:Str→Option Value} {CX:CXT} {k:Nat} {fa a:Addr} {fd:FuncData} {x:Str} {sp:Sp} {s₁:Shared} {vs:List Value} {ns:List Int}
    (KX:K.In s₁.heap) (hns:s₁.heap.Ns mainGlobals mg) (hb:s₁.heap.Ns builtinsNs mb) (hbb:∀ x:Str,x≠"__name__"→mb x=bootBuiltins x) (hlim:s₁.heap.NoLimit) (hg:s₁.gens=#[])
    (ha:s₁.heap.get? a=some { cls:=.type "list",data:=.seq vs.toArray }) (hi:IntsAre vs ns) (hl:ns.length≤sizeLine) (hr:Room k callerA)
    (F:∀ base:Heap,K.In base→base.Ns mainGlobals mg→FnOk P w K mg base CX k fa fd [x] sp) (hbind:∀ (s:Shared) (u:Value),BindsTo s fd ⟨[u],[]⟩ [(x,u)])
    (hsp:∀ H:Hp,Only H→SqL K H a (ns.map V.int)→sp [.ref a] H (fun v _=>v=.bl true) fun _ _ _=>False)
    (hCX:∀ H e s',CX [] H s₁ (fun _ _ _=>False) e s'→False) :
    codeAny (model P w) callerA (.call (.ref fa) ⟨[.ref a],[]⟩) (fun r s'=>r=.ok (.ret (.bool true))∧OldK s₁.heap s'.heap∧s'.os=s₁.os∧AllBare s'.gens) s₁:=by
  have rv:=vals_ints hi
  have lenV:=hi.length
  -- from an abstract heap in which nothing but the script may be tracked
  have core:∀ H:Hp,Only H→SqL K H a (ns.map V.int)→HOk P w H s₁.heap→(∀ b,H b≠none→b=a)→(H a≠none→K.lookup a=none) →
      codeAny (model P w) callerA (.call (.ref fa) ⟨[.ref a],[]⟩) (fun r s'=>r=.ok (.ret (.bool true))∧OldK s₁.heap s'.heap∧s'.os=s₁.os∧AllBare s'.gens) s₁:=by
    intro H hO hS hok hA hK
    have base_of:∀ {b:Addr} {o:Obj},s₁.heap.get? b=some o→H b=none→(hidT s₁.heap H).get? b=some o:=fun e n=>hidT_get e n
    have noA:∀ {b:Addr} {o:Obj} {es:Array DictEntry} {ep:Nat},s₁.heap.get? b=some o→o.data=.dict es ep→H b=none:=fun {b o es ep} e d=>by
      cases q:H b with
      | none=>rfl
      | some u =>
        have e':b=a:=hA b (by rw [q]; simp)
        subst e'
        rw [ha] at e; cases e
        have d':Data.seq vs.toArray _=Data.dict es ep:=d
        cases d'
    have nsK:∀ {b:Addr} {m:Str→Option Value},s₁.heap.Ns b m→(hidT s₁.heap H).Ns b m:=fun {b m} ⟨o,es,ep,e,d,r⟩=>⟨o,es,ep,base_of e (noA e d),d,r⟩
    have hKb:K.In (hidT s₁.heap H):=fun b o e=>base_of (KX b o e) (by
      cases q:H b with
      | none=>rfl
      | some u =>
        have e':b=a:=hA b (by rw [q]; simp)
        subst e'
        rw [hK (by rw [q]; simp)] at e; cases e)
    have hM:Mod K mg (hidT s₁.heap H):=⟨hKb,nsK hns,⟨mb,nsK hb,hbb⟩,let ⟨mc,h1,h2⟩:=hlim; ⟨mc,nsK h1,h2⟩⟩
    have e0:Env0 P w K mg (hidT s₁.heap H) callerA [] s₁ H:=⟨rfl,hM,fun b o e=>of_hidT e,Nat.le_of_eq (hidT_size _ _),trivial,fun b hb=>absurd (show b∈([]:List Addr) from hb) (by simp),hok,.of_eq hg⟩
    refine codeAny_mono ((F _ hKb (nsK hns)).run callerA [] s₁ H ⟨[.ref a],[]⟩ [.ref a] [.ref a] _ _ hr e0 (hbind s₁ (.ref a)) (.cons rfl .nil) (hsp H hO hS)) fun r s' h=>?_
    cases r with
    | error e=>exact (hCX H e s' h).elim
    | ok fl =>
      cases fl with
      | next=>exact False.elim h
      | brk=>exact False.elim h
      | cont=>exact False.elim h
      | ret u =>
        obtain ⟨v,H',os,bare,un,hok',r',q⟩:=h
        have q':v=.bl true:=q
        subst q'
        obtain rfl:u=Value.bool true:=r'
        refine ⟨rfl,OldK.of_keep fun b o e=>?_,os,bare⟩
        cases q:H b with
        | none=>exact un.keep b o e q (by intro z; exact absurd (show b∈([]:List Addr) from z) (by simp)) (by simp)
        | some u =>
          rcases hO b with z | ⟨ob,xs,z⟩
          · rw [q] at z; cases z
          · have z2:=un.frzs b ob _ z
            obtain ⟨e1,_⟩:=hok b _ z
            obtain ⟨e2,_⟩:=hok' b _ z2
            rw [e] at e1; cases e1
            exact e2
  cases hk:K.lookup a with
  | some o =>
    -- the script is one of the module's own objects
    have e:=KX a o hk
    rw [ha] at e
    cases e
    refine core (fun _=>none) (fun _=>.inl rfl) (.inr ⟨_,vs.toArray,_,hk,rfl,rfl,rfl,by rw [List.size_toArray,lenV]; exact hl,by simpa using rv⟩) (fun b u z=>by have z':(none:Option HO)=some u:=z; cases z') (fun b z=>absurd rfl z) fun z=>absurd rfl z
  | none =>
    refine core (fun b=>if b=a then some (.frz { cls:=.type "list",data:=.seq vs.toArray } (.lst (ns.map V.int))) else none) (fun b=>?_) (.inl (.inr ⟨{ cls:=.type "list",data:=.seq vs.toArray },if_pos rfl⟩)) (fun b u z=>?_) (fun b z=>?_) fun _=>hk
    · by_cases hb:b=a
      · exact .inr ⟨_,_,if_pos hb⟩
      · exact .inl (if_neg hb)
    · by_cases hb:b=a
      · have z':=(if_pos hb).symm.trans z
        cases z'
        subst hb
        exact ⟨ha,by rw [List.length_map]; exact hl,vs,_,rv,ha⟩
      · have z':=(if_neg hb).symm.trans z
        cases z'
    · by_cases hb:b=a
      · exact hb
      · exact absurd (if_neg hb) z
end L2
namespace L2
open PySem PySem.Spec PyProof.Rows
abbrev KOf {K:PySem.W.Frag} {h:Heap} (_:K.In h):PySem.W.Frag:=K
theorem walk_of {l:PySem.W.OpenLaw} {n k:Nat} {q:Program} {loose:List Str} {XP:(Str→Option Value)→Heap→Prop} {YP:World→Heap→Prop} {d:DefRec} {K:Params→PySem.W.Frag} {CX:World→CXT} {sp:World→Sp} {x:Str}
  (hn:l.most=some n) (hn2:n≤sizeLine) (hdf:d.params.defaults=[]) (hr:Room k callerA)
  (hY:∀ (w:World) (h:Heap),YP w h→(K w.params).In h)
  (F:∀ (w:World) (mg:Str→Option Value) (fa:Addr) (h:Heap),(K w.params).In h→h.Ns mainGlobals mg→mg d.name=some (.ref fa) →
   ∃ fd:FuncData,(∀ (s:Shared) (u:Value),BindsTo s fd ⟨[u],[]⟩ [(x,u)]) ∧
    ∀ base:Heap,(K w.params).In base→base.Ns mainGlobals mg→FnOk l.prog w (K w.params) mg base (CX w) k fa fd [x] (sp w))
  (hsp:∀ (w:World) (H:Hp) (a:Addr) (ns:List Int),ns.length≤n→Only H→SqL (K w.params) H a (ns.map V.int)→sp w [.ref a] H (fun v _=>v=.bl true) fun _ _ _=>False)
  (hCX:∀ (w:World) (H:Hp) (s:Shared) (e:Value) (s':Shared),CX w [] H s (fun _ _ _=>False) e s'→False) :
  PySem.W.WalkO q loose XP YP l.row.toRowW d [] (fun f vs=>PySem.call f vs):=by
 refine Att.attach_call hn hdf fun w s₀ s₁ mg mb fa o pm cd doc a vs ns G Y ho hd hcd hmg hobj hints hlen hg=>?_
 have KX:=hY w _ Y
 obtain ⟨fd,hb,hF⟩:=F w mg fa _ KX G.T.g hmg
 exact law_call KX G.T.g G.T.b G.T.builtins G.T.nolimit hg hobj hints (Nat.le_trans hlen hn2) hr hF hb (fun H hO hS=>hsp w H a ns hlen hO hS) fun H e s'=>hCX w H s₁ e s'
theorem walk_ofK {l:PySem.W.OpenLaw} {n k:Nat} {q:Program} {loose:List Str} {XP:(Str→Option Value)→Heap→Prop} {YP:World→Heap→Prop} {d:DefRec} {K:Params→PySem.W.Frag} {CX:CXT} {sp:PySem.W.Frag→Sp} {x:Str}
  (hn:l.most=some n) (hn2:n≤sizeLine) (hdf:d.params.defaults=[]) (hr:Room k callerA)
  (hY:∀ (w:World) (h:Heap),YP w h→(K w.params).In h)
  (F:∀ (w:World) (mg:Str→Option Value) (fa:Addr) (h:Heap),(K w.params).In h→h.Ns mainGlobals mg→mg d.name=some (.ref fa) →
   ∃ fd:FuncData,(∀ (s:Shared) (u:Value),BindsTo s fd ⟨[u],[]⟩ [(x,u)]) ∧
    ∀ base:Heap,(K w.params).In base→base.Ns mainGlobals mg→FnOk l.prog w (K w.params) mg base CX k fa fd [x] (sp (K w.params)))
  (hsp:∀ (K:PySem.W.Frag) (H:Hp) (a:Addr) (ns:List Int),ns.length≤n→Only H→SqL K H a (ns.map V.int)→sp K [.ref a] H (fun v _=>v=.bl true) fun _ _ _=>False)
  (hCX:∀ (H:Hp) (s:Shared) (e:Value) (s':Shared),CX [] H s (fun _ _ _=>False) e s'→False) :
  PySem.W.WalkO q loose XP YP l.row.toRowW d [] (fun f vs=>PySem.call f vs) :=
 walk_of (K:=K) (CX:=fun _=>CX) (sp:=fun w=>sp (K w.params)) hn hn2 hdf hr hY F (fun w H a ns h1 h2 h3=>hsp (K w.params) H a ns h1 h2 h3) fun _ H s e s'=>hCX H s e s'
end L2
/- THE LAST THEOREM (shape; LID,My.* are yours):
   My.Adr: a structure of the addresses that your layer names (classes,functions); My.Txt K t: a structure (Prop) of the equations over K;
   My.txt_mk:{K} {implicit addresses ..} (e1:nsIn K mainGlobals "law"=some (some (.ref f))) (e2:K.lookup f=some ⟨oc,od,.func (fnOf "law" "law" params body scope dV kV doc pm an cdv ct),sl⟩) (e3:codeIn K cdv "law"=true) ..:∃ t,My.Txt K t
set_option maxRecDepth 100000 in
set_option maxHeartbeats 0 in
theorem PySem.Challenge.cw_LID_holds : PySem.Challenge.rw_LID.Holds := by
 w_on; o_law; k_head; (case hw=>w_witness2)
 k_fill
 refine L2.walk_of (l:=PySem.Challenge.rw_LID) (n:=63) (k:=40) (x:="script") (CX:=fun w=>..) (sp:=fun _=>My.sp_law) rfl (by decide) rfl ⟨rfl,by decide,by decide⟩ (fun w h Y=>PySem.W.kIn_of Y) ?F ?S ?C
 case F =>
  intro w mg fa h KX G hmg
  have T:∃ t,My.Txt (L2.KOf KX) t:=by
   dsimp only [L2.KOf]                          -- K must stand as «<heap const> w.params» for k_is
   refine' My.txt_mk ?e1 ?e2 ?e3 ..
   (case e1=>PySem.W.k_is)                    -- in the order: a name -> its address -> its object -> its parts
   (case e2=>PySem.W.k_is)
   ..
  obtain ⟨t,T⟩:=T
  have e0:=hmg.symm.trans (PySem.W.mg_of KX G T.law)
  cases e0                                       -- fa is the law's own address
  exact ⟨_,fun s u=>.of_eq rfl,fun base kb nb=>My.law_fn T kb nb⟩     -- if «.of_eq rfl» comes too early: refine' ⟨_,?b,fun base kb nb=>My.law_fn T kb nb⟩; exact fun s u=>.of_eq rfl
 case S=>exact fun w H a ns hl hO hS=>..
 case C=>exact ..
(the tactic k_is has no namespace: write k_is) -/
namespace L2
open PySem PySem.Spec PyProof.Rows
def inClass (s:Stmt) (j:Nat):Stmt:=match s with
 | .ClassDef _ _ _ body _ _ _ _ _ _ _=>body.getD j (.Pass ⟨0,0,0,0⟩)
 | _=>.Pass ⟨0,0,0,0⟩
def defArgs (s:Stmt):Arguments:=match s with
 | .FunctionDef _ a _ _ _ _ _ _ _ _=>a
 | _=>{ posonlyargs:=[],args:=[],vararg:=none,kwonlyargs:=[],kw_defaults:=[],kwarg:=none,defaults:=[] }
def defBody (s:Stmt):List Stmt:=match s with
 | .FunctionDef _ _ b _ _ _ _ _ _ _=>b
 | _=>[]
def defScope (s:Stmt):Scope:=match s with
 | .FunctionDef _ _ _ _ _ _ sc _ _ _=>sc
 | _=>{ kind:=.function,names:=[],isGenerator:=false,isCoroutine:=false }
abbrev CX0:CXT:=fun _ _ _ _ _ _=>False
abbrev E0:XK:=fun _ _ _=>False
theorem pass0 {X:Cx}:Passes CX0 X E0:=fun _ _ _ _ _ _ _ h=>h.elim
structure Fun (K:PySem.W.Frag) (x qual:Str) (st:Stmt) (f:Addr) (fd:FuncData):Prop where
 ex:∃ (oc:Value) (od:Option Addr) (kV doc pm:Value) (an:Option Addr) (cdv ct:Value) (osl:Array (Option Value)),
  fd=PySem.W.fnOf x qual (defArgs st) (defBody st) (defScope st) .none kV doc pm an cdv ct∧K.lookup f=some ⟨oc,od,.func fd,osl⟩∧PySem.W.codeIn K cdv qual=true
 kp:PySem.W.keepIn K (.ref f)=true
section
variable {P:Program} {w:World} {K:PySem.W.Frag} {mg:Str→Option Value} {base:Heap}
theorem Fun.ok {x qual:Str} {st:Stmt} {f:Addr} {fd:FuncData} {N ps:List Str} {k:Nat} {sp:Sp} (F:Fun K x qual st f fd) (S:FnScope N ps (defScope st)) (len:∀ vs H Q E,sp vs H Q E→vs.length=ps.length)
  (hbody:∀ (cdv:Value) (A:Around) (outer:List Env) (s:Shared) (H:Hp) (vs:List V) (Q:VK) (E:XK),Room k (A.deeper (envOfC qual (defScope st) s.heap.objs.size f cdv))→sp vs H Q E →
   ∃ t,PSs (cxOf CX0 P w K mg base N qual (defScope st) f cdv A outer s H E).nox (defBody st) t∧t { nx:=fun _ H'=>Q .non H',rt:=Q } (start N vs) H):FnOk P w K mg base CX0 (k+1) f fd ps sp:=by
 obtain ⟨oc,od,kV,doc,pm,an,cdv,ct,osl,rfl,lk,hcd⟩:=F.ex
 refine fn_of lk hcd S len fun A outer s H vs Q E hr hsp=>?_
 obtain ⟨t,h,q⟩:=hbody cdv A outer s H vs Q E hr hsp
 exact ⟨t,h.nox,q⟩
theorem Fun.binds {x qual:Str} {st:Stmt} {f:Addr} {fd:FuncData} {ps:List Str} (F:Fun K x qual st f fd)
  (h:∀ (kV doc pm:Value) (an:Option Addr) (cdv ct:Value) (us:List Value),us.length=ps.length→bindArgs (PySem.W.fnOf x qual (defArgs st) (defBody st) (defScope st) .none kV doc pm an cdv ct) ⟨us,[]⟩=pure (ps.zip us)):Binds K fd ps []:=by
 obtain ⟨oc,od,kV,doc,pm,an,cdv,ct,osl,rfl,lk,hcd⟩:=F.ex
 exact .all (h kV doc pm an cdv ct)
theorem fun_mk {x qual:Str} {st:Stmt} {f:Addr} {oc:Value} {od an:Option Addr} {osl:Array (Option Value)} {kV doc pm cdv ct:Value} (l:K.lookup f=some ⟨oc,od,.func (PySem.W.fnOf x qual (defArgs st) (defBody st) (defScope st) .none kV doc pm an cdv ct),osl⟩)
  (c:PySem.W.codeIn K cdv qual=true) (k:PySem.W.keepIn K (.ref f)=true):Fun K x qual st f (PySem.W.fnOf x qual (defArgs st) (defBody st) (defScope st) .none kV doc pm an cdv ct):=⟨⟨oc,od,kV,doc,pm,an,cdv,ct,osl,rfl,l,c⟩,k⟩
end
theorem hu_of {A:Around} {k:Nat} (hr:Room k A):A.units+1<cLine:=Nat.lt_of_le_of_lt (Nat.add_le_add_left (by decide:1≤64) _) hr.units
theorem small1000 {n:Nat} (h:n≤1000):n<sizeLine:=Nat.lt_of_le_of_lt h (by decide)
section
variable {X:Cx}
theorem pv (i:Nat) {x:Str} {pos:Pos} (hN:X.N[i]?=some x:=by rfl) (hv:Vis X.env.scope x:=by first | exact Or.inl rfl | exact Or.inr (Or.inl rfl) | exact Or.inr (Or.inr rfl)) (hd:(x==("__debug__":Str))=false:=by decide)
  (hcd:(x==("__classdict__":Str))=false:=by decide):PE X (.Name x pos) (tVar i):=pe_var hN hv hd hcd
end
theorem iteF {A B:Prop} (h:B):if false=true then A else B:=by
 rw [if_neg Bool.false_ne_true]
 exact h
theorem iteT {A B:Prop} (h:A):if true=true then A else B:=by
 rw [if_pos rfl]
 exact h
theorem ite2 {c A B:Prop} [Decidable c] (h1:c→A) (h2:¬ c→B):if c then A else B:=by
 by_cases h:c
 ·rw [if_pos h]
  exact h1 h
 ·rw [if_neg h]
  exact h2 h
def Same (H H':Hp):Prop:=∀ b o,H b=some o→H' b=some o
theorem Same.refl (H:Hp):Same H H:=fun _ _ h=>h
theorem Same.trans {H H1 H2:Hp} (a:Same H H1) (b:Same H1 H2):Same H H2:=fun c o h=>b c o (a c o h)
theorem Same.free {H H':Hp} (e:Same H H') {l:Addr} (h:H' l=Option.none):H l=Option.none:=by
 cases q:H l with
 | none=>rfl
 | some o =>
  rw [e l o q] at h
  cases h
theorem Same.seq {K:PySem.W.Frag} {H H':Hp} {a:Addr} {xs:List V} (e:Same H H') (h:SqL K H a xs):SqL K H' a xs:=by
 rcases h with (h | ⟨o,h⟩) | h
 ·exact .inl (.inl (e _ _ h))
 ·exact .inl (.inr ⟨o,e _ _ h⟩)
 ·exact .inr h
end L2
set_option Elab.async false
set_option maxRecDepth 100000
namespace L2
open PySem PySem.Spec PyProof.Rows
def closOf (cells:List (Str×Addr)):List (Str×NameKind)→List (Str×Addr)→List (Str×Addr)
 | [],acc=>acc
 | (n,k)::r,acc=>closOf cells r (if k==.free then (n,(cells.lookup n).getD 0)::acc else acc)
theorem closureFor_of {scope:Scope} {env:Env} (h:∀ x∈scope.names,x.2=.free→∃ c,env.cells.lookup x.1=some c):closureFor scope env=pure (closOf env.cells scope.names []):=by
 unfold closureFor
 generalize hn:scope.names=names at h ⊢
 clear hn
 generalize ([]:List (Str×Addr))=acc
 induction names generalizing acc with
 | nil=>simp [closOf]
 | cons x r ih =>
  obtain ⟨n,k⟩:=x
  have ih':=fun a=>ih (fun x hx=>h x (List.mem_cons_of_mem _ hx)) a
  simp only [List.forIn_cons,bind_pure] at ih' ⊢
  by_cases hk:k=.free
  ·obtain ⟨c,hc⟩:=h (n,k) List.mem_cons_self hk
   subst hk
   have hcl:cellOf env n=pure c:=by simp only [cellOf,hc]
   simp only [beq_self_eq_true,if_true,hcl,hc,pure_bind,closOf,Option.getD_some]
   simpa using ih' _
  ·have hb:(k==NameKind.free)=false:=by simpa using hk
   simp only [hb,Bool.false_eq_true,if_false,pure_bind,closOf]
   simpa using ih' _
theorem closOf_look {cells:List (Str×Addr)} {y:Str} {c:Addr}:∀ {names:List (Str×NameKind)} {acc:List (Str×Addr)},(∀ x∈names,x.2=.free→∃ c,cells.lookup x.1=some c)→(acc.lookup y=some c→cells.lookup y=some c) →
  (closOf cells names acc).lookup y=some c→cells.lookup y=some c
 | [],_,_,ha,e=>ha e
 | (n,k)::r,acc,h,ha,e=>by
  unfold closOf at e
  refine closOf_look (names:=r) (fun x hx=>h x (List.mem_cons_of_mem _ hx)) (fun e'=>?_) e
  by_cases hk:k=.free
  ·obtain ⟨d,hd⟩:=h (n,k) List.mem_cons_self hk
   subst hk
   simp only [beq_self_eq_true,if_true,hd,Option.getD_some,List.lookup_cons] at e'
   cases q:y==n with
   | true =>
    rw [q] at e'
    have:y=n:=by simpa using q
    subst this
    exact hd.trans e'
   | false=>rw [q] at e'; exact ha e'
  ·have hb:(k==NameKind.free)=false:=by simpa using hk
   simp only [hb,Bool.false_eq_true,if_false] at e'
   exact ha e'
theorem closOf_has {cells:List (Str×Addr)} {y:Str}:∀ {names:List (Str×NameKind)} {acc:List (Str×Addr)},((y,NameKind.free)∈names∨∃ c,acc.lookup y=some c)→∃ c,(closOf cells names acc).lookup y=some c
 | [],_,h=>by simpa [closOf] using h
 | (n,k)::r,acc,h=>by
  unfold closOf
  refine closOf_has (names:=r) ?_
  rcases h with h | ⟨c,h⟩
  ·rcases List.mem_cons.mp h with e | e
   ·cases e
    right
    simp
   ·exact .inl e
  ·right
   by_cases hk:(k==NameKind.free)=true
   ·rw [if_pos hk,List.lookup_cons]
    cases y==n
    ·exact ⟨c,h⟩
    ·exact ⟨_,rfl⟩
   ·rw [if_neg hk]
    exact ⟨c,h⟩
end L2
set_option Elab.async false
set_option maxRecDepth 100000
namespace L2
open PySem PySem.Spec PyProof.Rows
def PTs (X:Cx) (ifs:List Expr) (t:TT):Prop :=
 ∀ (pins:List (Addr×Obj)) (s:Shared) (σ:St) (H:Hp) (Q:Bool→Hp→Prop),Inv X pins σ H s→t σ H Q →
  wpAny (model X.prog X.w) X.A (forIn ifs true fun c r=>if r=true then do let ok ← isTrue c X.env (eval c X.env); pure (ForInStep.yield ok) else pure (ForInStep.yield r)) (TP X pins σ Q) X.xe s
def tTrue:TT:=fun _ H Q=>Q true H
theorem pts_nil {X:Cx}:PTs X [] tTrue:=fun _ _ _ H _ I h=>wpAny_tests_nil ⟨H,I,h⟩
theorem pts_one {X:Cx} {c:Expr} {t:TT} (h:PT X c t):PTs X [c] t:=fun pins s σ H Q I hw=>wpAny_tests_one (h pins s σ H Q I hw)
def Cx.block (X:Cx) (scope:Scope) (N:List Str) (s:Shared) (H:Hp) (fp:List Addr):Cx where
 prog:=X.prog
 w:=X.w
 K:=X.K
 mg:=X.mg
 base:=X.base
 A:=X.A
 N:=N
 s₀:=s
 H₀:=H
 env:=compEnvC scope (closOf X.env.cells scope.names []) s.heap.objs.size X.env
 outer:=X.stack
 stack:=X.stack
 ex:=fp
 fn:=fun _=>false
 calm:=X.calm
 pn:=[]
 xe:=fun _ _=>False
def isCl:Option NameKind→Bool
 | some .cell=>true
 | some .free=>true
 | _=>false
theorem isCl_iff {k:Option NameKind} (h:isCl k=true):k=some .cell∨k=some .free:=by
 unfold isCl at h
 split at h
 ·exact .inl rfl
 ·exact .inr rfl
 ·cases h
structure CompOk (X:Cx) (scope:Scope) (N:List Str) (cap:List (Option Nat)):Prop where
 kind:scope.kind=.function
 nocell:(scope.names.all fun y=>!(y.2==.cell))=true
 loc:(scope.names.all fun y=>!(y.2==.local)||(scope.names.lookup y.1==some .local))=true
 fre:(scope.names.all fun y=>!(y.2==.free)||isCl (X.env.kindOf y.1))=true
 len:cap.length=N.length
 cap:((cap.zip N).all fun p=>match p.1 with | none=>true | some j=>(X.N[j]?==some p.2)&&isCl (X.env.kindOf p.2)&&isCl ((relabel scope X.env).names.lookup p.2))=true
def capS (cap:List (Option Nat)) (σ:St):St:=cap.map fun o=>match o with | none=>none | some j=>(σ[j]?).join
section
variable {X:Cx} {pins:List (Addr×Obj)} {σ:St} {H:Hp} {s:Shared} {fp:List Addr} {scope:Scope} {N:List Str} {cap:List (Option Nat)}
theorem CompOk.freeH (c:CompOk X scope N cap) (ok:X.Ok):∀ x∈scope.names,x.2=.free→∃ a,X.env.cells.lookup x.1=some a:=fun x hx hf=>by
 have:=List.all_eq_true.mp c.fre x hx
 rw [hf] at this
 simp only [beq_self_eq_true,Bool.not_true,Bool.false_or] at this
 exact ok.has x.1 (isCl_iff this)
theorem relabel_look {scope:Scope} {env:Env} {y:Str} (h:(relabel scope env).names.lookup y=some .cell∨(relabel scope env).names.lookup y=some .free) (nc:∀ z∈scope.names,z.2≠.cell):(y,NameKind.free)∈scope.names:=by
 unfold relabel at h
 dsimp only at h
 generalize scope.names=names at h nc
 induction names with
 | nil=>simp at h
 | cons z r ih =>
  obtain ⟨n,k⟩:=z
  have nc':∀ z∈r,z.2≠.cell:=fun z hz=>nc z (List.mem_cons_of_mem _ hz)
  rw [List.map_cons,List.lookup_cons] at h
  have nck:=nc (n,k) List.mem_cons_self
  dsimp only at h nck
  by_cases hc:(k==NameKind.free&&env.scope.kind==.function&&env.kindOf n==some .cell)=true
  ·rw [if_pos hc] at h
   dsimp only at h
   have hk:k=.free:=by
    simp only [Bool.and_eq_true,beq_iff_eq] at hc
    exact hc.1.1
   cases q:y==n with
   | true=>rw [show y=n from by simpa using q,hk]; exact List.mem_cons_self
   | false=>rw [q] at h; exact List.mem_cons_of_mem _ (ih h nc')
  ·rw [if_neg hc] at h
   dsimp only at h
   cases q:y==n with
   | true =>
    rw [q] at h
    rcases h with h | h
    ·cases h; exact absurd rfl nck
    ·cases h; rw [show y=n from by simpa using q]; exact List.mem_cons_self
   | false=>rw [q] at h; exact List.mem_cons_of_mem _ (ih h nc')
theorem CompOk.nc (c:CompOk X scope N cap):∀ z∈scope.names,z.2≠.cell:=fun z hz e=>by
 have:=List.all_eq_true.mp c.nocell z hz
 rw [e] at this
 exact absurd this (by decide)
theorem CompOk.lc (c:CompOk X scope N cap):∀ x∈scope.names,x.2=.local→scope.names.lookup x.1=some .local:=fun x hx e=>by
 have:=List.all_eq_true.mp c.loc x hx
 rw [e] at this
 simpa using this
theorem block_ok (c:CompOk X scope N cap) (I:Inv X pins σ H s) (hf:∀ b∈fp,FpOk X pins H b) (hlt:∀ b∈fp,b<s.heap.objs.size):(X.block scope N s H fp).Ok:=by
 have lk:∀ {y:Str} {a:Addr},(closOf X.env.cells scope.names []).lookup y=some a→X.env.cells.lookup y=some a:=fun e=>closOf_look (c.freeH I.ok) (fun z=>by simp at z) e
 refine ⟨I.ok.mod,c.kind,I.ok.glob,I.ok.blt,Nat.le_refl _,fun x y a h1 h2=>I.ok.inj x y a (lk h1) (lk h2),fun x hx=>closOf_has (.inl (relabel_look hx c.nc)),fun x a h=>absurd h (by simp [Cx.block]),I.ok.hd,I.ok.frames,.inl rfl,fun b hb=>⟨?_,fun x a h=>(hf b hb).2.2.2.2.1 x a (lk h)⟩,I.bs,Nat.le_trans I.ok.bsz I.sz,fun b o e hb=>?_,fun b hb z=>?_,I.stack,I.stkFree⟩
 ·exact Nat.ne_of_lt (hlt b hb)
 ·rcases (hf b hb).2.2.2.1 with z | z
  ·exact I.ok.noex b o e z
  ·exact absurd (Nat.lt_of_lt_of_le (Heap.lt_size (I.ok.bs b o e).1) z) (Nat.lt_irrefl _)
 ·rcases List.mem_cons.mp (I.stkSub b z) with e | e
  ·exact (hf b hb).2.1 e
  ·exact (hf b hb).2.2.1 e
theorem capS_get {i:Nat} {v:V} (h:(capS cap σ)[i]?=some (some v)):∃ j,cap[i]?=some (some j)∧σ[j]?=some (some v):=by
 unfold capS at h
 rw [List.getElem?_map] at h
 cases q:cap[i]? with
 | none=>rw [q] at h; cases h
 | some o =>
  rw [q] at h
  cases o with
  | none => cases h
  | some j =>
   refine ⟨j,rfl,?_⟩
   have h':(σ[j]?).join=some v:=Option.some.inj h
   cases q2:σ[j]? with
   | none=>rw [q2] at h'; cases h'
   | some o =>
    rw [q2] at h'
    have:o=some v:=h'
    rw [this]
theorem block_inv (c:CompOk X scope N cap) (I:Inv X pins σ H s) (hf:∀ b∈fp,FpOk X pins H b) (hlt:∀ b∈fp,b<s.heap.objs.size) {h1:Heap} {t1:Nat} (hns:h1.Ns s.heap.objs.size (fun x=>([]:List (Str×Value)).reverse.lookup x))
  (hsb:Heap.SameBut s.heap.objs.size (s.heap.push { cls:=.type (if (some X.env:Option Env).isSome then "dict" else "frame"),data:=.dict #[] }) h1):Inv (X.block scope N s H fp) [] (capS cap σ) H { s with heap:=h1,toks:=t1 }:=by
 have lk:∀ {y:Str} {a:Addr},(closOf X.env.cells scope.names []).lookup y=some a→X.env.cells.lookup y=some a:=fun e=>closOf_look (c.freeH I.ok) (fun z=>by simp at z) e
 have keep:∀ b o,s.heap.get? b=some o→h1.get? b=some o:=fun b o e=>(hsb.2 b (Nat.ne_of_lt (Heap.lt_size e))).trans (Heap.get?_push_of_some _ e)
 have cellK:∀ {a:Addr} {v:Option Value},s.heap.IsCell a v→h1.IsCell a v:=fun ⟨o,e,d⟩=>⟨o,keep _ _ e,d⟩
 refine ⟨block_ok c I hf hlt,rfl,I.bare,Un.kept keep,⟨_,hns,fun i x v h1 h2 h3=>?_⟩,fun x a e=>?_,I.hok.fresh (Nat.le_refl _),fun x a e=>I.freeC x a (lk e),fun p hp=>absurd (show p∈([]:List (Addr×Obj)) from hp) (by simp),I.hok.kept keep,?_⟩
 ·obtain ⟨j,hc,hs⟩:=capS_get h2
  have hN:N[i]?=some x:=h1
  have hz:(cap.zip N)[i]?=some (some j,x):=by rw [List.getElem?_zip_eq_some]; exact ⟨hc,hN⟩
  have:=List.all_eq_true.mp c.cap _ (List.mem_of_getElem? hz)
  simp only [Bool.and_eq_true,beq_iff_eq] at this
  obtain ⟨⟨e1,e2⟩,e3⟩:=this
  obtain ⟨m,hn,hl⟩:=I.loc
  have hk:=isCl_iff e2
  obtain ⟨u,r,l⟩:=hl j x v e1 hs (by rcases hk with z | z; exact .inr (.inl z); exact .inr (.inr z))
  refine ⟨u,r,?_⟩
  rcases l with ⟨l,_⟩ | ⟨_,a,ea,ca⟩
  ·rw [l] at hk; rcases hk with z | z<;>cases z
  ·have hk':=isCl_iff e3
   obtain ⟨a',ha'⟩:=closOf_has (cells:=X.env.cells) (acc:=[]) (.inl (relabel_look hk' c.nc))
   have:a'=a:=Option.some.inj ((lk ha').symm.trans ea)
   subst this
   exact .inr ⟨hk',a',ha',cellK ca⟩
 ·obtain ⟨v,hv⟩:=I.cell x a (lk e)
  exact ⟨v,cellK hv⟩
 ·unfold capS
  rw [List.length_map]
  exact c.len
end
end L2
set_option Elab.async false
set_option maxRecDepth 100000
namespace L2
open PySem PySem.Spec PyProof.Rows
theorem compLoop_go {prog:Program} {w:World} {A:Around} {R:Result→Shared→Prop} {s:Shared} {elt target iter:Expr} {ifs:List Expr} {scope:Scope} {pos:Pos} {it acc:Value} {env:Env} (J:Nat→Shared→Prop)
    (turn:∀ n s,J n s→wpAny (model prog w) A (pyNext it) (fun r s₁=>match r with
      | none=>R (.ok .next) s₁
      | some v=>wpAny (model prog w) A (letOwnedTupleGo target it v) (fun _ s₀=>wpAny (model prog w) A (assign target env v) (fun _ s₂ =>
          wpAny (model prog w) A (forIn ifs true fun c r=>if r=true then do let ok ← isTrue c env (eval c env); pure (ForInStep.yield ok) else pure (ForInStep.yield r)) (fun ok s₃ =>
            if ok=true then wpAny (model prog w) A (eval elt env) (fun x s₄ =>
              wpAny (model prog w) A (call (.builtin "list.append") [acc,x]) (fun _ s₅=>∃ m,m<n∧J m s₅) (fun _ _=>False) s₄) (fun _ _=>False) s₃
            else ∃ m,m<n∧J m s₃) (fun _ _=>False) s₂) (fun _ _=>False) s₀) (fun _ _=>False) s₁) (fun _ _=>False) s)
    (n:Nat) (h:J n s) :
    codeAny (model prog w) A (.compLoop (.ListComp elt [⟨target,iter,ifs,0⟩] scope pos) 0 it acc env) R s:=by
  refine codeAny_loop rfl J (fun n s hI=>?_) n h
  show wpAny _ A ((compTurn (.ListComp elt [⟨target,iter,ifs,0⟩] scope pos) 0 it acc env).onRaise (fun x=>do noteFrame x env; theTreesLotGoes x)) _ _ s
  refine wpAny_noted ?_
  rw [compTurn_list]
  refine wpAny_bind (wpAny_standAt (wpAny_bind (wpAny_mono (turn n s hI) (fun r s₁ h₁=>?_) fun _ _ h'=>h'.elim)))
  cases r with
  | none => exact wpAny_pure h₁
  | some v =>
    refine wpAny_bind (wpAny_mono h₁ (fun _ s₀ h₀=>?_) fun _ _ h'=>h'.elim)
    refine wpAny_bind (wpAny_mono h₀ (fun _ s₂ h₂=>wpAny_bind (wpAny_mono h₂ (fun ok s₃ h₃=>?_) fun _ _ h'=>h'.elim)) fun _ _ h'=>h'.elim)
    cases ok with
    | false=>exact wpAny_pure ⟨rfl,h₃⟩
    | true =>
      exact wpAny_bind (wpAny_bind (wpAny_mono h₃ (fun x s₄ h₄=>wpAny_bind (wpAny_mono h₄ (fun _ s₅ h₅=>wpAny_pure (wpAny_pure ⟨rfl,h₅⟩)) fun _ _ h'=>h'.elim)) fun _ _ h'=>h'.elim))
def tComp (wi:TI) (g:TG) (tt:TT) (te:TE) (cap:List (Option Nat)):TE:=fun σ H Q=>wi σ H fun J H1=>∀ l,H1 l=none →
 ∃ (n:Nat) (Pv:Nat→List V→St→Hp→Prop),Pv 0 [] (capS cap σ) (upd H1 l (.lst [])) ∧
  (∀ i ys σ' H',i<n→Pv i ys σ' H'→J.go i H'∧∀ x H2,J.yld i H' x H2→g x σ' H2 fun σ3 H3=>tt σ3 H3 fun b H4 =>
   if b=true then te σ3 H4 fun y H5=>H5 l=some (.lst ys)∧ys.length<sizeLine∧Pv (i+1) (ys++[y]) σ3 (upd H5 l (.lst (ys++[y]))) else Pv (i+1) ys σ3 H4) ∧
  ∀ ys σ' H',Pv n ys σ' H'→J.stop n H'∧Q (.ref l) H'
section
variable {X:Cx} {elt tg iter:Expr} {ifs:List Expr} {scope:Scope} {pos:Pos} {N:List Str} {cap:List (Option Nat)} {wi:TI} {g:TG} {tt:TT} {te:TE}
theorem comp_run {U:Value→Addr→Shared→Prop} (hc:X.calm=true) (c:CompOk X scope N cap) (hi:PI X tg iter wi) (hg:∀ s H fp,PG (X.block scope N s H fp) tg g) (ht:∀ s H fp,PTs (X.block scope N s H fp) ifs tt)
    (he:∀ s H fp,PE (X.block scope N s H fp) elt te)
    {pins:List (Addr×Obj)} {s:Shared} {σ:St} {H:Hp} {Q:VK} (I:Inv X pins σ H s) (h:tComp wi g tt te cap σ H Q)
    (hU:∀ (l C:Addr) (H':Hp) (s':Shared),Inv X pins σ H' s'→(∃ m,s'.heap.Ns C m)→FpOk X pins H' C→Q (.ref l) H'→U (.ref l) C s')
    {RR:Value→Addr→Result→Shared→Prop} (hRR:∀ a C s',U a C s'→RR a C (.ok .next) s') :
    wpAny (model X.prog X.w) X.A (eval iter X.env) (fun x s₁=>wpAny (model X.prog X.w) X.A (pyIter x) (fun it s₂=>wpAny (model X.prog X.w) X.A (newList []) (fun acc s₃ =>
      wpAny (model X.prog X.w) X.A (newFunctionEnv scope X.env.globals (closOf X.env.cells scope.names []) [] X.env.qual none .none (some X.env)) (fun cenv s₄ =>
        codeAny (model X.prog X.w) X.A (.compStart (.ListComp elt [⟨tg,iter,ifs,0⟩] scope pos) 0 it acc { cenv with scope:=relabel scope X.env }) (RR acc cenv.locals) s₄) X.xe s₃) X.xe s₂) X.xe s₁) X.xe s:=by
  refine thn (hi pins s σ H _ I h) fun v s1 h1=>thn h1 fun itv s2 h2=>?_
  obtain ⟨it,fp,tn,J,H2,e,I2,T,st2,f2,hq⟩:=h2
  subst e
  have hl:H2 s2.heap.objs.size=none:=I2.hok.fresh (Nat.le_refl _)
  obtain ⟨n,Pv,p0,step,fin⟩:=hq _ hl
  refine wpAny_newObj_type ?_ (by show 0≤sizeLine; exact Nat.zero_le _)
  have I3:Inv X pins σ (upd H2 s2.heap.objs.size (.lst [])) { s2 with heap:=s2.heap.push { cls:=.type "list",data:=.seq ([]:List Value).toArray } } :=
    I2.laid (t':=s2.toks) (fun b u e=>Heap.get?_push_of_some _ e) (Nat.le_refl _) ⟨Nat.zero_le _,[],_,.nil,Heap.get?_push_size _ rfl⟩
  generalize hs3:({ s2 with heap:=s2.heap.push { cls:=.type "list",data:=.seq ([]:List Value).toArray } }:Shared)=s3 at I3 ⊢
  have k23:∀ b o,s2.heap.get? b=some o→s3.heap.get? b=some o:=fun b o e=>by rw [← hs3]; exact Heap.get?_push_of_some _ e
  have fplt2:∀ b∈fp,b<s2.heap.objs.size:=fun b hb=>let ⟨o,e,_⟩:=T.obj _ _ st2 b hb; Heap.lt_size e
  have sz23:s2.heap.objs.size≤s3.heap.objs.size:=by rw [← hs3]; show _≤(s2.heap.push _).objs.size; rw [Heap.size_push]; exact Nat.le_succ _
  have fplt:∀ b∈fp,b<s3.heap.objs.size:=fun b hb=>Nat.lt_of_lt_of_le (fplt2 b hb) sz23
  have f3:∀ b∈fp,FpOk X pins (upd H2 s2.heap.objs.size (.lst [])) b:=fun b hb=>⟨by rw [upd_ne (Nat.ne_of_lt (fplt2 b hb))]; exact (f2 b hb).1,(f2 b hb).2⟩
  have st3:tn 0 s3.heap:=T.keep _ _ _ st2 fun b hb o e=>k23 b o e
  refine wpAny_newFunctionEnv c.nc (by intro y hy; simp at hy) (fun h4 hns hsb=>?_) c.kind
  have I4:=block_inv (t1:=s3.toks+([]:List (Str×Value)).length) c I3 f3 fplt hns hsb
  have st4:tn 0 h4:=T.keep _ _ _ st3 fun b hb o e=>(hsb.2 b (Nat.ne_of_lt (fplt b hb))).trans (Heap.get?_push_of_some _ e)
  generalize hY:X.block scope N s3 (upd H2 s2.heap.objs.size (.lst [])) fp=Y at I4
  have yP:Y.prog=X.prog:=by rw [← hY]; rfl
  have yw:Y.w=X.w:=by rw [← hY]; rfl
  have yK:Y.K=X.K:=by rw [← hY]; rfl
  have yA:Y.A=X.A:=by rw [← hY]; rfl
  have yx:Y.xe=fun _ _=>False:=by rw [← hY]; rfl
  have yc:Y.calm=true:=by rw [← hY]; exact hc
  have yex:Y.ex=fp:=by rw [← hY]; rfl
  have yfs:Y.fs=frs X.stack:=by rw [← hY]; rfl
  have yH:Y.H₀=upd H2 s2.heap.objs.size (.lst []):=by rw [← hY]; rfl
  have ys:Y.s₀=s3:=by rw [← hY]; rfl
  have yC:Y.env.locals=s3.heap.objs.size:=by rw [← hY]; rfl
  have yenv:compEnvC scope (closOf X.env.cells scope.names []) s3.heap.objs.size X.env=Y.env:=by rw [← hY]; rfl
  have yg:=hg s3 (upd H2 s2.heap.objs.size (.lst [])) fp
  have yt:=ht s3 (upd H2 s2.heap.objs.size (.lst [])) fp
  have ye:=he s3 (upd H2 s2.heap.objs.size (.lst [])) fp
  have ypn:Y.pn=[]:=by rw [← hY]; rfl
  have ycl:Y.env.cells=closOf X.env.cells scope.names []:=by rw [← hY]; rfl
  rw [hY] at yg yt ye
  have lk:∀ {y:Str} {a:Addr},Y.env.cells.lookup y=some a→X.env.cells.lookup y=some a:=fun e=>by rw [ycl] at e; exact closOf_look (c.freeH I.ok) (fun z=>by simp at z) e
  have stat:∀ {H':Hp},(∀ b∈fp,H' b=none)→∀ b∈fp,FpOk Y [] H' b:=fun hn b hb=>by
    refine ⟨hn b hb,by rw [yC]; exact Nat.ne_of_lt (fplt b hb),?_,.inl (by rw [yex]; exact hb),fun x a e=>(f2 b hb).2.2.2.2.1 x a (lk e),fun p hp=>?_⟩
    · rw [yfs]
      intro z
      rcases List.mem_cons.mp (I2.stkSub b z) with e | e
      · exact (f2 b hb).2.1 e
      · exact (f2 b hb).2.2.1 e
    · rw [ypn] at hp
      exact absurd hp (by simp)
  -- the end
  have done:∀ {σ':St} {H':Hp} {s':Shared},Inv Y [] σ' H' s'→Q (.ref s2.heap.objs.size) H'→U (.ref s2.heap.objs.size) s3.heap.objs.size s':=fun {σ' H' s'} J' q=>by
    have un:=J'.base
    rw [yfs,yex,yH,ys] at un
    have J3:=I3.call' (s':=s') (ch:=fp) (by rw [J'.os,ys]) un (by have:=J'.hok; rw [yP,yw] at this; exact this) J'.bare fun b hb=>⟨(f3 b hb).2.2.2.1,(f3 b hb).2.1,(f3 b hb).2.2.2.2.1,(f3 b hb).2.2.2.2.2⟩
    have hCn:H' s3.heap.objs.size=none:=by have:=J'.free; rw [yC] at this; exact this
    have hne:s3.heap.objs.size≠X.env.locals:=Nat.ne_of_gt I3.lt
    have hcl:∀ x a,X.env.cells.lookup x=some a→a≠s3.heap.objs.size:=fun x a e=>let ⟨_,o,ho,_⟩:=I3.cell x a e; Nat.ne_of_lt (Heap.lt_size ho)
    have hpn:∀ p∈X.pn++pins,p.1≠s3.heap.objs.size:=fun p hp=>Nat.ne_of_lt (Heap.lt_size (I3.pin p hp).1)
    obtain ⟨m,hn,_⟩:=J'.loc
    rw [yC] at hn
    exact hU _ _ H' s' J3 ⟨m,hn⟩ ⟨hCn,hne,I3.nofs (Nat.le_refl _),.inr I3.sz,hcl,hpn⟩ q
  have loop:∀ s5:Shared,s5={ s3 with heap:=h4,toks:=s3.toks+([]:List (Str×Value)).length } →
      codeAny (model X.prog X.w) X.A (.compLoop (.ListComp elt [⟨tg,iter,ifs,0⟩] scope pos) 0 (.ref it) (.ref s2.heap.objs.size) Y.env) (RR (.ref s2.heap.objs.size) s3.heap.objs.size) s5:=by
    rintro s5 rfl
    refine compLoop_go (fun k s'=>∃ i ys σ' H',Inv Y [] σ' H' s'∧tn i s'.heap∧(∀ b∈fp,H' b=none)∧i≤n∧k=n - i∧Pv i ys σ' H') ?_ n ⟨0,[],_,_,I4,st4,fun b hb=>(f3 b hb).1,Nat.zero_le _,rfl,p0⟩
    rintro k s6 ⟨i,zs,σ6,H6,I6,st6,fr6,hin,rfl,pv6⟩
    by_cases hlt:i<n
    · obtain ⟨go,stp⟩:=step i zs σ6 H6 hlt pv6
      have q:=T.item Y yP yw yK yc i [] s6 σ6 H6 (fun _ _=>False) I6 (stat fr6) st6 go
      rw [yA] at q
      refine thn q fun r s7 ⟨u,hr,h7⟩=>?_
      subst hr
      refine thn h7 fun _ s8 ⟨x,H8,I8,r8,y8,st8,fr8⟩=>?_
      have I8':=I8.pinned (stat fr8) (T.obj _ _ st8)
      have q:=yg _ s8 σ6 H8 x u _ I8' r8 (stp x H8 y8)
      rw [yP,yw,yA,yx] at q
      refine thn q fun _ s9 ⟨σ9,H9,I9,q9⟩=>?_
      have q:=yt _ s9 σ9 H9 _ I9 q9
      rw [yP,yw,yA,yx] at q
      refine thn q fun b s10 ⟨H10,I10,q10⟩=>?_
      have again:∀ {ws:List V} {σ':St} {H':Hp} {s':Shared},Inv Y ([]++pinsAt fp s8.heap) σ' H' s'→Pv (i+1) ws σ' H'→∃ m,m<n - i∧∃ i ys σ' H',Inv Y [] σ' H' s'∧tn i s'.heap∧(∀ b∈fp,H' b=none)∧i≤n∧m=n - i∧Pv i ys σ' H':=fun {ws σ' H' s'} J' p'=>by
        refine ⟨n - (i+1),by omega,i+1,ws,σ',H',J'.unpinned,T.keep _ _ _ st8 fun b hb o e=>(J'.pin (b,o) (List.mem_append_right _ (List.mem_append_right _ (mem_pinsAt hb e)))).1,fun b hb=>?_,hlt,rfl,p'⟩
        obtain ⟨o,e,d⟩:=T.obj _ _ st8 b hb
        exact (J'.pin (b,o) (List.mem_append_right _ (List.mem_append_right _ (mem_pinsAt hb e)))).2.1
      cases b with
      | false=>exact again I10 q10
      | true =>
        have q10:=(if_pos (α:=Prop) rfl).mp q10
        have q:=ye _ s10 σ9 H10 _ I10 q10
        rw [yP,yw,yA,yx] at q
        refine iteT ?_
        refine thn q fun xv s11 ⟨y,H11,I11,r11,hl11,hz,p11⟩=>?_
        have q:=mt_append (X:=Y) _ s11 σ9 H11 (.ref s2.heap.objs.size) [y] _ [xv] (fun _ H'=>Pv (i+1) (zs++[y]) σ9 H') I11 rfl (.cons r11 .nil) ⟨_,_,_,rfl,rfl,hl11,hz,p11⟩
        rw [yP,yw,yA,yx] at q
        exact thn q fun _ s12 ⟨_,H12,I12,_,p12⟩=>again I12 p12
    · have e:i=n:=by omega
      subst e
      obtain ⟨stop,q⟩:=fin zs σ6 H6 pv6
      have qd:=T.done Y yP yw yK yc i [] s6 σ6 H6 (fun _ _=>False) I6 (stat fr6) st6 stop
      rw [yA] at qd
      refine thn qd fun r s7 ⟨hr,I7⟩=>?_
      subst hr
      exact hRR _ _ _ (done I7 q)
  show codeAny _ _ (.compStart _ 0 (.ref it) _ (compEnvC scope (closOf X.env.cells scope.names []) s3.heap.objs.size X.env)) (RR (.ref s2.heap.objs.size) s3.heap.objs.size) _
  rw [yenv]
  exact codeAny_compStart_list (loop _ rfl) (T.self X.A 0 _ _ _ st4 (loop _ rfl))
theorem FpOk.turned {pins:List (Addr×Obj)} {σ:St} {H:Hp} {s:Shared} {C:Addr} {h':Heap} (f:FpOk X pins H C) (I:Inv X pins σ H s) (sb:Heap.SameBut C s.heap h'):Inv X pins σ H { s with heap:=h' } :=
 I.turned (t':=s.toks) (fun b o hb e=>(sb.2 b hb).trans e) f.1 f.2.1 f.2.2.2.1 f.2.2.2.2.1 f.2.2.2.2.2
theorem pe_comp (hc:X.calm=true) (c:CompOk X scope N cap) (hi:PI X tg iter wi) (hg:∀ s H fp,PG (X.block scope N s H fp) tg g) (ht:∀ s H fp,PTs (X.block scope N s H fp) ifs tt)
  (he:∀ s H fp,PE (X.block scope N s H fp) elt te) (hs:∀ x,foldedSetIterable iter X.env x=pure x:=by intro _; rfl):PE X (.ListComp elt [⟨tg,iter,ifs,0⟩] scope pos) (tComp wi g tt te cap):=by
 intro pins s σ H Q I h
 rw [eval_ListComp]
 refine wpAny_comprehension_free rfl hs (closureFor_of (c.freeH I.ok)) c.kind c.lc ?_
 exact comp_run (U:=fun a C s'=>∃ m,s'.heap.Ns C m∧∀ h',Heap.SameBut C s'.heap h'→EP X pins σ Q a { s' with heap:=h' }) hc c hi hg ht he I h
  (fun l C H' s' I' ⟨m,hn⟩ f q=>⟨m,hn,fun h' sb=>⟨.ref l,H',f.turned I' sb,rfl,q⟩⟩) fun a C s' u=>u
theorem ps_setC {i:Nat} {x:Str} {pos' pos2:Pos} (hN:X.N.Nodup) (hi':X.N[i]?=some x) (hx:Loc X.env.scope x) (hc:X.calm=true) (c:CompOk X scope N cap) (hi:PI X tg iter wi) (hg:∀ s H fp,PG (X.block scope N s H fp) tg g) (ht:∀ s H fp,PTs (X.block scope N s H fp) ifs tt)
  (he:∀ s H fp,PE (X.block scope N s H fp) elt te) (hsw:swapsWith (.ListComp elt [⟨tg,iter,ifs,0⟩] scope pos) (some (.Name x pos')) pos2.line X.env=pure true) (hs:∀ x,foldedSetIterable iter X.env x=pure x:=by intro _; rfl)
  (hf:X.fn x=true∨X.env.scope.names.lookup x=some .local:=by first | exact .inl rfl | exact .inr rfl | assumption):PS X (.Assign [.Name x pos'] (.ListComp elt [⟨tg,iter,ifs,0⟩] scope pos) pos2) (tAsg (tComp wi g tt te cap) (gName i)):=by
 intro pins s σ H D I h
 rw [exec_Assign_Name_used _ _ _ _ hsw]
 refine wpAny_bind (wpAny_standAt (wpAny_bind ?_))
 show wpAny _ X.A (do let _ ← comprehension (.ListComp elt [⟨tg,iter,ifs,0⟩] scope pos) scope X.env _ (newList []) false (eval iter X.env) (some (assign (.Name x pos') X.env))) _ _ s
 refine wpAny_bind (wpAny_mono (wpAny_comprehension_free (Q:=fun _ s'=>SP X pins D .next s') rfl hs (closureFor_of (c.freeH I.ok)) c.kind c.lc ?_) (fun _ s' hq=>wpAny_pure (wpAny_pure hq)) fun _ _ e=>e)
 refine comp_run (U:=fun a C s'=>wpAny (model X.prog X.w) X.A (assign (.Name x pos') X.env a) (fun _ s''=>∃ m,s''.heap.Ns C m∧∀ h',Heap.SameBut C s''.heap h'→SP X pins D .next { s'' with heap:=h' }) X.xe s') hc c hi hg ht he I h ?_ fun a C s' u=>u
 intro l C H' s' I' hn f q
 obtain ⟨m,o,es,ep,ho,hd,r⟩:=hn
 have I2:Inv X (pins++[(C,o)]) σ H' s':=I'.pins_of fun p hp=>by
  rcases List.mem_append.mp hp with z | z
  ·exact I'.pin p (List.mem_append_right _ z)
  ·have e:p=(C,o):=by simpa using z
   subst e
   exact ⟨ho,f.1,f.2.1,f.2.2.1,fun v z=>by rw [hd] at z; cases z⟩
 refine wpAny_assign_Name (store_ok I2 hN hi' hx (v:=.ref l) rfl (fun s2 I3=>?_) hf)
 have pc:=(I3.pin (C,o) (List.mem_append_right _ (List.mem_append_right _ List.mem_cons_self))).1
 exact ⟨m,⟨o,es,ep,pc,hd,r⟩,fun h' sb=>⟨_,H',f.turned I3.unpinned sb,q⟩⟩
end
end L2
set_option Elab.async false
set_option maxRecDepth 100000
namespace L2
open PySem PySem.Spec PyProof.Rows
section
variable {X:Cx}
theorem call_isinst:CallR X (.builtin "isinstance") (fun xs H Q=>∃ x n t b,xs=[x,.ty n]∧TyOf X.K H x t∧PySem.W.kitOne X.K t (.type n)=some b∧Q (.bl b) H):=by
 intro pins s σ H xs us Q I r h
 obtain ⟨x,n,t,b,rfl,ty,e,q⟩:=h
 obtain ⟨u,v,rfl,ru,rv⟩:=r.two
 cases (show v=Value.type n from rv)
 exact isinst_ok I ru ty e fun tk=>⟨.bl b,H,I.tok tk,rfl,q⟩
theorem in1_hd {A:Around} (h:A.handled=none):A.in1.handled=none:=h
theorem vals_getD {its:List Value} {bs:List Bool} (r:Vals (bs.map V.bl) its) {i:Nat} {v:Value} (e:its[i]?=some v):v=.bool (bs.getD i false):=by
 have hl:=r.length
 rw [List.length_map] at hl
 have hi:i<its.length:=(List.getElem?_eq_some_iff.mp e).1
 have hb:(bs.map V.bl)[i]?=some (V.bl (bs.getD i false)):=by
  rw [List.getElem?_map,List.getD_eq_getElem?_getD,List.getElem?_eq_getElem (by omega)]
  rfl
 obtain ⟨u,hu,ru⟩:=r.get hb
 rw [e] at hu
 cases hu
 exact ru
theorem range_all (bs:List Bool):(List.range bs.length).all (fun i=>bs.getD i false)=bs.all id:=by
 rw [Bool.eq_iff_iff]
 simp only [List.all_eq_true,List.mem_range,id]
 constructor
 ·intro h b hb
  obtain ⟨i,hi,rfl⟩:=List.mem_iff_getElem.mp hb
  have:=h i hi
  rwa [List.getD_eq_getElem?_getD,List.getElem?_eq_getElem hi] at this
 ·intro h i hi
  rw [List.getD_eq_getElem?_getD,List.getElem?_eq_getElem hi]
  exact h _ (List.getElem_mem hi)
theorem call_all_bl (hc:X.calm=true):CallR X (.builtin "all") (fun xs H Q=>∃ (p:Addr) (bs:List Bool),xs=[.ref p]∧SqL X.K H p (bs.map V.bl)∧Q (.bl (bs.all id)) H):=by
 intro pins s σ H xs us Q I r h
 obtain ⟨p,bs,rfl,hp,q⟩:=h
 obtain ⟨u,rfl,ru⟩:=r.one
 cases (show u=Value.ref p from ru)
 obtain ⟨its,rv,pl,hz⟩:=I.list hp
 have hh:=in1_hd (I.ok.hd hc)
 have hlt:p<s.heap.objs.size:=let ⟨o,ho,_⟩:=pl.isList; Heap.lt_size ho
 refine call_all_walk (wpAny_pyIter_list pl.isList ?_)
 refine ⟨s.heap.objs.size,_,_,_,_,_,fun i=>bs.getD i false,rfl,Walks.list hh s.heap.objs.size p (Nat.ne_of_lt hlt) its.toArray,⟨⟨_,Heap.get?_push_size _ rfl,rfl,rfl⟩,pl.isList.push _⟩,fun i v s' Q' E' hP hQ=>?_,fun h' tk hk=>?_⟩
 ·have:=vals_getD rv (i:=i) (v:=v) (by simpa using hP)
  subst this
  exact wpAny_truthy_bool hQ
 ·have hl:=rv.length
  rw [List.length_map] at hl
  refine ⟨.bl (bs.all id),H,I.kept (h':=h') (t':=tk) fun b o e=>hk b o (by simpa using Nat.ne_of_lt (Heap.lt_size e)) (Heap.get?_push_of_some _ e),?_,q⟩
  show _=_
  rw [List.size_toArray,← hl,range_all]
theorem vals_geti {its:List Value} {ns:List Int} (r:Vals (ns.map V.int) its) {i:Nat} {v:Value} (e:its[i]?=some v):∃ t,v=.int (ns.getD i 0) t:=by
 have hl:=r.length
 rw [List.length_map] at hl
 have hi:i<its.length:=(List.getElem?_eq_some_iff.mp e).1
 have hb:(ns.map V.int)[i]?=some (V.int (ns.getD i 0)):=by
  rw [List.getElem?_map,List.getD_eq_getElem?_getD,List.getElem?_eq_getElem (by omega)]
  rfl
 obtain ⟨u,hu,ru⟩:=r.get hb
 rw [e] at hu
 cases hu
 exact ru
theorem preSum_take (ns:List Int):∀ k,k≤ns.length→preSum (fun i=>ns.getD i 0) k=(ns.take k).sum
 | 0,_=>rfl
 | k+1,h=>by
  have ih:=preSum_take ns k (by omega)
  rw [List.take_add_one,List.sum_append,← ih,List.getElem?_eq_getElem (by omega)]
  show preSum _ k+ns.getD k 0=_
  rw [List.getD_eq_getElem?_getD,List.getElem?_eq_getElem (by omega)]
  simp
def SmallSum (ns:List Int):Prop:=∀ k,k≤ns.length→InLong ((ns.take k).sum)∧∀ n∈ns,InLong n
theorem call_sum_seq (hc:X.calm=true):CallR X (.builtin "sum") (fun xs H Q=>∃ (p:Addr) (ns:List Int),xs=[.ref p]∧(SqL X.K H p (ns.map V.int)∨SqT X.K H p (ns.map V.int))∧SmallSum ns∧Q (.int ns.sum) H):=by
  intro pins s σ H xs us Q I r h
  obtain ⟨p,ns,rfl,hp,sm,q⟩:=h
  obtain ⟨u,rfl,ru⟩:=r.one
  cases (show u=Value.ref p from ru)
  have hh:=in1_hd (I.ok.hd hc)
  have fin:∀ {its:List Value} {h':Heap} {tk:Nat} {t':Tok},Vals (ns.map V.int) its→(∀ b o,b∉[s.heap.objs.size]→s.heap.get? b=some o→h'.get? b=some o) →
      EP X pins σ Q (.int (preSum (fun i=>ns.getD i 0) its.length) t') { s with heap:=h',toks:=tk }:=fun {its h' tk t'} rv hk=>by
    have hl:=rv.length
    rw [List.length_map] at hl
    refine ⟨.int ns.sum,H,I.kept (h':=h') (t':=tk) fun b o e=>hk b o (by simpa using Nat.ne_of_lt (Heap.lt_size e)) e,⟨t',?_⟩,q⟩
    rw [← hl,preSum_take _ _ (Nat.le_refl _),List.take_of_length_le (Nat.le_refl _)]
  have fit:∀ {its:List Value},Vals (ns.map V.int) its→∀ j,j<its.length→InLong (ns.getD j 0)∧InLong (preSum (fun i=>ns.getD i 0) (j+1)):=fun {its} rv j hj=>by
    have hl:=rv.length
    rw [List.length_map] at hl
    refine ⟨(sm 0 (Nat.zero_le _)).2 _ ?_,?_⟩
    · rw [List.getD_eq_getElem?_getD,List.getElem?_eq_getElem (by omega)]
      exact List.getElem_mem _
    · rw [preSum_take _ _ (by omega)]
      exact (sm _ (by omega)).1
  rcases hp with hp | hp
  · obtain ⟨its,rv,pl,hz⟩:=I.list hp
    have hlt:p<s.heap.objs.size:=let ⟨o,ho,_⟩:=pl.isList; Heap.lt_size ho
    refine call_sum_walk (wpAny_pyIter_list pl.isList ?_)
    refine ⟨s.heap.objs.size,_,_,_,_,_,fun i=>ns.getD i 0,rfl,Walks.list hh s.heap.objs.size p (Nat.ne_of_lt hlt) its.toArray,⟨⟨_,Heap.get?_push_size _ rfl,rfl,rfl⟩,pl.isList.push _⟩,fun b hb=>?_,fun i v hP=>vals_geti rv (by simpa using hP),fun j hj=>fit rv j (by simpa using hj),fun h' tk t' hk=>fin rv fun b o hb e=>hk b o hb (Heap.get?_push_of_some _ e)⟩
    rw [Heap.size_push]
    rcases List.mem_cons.mp hb with e | e
    · rw [e]; exact Nat.lt_succ_self _
    · have:b=p:=by simpa using e
      rw [this]; exact Nat.lt_succ_of_lt hlt
  · obtain ⟨its,rv,pl,hz⟩:=I.tuple hp
    have hlt:p<s.heap.objs.size:=let ⟨o,ho,_⟩:=pl; Heap.lt_size ho
    refine call_sum_walk (wpAny_pyIter_tuple pl ?_)
    refine ⟨s.heap.objs.size,_,_,_,_,_,fun i=>ns.getD i 0,rfl,Walks.tuple hh s.heap.objs.size p (Nat.ne_of_lt hlt) its.toArray,⟨⟨_,Heap.get?_push_size _ rfl,rfl,rfl⟩,pl.push _⟩,fun b hb=>?_,fun i v hP=>vals_geti rv (by simpa using hP),fun j hj=>fit rv j (by simpa using hj),fun h' tk t' hk=>fin rv fun b o hb e=>hk b o hb (Heap.get?_push_of_some _ e)⟩
    rw [Heap.size_push]
    rcases List.mem_cons.mp hb with e | e
    · rw [e]; exact Nat.lt_succ_self _
    · have:b=p:=by simpa using e
      rw [this]; exact Nat.lt_succ_of_lt hlt
end
end L2
set_option Elab.async false
set_option maxRecDepth 100000
namespace L2
open PySem PySem.Spec PyProof.Rows
mutual
def Rep (H:Hp):PyData→V→Prop
 | .none,v=>v=.non
 | .bool b,v=>v=.bl b
 | .int i,v=>v=.int i
 | .str x,v=>v=.str x
 | .list ds,v=>∃ a xs,v=.ref a∧H a=some (.lst xs)∧RepL H ds xs
 | .tuple ds,v=>∃ a xs,v=.ref a∧H a=some (.tup xs)∧RepL H ds xs
 | .dict _,_=>False
def RepL (H:Hp):List PyData→List V→Prop
 | [],xs=>xs=[]
 | d::ds,xs=>∃ x r,xs=x::r∧Rep H d x∧RepL H ds r
end
mutual
theorem Rep.mono {H H':Hp} (s:Same H H'):∀ {d:PyData} {v:V},Rep H d v→Rep H' d v
 | .none,_,h=>by simpa [Rep] using h
 | .bool _,_,h=>by simpa [Rep] using h
 | .int _,_,h=>by simpa [Rep] using h
 | .str _,_,h=>by simpa [Rep] using h
 | .list ds,_,h=>by
  simp only [Rep] at h ⊢
  obtain ⟨a,xs,e,h1,h2⟩:=h
  exact ⟨a,xs,e,s _ _ h1,RepL.mono s h2⟩
 | .tuple ds,_,h=>by
  simp only [Rep] at h ⊢
  obtain ⟨a,xs,e,h1,h2⟩:=h
  exact ⟨a,xs,e,s _ _ h1,RepL.mono s h2⟩
 | .dict _,_,h=>by simp only [Rep] at h
theorem RepL.mono {H H':Hp} (s:Same H H'):∀ {ds:List PyData} {xs:List V},RepL H ds xs→RepL H' ds xs
 | [],_,h=>by simpa [RepL] using h
 | d::ds,_,h=>by
  simp only [RepL] at h ⊢
  obtain ⟨x,r,e,h1,h2⟩:=h
  exact ⟨x,r,e,Rep.mono s h1,RepL.mono s h2⟩
end
section
variable {X:Cx} {pins:List (Addr×Obj)} {σ:St} {H:Hp} {s:Shared}
mutual
theorem Rep.reads (I:Inv X pins σ H s):∀ {d:PyData} {v:V} {u:Value},Rep H d v→RelV v u→∃ as,Reads s.heap u d as
 | .none,_,_,h,r=>by simp only [Rep] at h; subst h; cases r; exact ⟨_,.none⟩
 | .bool _,_,_,h,r=>by simp only [Rep] at h; subst h; cases r; exact ⟨_,.bool _⟩
 | .int _,_,_,h,r=>by simp only [Rep] at h; subst h; obtain ⟨t,rfl⟩:=r; exact ⟨_,.int _ _⟩
 | .str _,_,_,h,r=>by simp only [Rep] at h; subst h; obtain ⟨t,rfl⟩:=r; exact ⟨_,.str _ _⟩
 | .list ds,_,_,h,r=>by
  simp only [Rep] at h
  obtain ⟨a,xs,rfl,h1,h2⟩:=h
  cases (show _=Value.ref a from r)
  obtain ⟨its,rv,pl,_⟩:=I.list (SqL.of h1)
  obtain ⟨as,ra⟩:=RepL.reads I h2 rv
  obtain ⟨o,n,e,c,_,d⟩:=pl
  exact ⟨_,.list e c d (by simpa using ra)⟩
 | .tuple ds,_,_,h,r=>by
  simp only [Rep] at h
  obtain ⟨a,xs,rfl,h1,h2⟩:=h
  cases (show _=Value.ref a from r)
  obtain ⟨its,rv,pl,_⟩:=I.tuple (SqT.of h1)
  obtain ⟨as,ra⟩:=RepL.reads I h2 rv
  obtain ⟨o,e,c,n,d⟩:=pl
  exact ⟨_,.tuple e c d (by simpa using ra)⟩
 | .dict _,_,_,h,_=>by simp only [Rep] at h
theorem RepL.reads (I:Inv X pins σ H s):∀ {ds:List PyData} {xs:List V} {us:List Value},RepL H ds xs→Vals xs us→∃ as,ReadsAll s.heap us ds as
 | [],_,_,h,r=>by simp only [RepL] at h; subst h; cases r; exact ⟨_,.nil⟩
 | d::ds,_,_,h,r=>by
  simp only [RepL] at h
  obtain ⟨x,t,rfl,h1,h2⟩:=h
  cases r with
  | cons r1 r2 =>
   obtain ⟨as,a1⟩:=Rep.reads I h1 r1
   obtain ⟨bs,a2⟩:=RepL.reads I h2 r2
   exact ⟨_,.cons a1 a2⟩
end
end
def rEqD (neg:Bool):R2:=fun x y H Q=>∃ d e,Rep H d x∧Rep H e y∧SeqAt.shaped d=true∧SeqAt.shaped e=true∧Q (.bl (if neg then !PyData.eqv d e else PyData.eqv d e)) H
section
variable {X:Cx}
theorem op_eqD (hu:X.A.units+64<cLine):OpR X (compareOp .Eq) (rEqD false):=by
 intro pins s σ H x y v u Q I rx ry h
 obtain ⟨d,e,h1,h2,s1,s2,q⟩:=h
 obtain ⟨as,r1⟩:=h1.reads I rx
 obtain ⟨bs,r2⟩:=h2.reads I ry
 exact eq_dataH r1 r2 s1 s2 hu ⟨.bl _,H,I,rfl,q⟩
theorem op_neD (hu:X.A.units+64<cLine):OpR X (compareOp .NotEq) (rEqD true):=by
 intro pins s σ H x y v u Q I rx ry h
 obtain ⟨d,e,h1,h2,s1,s2,q⟩:=h
 obtain ⟨as,r1⟩:=h1.reads I rx
 obtain ⟨bs,r2⟩:=h2.reads I ry
 exact ne_dataH r1 r2 s1 s2 hu ⟨.bl _,H,I,rfl,q⟩
end
def tyD:PyData→String
 | .none=>"NoneType"
 | .bool _=>"bool"
 | .int _=>"int"
 | .str _=>"str"
 | .list _=>"list"
 | .tuple _=>"tuple"
 | .dict _=>"dict"
theorem Rep.ty {K:PySem.W.Frag} {H:Hp} {d:PyData} {v:V} (h:Rep H d v):TyOf K H v (.type (tyD d)):=by
 cases d with
 | none=>simp only [Rep] at h; subst h; exact .non
 | bool b=>simp only [Rep] at h; subst h; exact .bl b
 | int b=>simp only [Rep] at h; subst h; exact .int b
 | str b=>simp only [Rep] at h; subst h; exact .str b
 | list ds=>simp only [Rep] at h; obtain ⟨a,xs,rfl,e,_⟩:=h; exact .lst e
 | tuple ds=>simp only [Rep] at h; obtain ⟨a,xs,rfl,e,_⟩:=h; exact .tup e
 | dict _=>simp only [Rep] at h
def isD (T:String):PyData→Bool
 | .none=>T=="NoneType"
 | .bool _=>T=="bool"||T=="int"
 | .int _=>T=="int"
 | .str _=>T=="str"
 | .list _=>T=="list"
 | .tuple _=>T=="tuple"
 | .dict _=>T=="dict"
theorem kit_bool {K:PySem.W.Frag} (d:PyData):PySem.W.kitOne K (.type (tyD d)) (.type "bool")=some (isD "bool" d):=by cases d<;>kernel_rfl
theorem kit_int {K:PySem.W.Frag} (d:PyData):PySem.W.kitOne K (.type (tyD d)) (.type "int")=some (isD "int" d):=by cases d<;>kernel_rfl
theorem kit_str {K:PySem.W.Frag} (d:PyData):PySem.W.kitOne K (.type (tyD d)) (.type "str")=some (isD "str" d):=by cases d<;>kernel_rfl
theorem kit_list {K:PySem.W.Frag} (d:PyData):PySem.W.kitOne K (.type (tyD d)) (.type "list")=some (isD "list" d):=by cases d<;>kernel_rfl
theorem kit_tuple {K:PySem.W.Frag} (d:PyData):PySem.W.kitOne K (.type (tyD d)) (.type "tuple")=some (isD "tuple" d):=by cases d<;>kernel_rfl
end L2
set_option Elab.async false
set_option maxRecDepth 100000
namespace L2
open PySem PySem.Spec PyProof.Rows
theorem Inv.turnedL {X:Cx} {pins:List (Addr×Obj)} {σ:St} {H:Hp} {s:Shared} {h':Heap} {t':Nat} {ch:List Addr} {T:Addr} {o:HO} (I:Inv X pins σ H s) (k:∀ b o,b∉ch→s.heap.get? b=some o→h'.get? b=some o)
  (f:∀ b∈ch,FpOk X pins H b) (there:∀ b∈ch,∃ o,h'.get? b=some o) (hT:s.heap.objs.size≤T) (new:ObjOk X.prog X.w (upd H T o) h' T o):Inv X pins σ (upd H T o) { s with heap:=h',toks:=t' }:=by
 have nit:∀ b u,H b=some u→b∉ch:=fun b u e z=>by rw [(f b z).1] at e; cases e
 have ltT:∀ b ob,s.heap.get? b=some ob→b≠T:=fun b ob e=>Nat.ne_of_lt (Nat.lt_of_lt_of_le (Heap.lt_size e) hT)
 have hTn:H T=none:=I.hok.fresh hT
 have neT:∀ b u,H b=some u→b≠T:=fun b u e=>ne_of_none e hTn
 refine I.step (g':=s.gens) (d':=s.drawn) (ch:=ch) (fun b hb=>⟨(f b hb).2.2.2.1,(f b hb).2.1,(f b hb).2.2.2.2.1,(f b hb).2.2.2.2.2⟩) (fun b o _ _ hc e _=>k b o hc e) (fun b o _ _ hc e _=>⟨o.slots,k b o hc e⟩) (fun b o _ e n=>by rw [upd_ne (ltT b o e)]; exact n)
  (fun b o hc e=>⟨o,k b o hc e⟩) (fun b _ e=>by rw [upd_ne (neT b _ e)]; exact e) (fun b _ _ e=>by rw [upd_ne (neT b _ e)]; exact e) (fun b ps e=>⟨#[],by rw [upd_ne (neT b _ e),e]; simp⟩) (fun m hm=>?_) (fun b u e=>?_) I.bare
 ·obtain ⟨ob,es,ep,ho,r⟩:=hm
  exact ⟨ob,es,ep,k _ ob (fun z=>(f _ z).2.1 rfl) ho,r⟩
 ·by_cases hb:b=T
  ·subst hb
   rw [upd_same] at e
   cases e
   exact new
  ·rw [upd_ne hb] at e
   refine (I.hok b u e).stay (fun c v hc q=>k c v ?_ q) (fun q e'=>?_) fun a q e'=>?_
   ·rcases hc with z | z
    ·rw [z]; exact nit b u e
    ·exact nit c _ z
   ·rw [upd_ne (neT _ _ e')]; exact e'
   ·rw [upd_ne (neT _ _ e')]; exact e'
def Itz (K:PySem.W.Frag) (a b:Addr):It :=
  ⟨fun i H=>∃ xs ys x y,SqL K H a xs∧SqL K H b ys∧xs[i]?=some x∧ys[i]?=some y,
   fun i H v H'=>∃ T,v=.ref T∧H T=none∧∀ xs ys,SqL K H a xs→SqL K H b ys→∃ x y,xs[i]?=some x∧ys[i]?=some y∧H'=upd H T (.tup [x,y]),
   fun i H=>∃ xs ys,SqL K H a xs∧SqL K H b ys∧(xs.length≤i∨ys.length≤i)⟩
theorem turn_zip {P:Program} {w:World} {K:PySem.W.Frag} {elts:List Expr} {kt:Nat} {pt:Pos} {a b n:Addr} (ha:a<n) (hb:b<n) :
    Turn P w K (.Tuple elts kt pt) (Itz K a b) [n+4,n+2,n+3,n,n+1] (n+4) (fun i h=>IsZip h (n+4) (n+2) (n+3) .none∧IsPair h (n+2) (.ref n) (.ref (n+1))∧(∃ x y,IsPair h (n+3) x y)∧h.IsListIter n a i∧h.IsListIter (n+1) b i) where
  mem:=by simp
  obj:=fun i h st c hc=>by
    obtain ⟨z1,z2,⟨x,y,z3⟩,⟨o4,e4,c4,d4⟩,⟨o5,e5,c5,d5⟩⟩:=st
    simp only [List.mem_cons,List.not_mem_nil,or_false] at hc
    rcases hc with rfl | rfl | rfl | rfl | rfl
    · exact ⟨_,z1,fun v z=>by cases z⟩
    · exact ⟨_,z2,fun v z=>by cases z⟩
    · exact ⟨_,z3,fun v z=>by cases z⟩
    · exact ⟨_,e4,fun v z=>by rw [d4] at z; cases z⟩
    · exact ⟨_,e5,fun v z=>by rw [d5] at z; cases z⟩
  keep:=fun i h h' st k=>by
    obtain ⟨z1,z2,⟨x,y,z3⟩,z4,z5⟩:=st
    exact ⟨k _ (by simp) _ z1,k _ (by simp) _ z2,⟨x,y,k _ (by simp) _ z3⟩,z4.at fun o e=>k _ (by simp) o e,z5.at fun o e=>k _ (by simp) o e⟩
  item:=by
    intro X hP hw hK hc i pins s σ H E I hf st hg
    subst hP hw hK
    obtain ⟨xs,ys,x,y,hqa,hqb,hx,hy⟩:=hg
    obtain ⟨its,rv,p,hz⟩:=I.list hqa
    obtain ⟨jts,rw',p',hz'⟩:=I.list hqb
    obtain ⟨u,hu,ru⟩:=rv.get hx
    obtain ⟨u',hu',ru'⟩:=rw'.get hy
    obtain ⟨z1,z2,⟨x0,y0,z3⟩,z4,z5⟩:=st
    have D:ZipApart (n+4) (n+2) (n+3) n (n+1) a b:=PyProof.Rows.zipApart_new ha hb
    have ltz:n+4<s.heap.objs.size:=Heap.lt_size z1
    refine wpAny_pyNext_zip_item D z1 z2 z3 z4 z5 p.isList p'.isList (x:=u) (y:=u') (by simpa using hu) (by simpa using hu') fun h' a1 a2 a3 a4 a5 a6 hk=>?_
    refine ⟨_,rfl,wpAny_letOwnedTupleGo_zip (s:={ s with heap:=h' }) a1 fun h2 b1 hs=>?_⟩
    have neT:∀ {c:Addr},c≤n+4→c≠s.heap.objs.size:=fun h=>Nat.ne_of_lt (Nat.lt_of_le_of_lt h ltz)
    have kk:∀ c o,c∉[n+4,n+3,n,n+1]→s.heap.get? c=some o→h2.get? c=some o:=fun c o hc e=>by
      simp only [List.mem_cons,List.not_mem_nil,or_false,not_or] at hc
      exact (hs.2 c hc.1).trans (hk c o hc.1 hc.2.1 hc.2.2.1 hc.2.2.2 e)
    have q2:h2.get? (n+2)=_:=kk _ _ (by simp only [List.mem_cons,List.not_mem_nil,or_false,not_or]; exact ⟨D.TIz,D.TITO,D.TIi1,D.TIi2⟩) z2
    have q3:h2.get? (n+3)=_:=(hs.2 _ D.TOz).trans a2
    obtain ⟨o4,e4,c4⟩:=a3
    obtain ⟨o5,e5,c5⟩:=a4
    have q4:h2.get? n=_:=(hs.2 _ D.i1z).trans e4
    have q5:h2.get? (n+1)=_:=(hs.2 _ D.i2z).trans e5
    have qT:h2.get? s.heap.objs.size=_:=(hs.2 _ (Ne.symm (neT (Nat.le_refl _)))).trans a5
    have sub:∀ c∈[n+4,n+3,n,n+1],c∈[n+4,n+2,n+3,n,n+1]:=fun c hc=>by
      simp only [List.mem_cons,List.not_mem_nil,or_false] at hc ⊢
      rcases hc with e | e | e | e
      · exact .inl e
      · exact .inr (.inr (.inl e))
      · exact .inr (.inr (.inr (.inl e)))
      · exact .inr (.inr (.inr (.inr e)))
    have I1:Inv X pins σ (upd H s.heap.objs.size (.tup [x,y])) { s with heap:=h2,toks:=s.toks }:=I.turnedL (ch:=[n+4,n+3,n,n+1]) kk (fun c hc=>hf c (sub c hc)) (fun c hc=>by
        simp only [List.mem_cons,List.not_mem_nil,or_false] at hc
        rcases hc with rfl | rfl | rfl | rfl
        · exact ⟨_,b1⟩
        · exact ⟨_,q3⟩
        · exact ⟨_,q4⟩
        · exact ⟨_,q5⟩) (Nat.le_refl _) ⟨by show 2≤sizeLine; decide,[u,u'],.cons ru (.cons ru' .nil),_,qT,rfl,_,rfl⟩
    refine ⟨.ref s.heap.objs.size,_,I1,rfl,⟨_,rfl,I.hok.fresh (Nat.le_refl _),fun vs ws hv hw=>?_⟩,⟨b1,q2,⟨_,_,q3⟩,⟨_,q4,c4⟩,⟨_,q5,c5⟩⟩,fun c hc=>?_⟩
    · rw [I.list_inj hv hqa,I.list_inj hw hqb]
      exact ⟨x,y,hx,hy,rfl⟩
    · have hle:c≤n+4:=by
        simp only [List.mem_cons,List.not_mem_nil,or_false] at hc
        rcases hc with rfl | rfl | rfl | rfl | rfl
        · exact Nat.le_refl _
        · exact Nat.le_add_right (n+2) 2
        · exact Nat.le_add_right (n+3) 1
        · exact Nat.le_add_right _ 4
        · exact Nat.le_add_right (n+1) 3
      rw [upd_ne (neT hle)]
      exact (hf c hc).1
  done:=by
    intro X hP hw hK hc i pins s σ H E I hf st hg
    subst hP hw hK
    obtain ⟨xs,ys,hqa,hqb,hl⟩:=hg
    obtain ⟨its,rv,p,hz⟩:=I.list hqa
    obtain ⟨jts,rw',p',hz'⟩:=I.list hqb
    obtain ⟨z1,z2,⟨x0,y0,z3⟩,z4,z5⟩:=st
    have D:ZipApart (n+4) (n+2) (n+3) n (n+1) a b:=PyProof.Rows.zipApart_new ha hb
    have l1:=rv.length
    have l2:=rw'.length
    refine wpAny_pyNext_zip_end (I.ok.hd hc) D z1 z2 z3 z4 z5 p.isList p'.isList ?_ fun h' hk=>⟨rfl,?_⟩
    · rcases hl with h | h
      · exact .inl (by simp; omega)
      · exact .inr (by simp; omega)
    · have fp:∀ c∈[n+4,n+3,n,n+1],FpOk X pins H c:=fun c hc=>hf c (by
        simp only [List.mem_cons,List.not_mem_nil,or_false] at hc ⊢
        rcases hc with e | e | e | e
        · exact .inl e
        · exact .inr (.inr (.inl e))
        · exact .inr (.inr (.inr (.inl e)))
        · exact .inr (.inr (.inr (.inr e))))
      have kk:∀ c o,c∉[n+4,n+3,n,n+1]→s.heap.get? c=some o→h'.get? c=some o:=fun c o hc e=>by
        simp only [List.mem_cons,List.not_mem_nil,or_false,not_or] at hc
        exact hk c o hc.1 hc.2.1 hc.2.2.1 hc.2.2.2 e
      have nit:∀ c u,H c=some u→c∉[n+4,n+3,n,n+1]:=fun c u e z=>by rw [(fp c z).1] at e; cases e
      refine I.step (g':=s.gens) (d':=s.drawn) (t':=s.toks) (ch:=[n+4,n+3,n,n+1]) (fun c hc=>⟨(fp c hc).2.2.2.1,(fp c hc).2.1,(fp c hc).2.2.2.2.1,(fp c hc).2.2.2.2.2⟩) (fun c o _ _ hc e _=>kk c o hc e) (fun c o _ _ hc e _=>⟨o.slots,kk c o hc e⟩) (fun _ _ _ _ n=>n)
        (fun c o hc e=>⟨o,kk c o hc e⟩) (fun _ _ e=>e) (fun _ _ _ e=>e) (fun _ ps e=>⟨#[],by rw [e]; simp⟩) (fun m hm=>?_) (fun c u e=>?_) I.bare
      · obtain ⟨ob,es,ep,ho,r⟩:=hm
        exact ⟨ob,es,ep,kk _ ob (fun z=>(fp _ z).2.1 rfl) ho,r⟩
      · refine (I.hok c u e).stay (fun d v hd q=>kk d v ?_ q) (fun _ e'=>e') fun _ _ e'=>e'
        rcases hd with z | z
        · rw [z]; exact nit c u e
        · exact nit d _ z
  self:=fun _ _ _ _ _ st h=>wpAny_pyIter_zip st.1 h
section
variable {X:Cx} {elts:List Expr} {kt:Nat} {pt:Pos}
end
end L2
set_option Elab.async false
set_option maxRecDepth 100000
namespace L2
open PySem PySem.Spec PyProof.Rows
section
variable {σ:St} {H:Hp} {Q:VK} {D:Ends} {QB:Bool→Hp→Prop} {QA:List V→Hp→Prop}
theorem rd_next (h:D.nx σ H):tNext D σ H:=h
theorem rd_asg {te:TE} {g:TG} (h:te σ H fun x H1=>g x σ H1 D.nx):tAsg te g D σ H:=h
theorem rd_name {i:Nat} {v:V} {Q:St→Hp→Prop} (h:Q (σ.set i (some v)) H):gName i v σ H Q:=h
theorem rd_ret {te:TE} (h:te σ H D.rt):tRet te D σ H:=h
theorem rd_retN (h:D.rt .non H):tRetN D σ H:=h
theorem rd_drop {te:TE} (h:te σ H fun _ H1=>D.nx σ H1):tDrop te D σ H:=h
theorem rd_ifS {c:TT} {t u:TS} (h:c σ H fun b H1=>if b=true then t D σ H1 else u D σ H1):tIfS c t u D σ H:=h
theorem rd_tB {t:TE} (h:t σ H fun x H1=>∃ c,x=.bl c∧QB c H1):tB t σ H QB:=h
theorem rd_tTest {t:TE} (h:t σ H fun x H1=>∃ c,x=.bl c∧QB c H1):tTest t σ H QB:=h
theorem rd_exbl {b:Bool} {P:Bool→Prop} (h:P b):∃ c,V.bl b=V.bl c∧P c:=⟨b,rfl,h⟩
theorem rd_exref {a:Addr} {P:Addr→Prop} (h:P a):∃ c,V.ref a=V.ref c∧P c:=⟨a,rfl,h⟩
theorem rd_exint {i:Int} {P:Int→Prop} (h:P i):∃ c,V.int i=V.int c∧P c:=⟨i,rfl,h⟩
theorem rd_var {i:Nat} {v:V} (e:σ[i]?=some (some v)) (h:Q v H):tVar i σ H Q:=⟨v,e,h⟩
theorem rd_c {v:V} (h:Q v H):tC v σ H Q:=h
theorem rd_op {r:R2} {ta tb:TE} (h:ta σ H fun x H1=>tb σ H1 fun y H2=>r x y H2 Q):tOp r ta tb σ H Q:=h
theorem rd_un {r:V→Hp→VK→Prop} {ta:TE} (h:ta σ H fun x H1=>r x H1 Q):tUn r ta σ H Q:=h
theorem rd_andV {ta tb:TE} (h:ta σ H fun x H1=>∃ c,x=.bl c∧if c=true then tb σ H1 Q else Q (.bl false) H1):tAndV ta tb σ H Q:=h
theorem rd_notV {ta:TE} (h:ta σ H fun x H1=>∃ c,x=.bl c∧Q (.bl (!c)) H1):tNotV ta σ H Q:=h
theorem rd_and {t u:TT} (h:t σ H fun c H1=>if c=true then u σ H1 QB else QB false H1):tAnd t u σ H QB:=h
theorem rd_or {t u:TT} (h:t σ H fun c H1=>if c=true then QB true H1 else u σ H1 QB):tOr t u σ H QB:=h
theorem rd_not {t:TT} (h:t σ H fun c H1=>QB (!c) H1):tNot t σ H QB:=h
theorem rd_if {t:TT} {ta tb:TE} (h:t σ H fun c H1=>if c=true then ta σ H1 Q else tb σ H1 Q):tIf t ta tb σ H Q:=h
theorem rd_true (h:QB true H):tTrue σ H QB:=h
theorem rd_I0 {g:Int→Int→V} {i j:Int} (h:Q (g i j) H):rI0 g (.int i) (.int j) H Q:=⟨i,j,rfl,rfl,h⟩
theorem rd_I {C:Int→Int→Prop} {g:Int→Int→V} {i j:Int} (c:C i j) (h:Q (g i j) H):rI C g (.int i) (.int j) H Q:=⟨i,j,rfl,rfl,c,h⟩
theorem rd_U {g:Int→V} {i:Int} (h:Q (g i) H):rU g (.int i) H Q:=⟨i,rfl,h⟩
theorem rd_eqI {i j:Int} (h:Q (.bl (decide (i=j))) H):rEq (.int i) (.int j) H Q:=⟨rfl,by
 rw [dec_int,Int.instDecidableEq.eq_def]<;>first | exact h | (simpa [dec_int] using h)⟩
theorem rd_neI {i j:Int} (h:Q (.bl (!decide (i=j))) H):rNe (.int i) (.int j) H Q:=⟨rfl,by
 have e:decide (V.int i=V.int j)=decide (i=j):=by by_cases z:i=j<;>simp [z]
 rw [e]; exact h⟩
theorem rd_eqS {i j:Str} (h:Q (.bl (decide (i=j))) H):rEq (.str i) (.str j) H Q:=⟨rfl,by
 have e:decide (V.str i=V.str j)=decide (i=j):=by by_cases z:i=j<;>simp [z]
 rw [e]; exact h⟩
theorem rd_eqB {i j:Bool} (h:Q (.bl (decide (i=j))) H):rEq (.bl i) (.bl j) H Q:=⟨rfl,by
 have e:decide (V.bl i=V.bl j)=decide (i=j):=by by_cases z:i=j<;>simp [z]
 rw [e]; exact h⟩
theorem rd_neB {i j:Bool} (h:Q (.bl (!decide (i=j))) H):rNe (.bl i) (.bl j) H Q:=⟨rfl,by
 have e:decide (V.bl i=V.bl j)=decide (i=j):=by by_cases z:i=j<;>simp [z]
 rw [e]; exact h⟩
theorem rd_ixL {K:PySem.W.Frag} {p:Addr} {xs:List V} {i:Int} {v:V} (h:SqL K H p xs) (e:atI xs i=some v) (q:Q v H):rIxL K (.ref p) (.int i) H Q:=⟨p,xs,i,v,rfl,rfl,h,e,q⟩
theorem rd_ixT {K:PySem.W.Frag} {p:Addr} {xs:List V} {i:Int} {v:V} (h:SqT K H p xs) (e:atI xs i=some v) (q:Q v H):rIxT K (.ref p) (.int i) H Q:=⟨p,xs,i,v,rfl,rfl,h,e,q⟩
theorem rd_chain {r r':R2} {ta tb tc:TE} (h:ta σ H fun x H1=>tb σ H1 fun y H2=>r x y H2 fun z H3=>∃ k,z=.bl k∧if k=true then tc σ H3 fun y' H4=>r' y y' H4 Q else Q (.bl false) H3):tChain r r' ta tb tc σ H Q:=h
theorem rd_call {sp:Sp} {dvs:List V} {E:XK} {t:TA} (h:t σ H fun vs H1=>sp (vs++dvs) H1 Q E):tCall sp dvs E t σ H Q:=h
theorem rd_nil (h:QA [] H):tNil σ H QA:=h
theorem rd_cons {ta:TE} {tr:TA} (h:ta σ H fun x H1=>tr σ H1 fun xs H2=>QA (x::xs) H2):tCons ta tr σ H QA:=h
theorem rd_CB {r:List V→Hp→VK→Prop} {t:TA} (h:t σ H fun vs H1=>r vs H1 Q):tCB r t σ H Q:=h
theorem rd_tup {t:TA} (h:t σ H fun xs H1=>xs.length≤sizeLine∧∀ p,H1 p=none→Q (.ref p) (upd H1 p (.tup xs))):tTup t σ H Q:=h
theorem rd_lst {t:TA} (h:t σ H fun xs H1=>xs.length≤sizeLine∧∀ p,H1 p=none→Q (.ref p) (upd H1 p (.lst xs))):tLst t σ H Q:=h
end
end L2
set_option Elab.async false
set_option maxRecDepth 100000
namespace L2
open PySem PySem.Spec PyProof.Rows
theorem kit_ii {K:PySem.W.Frag}:PySem.W.kitOne K (.type "int") (.type "int")=some true:=by kernel_rfl
theorem kit_ib {K:PySem.W.Frag}:PySem.W.kitOne K (.type "int") (.type "bool")=some false:=by kernel_rfl
section
variable {X:Cx} {K:PySem.W.Frag} {H:Hp} {Q:VK} {σ:St}
def rIsi (K:PySem.W.Frag):List V→Hp→VK→Prop:=fun xs H Q=>∃ x n t b,xs=[x,.ty n]∧TyOf K H x t∧PySem.W.kitOne K t (.type n)=some b∧Q (.bl b) H
theorem cI_isinst:CallR X (.builtin "isinstance") (rIsi X.K):=call_isinst
theorem rd_isi {x:V} {n:String} {t:Value} {b:Bool} (ty:TyOf K H x t) (e:PySem.W.kitOne K t (.type n)=some b) (h:Q (.bl b) H):rIsi K [x,.ty n] H Q:=⟨x,n,t,b,rfl,ty,e,h⟩
def rLen (K:PySem.W.Frag):List V→Hp→VK→Prop:=fun xs H Q=>∃ p ys,xs=[.ref p]∧(SqL K H p ys∨SqT K H p ys)∧Q (.int ys.length) H
theorem cI_len:CallR X (.builtin "len") (rLen X.K):=call_len_seq
theorem rd_lenL {p:Addr} {ys:List V} (h:H p=some (.lst ys)) (q:Q (.int ys.length) H):rLen K [.ref p] H Q:=⟨p,ys,rfl,.inl (SqL.of h),q⟩
theorem rd_lenT {p:Addr} {ys:List V} (h:H p=some (.tup ys)) (q:Q (.int ys.length) H):rLen K [.ref p] H Q:=⟨p,ys,rfl,.inr (SqT.of h),q⟩
def rAll (K:PySem.W.Frag):List V→Hp→VK→Prop:=fun xs H Q=>∃ (p:Addr) (bs:List Bool),xs=[.ref p]∧SqL K H p (bs.map V.bl)∧Q (.bl (bs.all id)) H
theorem cI_all (hc:X.calm=true):CallR X (.builtin "all") (rAll X.K):=call_all_bl hc
theorem rd_all {p:Addr} {bs:List Bool} (h:H p=some (.lst (bs.map V.bl))) (q:Q (.bl (bs.all id)) H):rAll K [.ref p] H Q:=⟨p,bs,rfl,SqL.of h,q⟩
def rSum (K:PySem.W.Frag):List V→Hp→VK→Prop:=fun xs H Q=>∃ (p:Addr) (ns:List Int),xs=[.ref p]∧(SqL K H p (ns.map V.int)∨SqT K H p (ns.map V.int))∧SmallSum ns∧Q (.int ns.sum) H
theorem cI_sum (hc:X.calm=true):CallR X (.builtin "sum") (rSum X.K):=call_sum_seq hc
theorem rd_sumL {p:Addr} {ns:List Int} (h:H p=some (.lst (ns.map V.int))) (s:SmallSum ns) (q:Q (.int ns.sum) H):rSum K [.ref p] H Q:=⟨p,ns,rfl,.inl (SqL.of h),s,q⟩
def rAbs:List V→Hp→VK→Prop:=fun xs H Q=>∃ i,xs=[.int i]∧Q (.int (if i<0 then -i else i)) H
theorem cI_abs:CallR X (.builtin "abs") rAbs:=call_abs
theorem rd_abs {i:Int} (q:Q (.int (if i<0 then -i else i)) H):rAbs [.int i] H Q:=⟨i,rfl,q⟩
def rList (K:PySem.W.Frag):List V→Hp→VK→Prop:=fun xs H Q=>∃ p ys,xs=[.ref p]∧(SqL K H p ys∨SqT K H p ys)∧∀ l,H l=none→Q (.ref l) (upd H l (.lst ys))
theorem cI_list:CallR X (.type "list") (rList X.K):=call_list_of
theorem rd_listL {p:Addr} {ys:List V} (h:H p=some (.lst ys)) (q:∀ l,H l=none→Q (.ref l) (upd H l (.lst ys))):rList K [.ref p] H Q:=⟨p,ys,rfl,.inl (SqL.of h),q⟩
def rFld (K:PySem.W.Frag) (f:Str):V→Hp→VK→Prop:=fun x H1 Q=>∃ a C dx fs v,x=.ref a∧H1 a=some (.ins C dx fs)∧Cls K C∧NoAttr K C f∧fs.lookup f=some v∧Q v H1
theorem rd_fld {ta:TE} {f:Str} (h:ta σ H fun x H1=>rFld K f x H1 Q):tFld K ta f σ H Q:=h
theorem rd_fldv {f:Str} {a C dx:Addr} {fs:List (Str×V)} {v:V} (h:H a=some (.ins C dx fs)) (c:Cls K C) (n:NoAttr K C f) (l:fs.lookup f=some v) (q:Q v H):rFld K f (.ref a) H Q:=⟨a,C,dx,fs,v,rfl,h,c,n,l,q⟩
def rMeth (C:Addr) (m:Str):V→Hp→Prop→Prop:=fun x H1 q=>∃ a dx fs,x=.ref a∧H1 a=some (.ins C dx fs)∧fs.lookup m=none∧q
theorem rd_meth {C:Addr} {m:Str} {sp:Sp} {dvs:List V} {E:XK} {ta:TE} {t:TA} (h:ta σ H fun x H1=>rMeth C m x H1 (t σ H1 fun vs H2=>sp (x::(vs++dvs)) H2 Q E)):tMeth C m sp dvs E ta t σ H Q:=h
theorem rd_methv {C a dx:Addr} {m:Str} {fs:List (Str×V)} {q:Prop} (h:H a=some (.ins C dx fs)) (l:fs.lookup m=none) (hq:q):rMeth C m (.ref a) H q:=⟨a,dx,fs,rfl,h,l,hq⟩
theorem rd_make {C:Addr} {sp:Sp} {dvs:List V} {E:XK} {t:TA} (h:t σ H fun vs H1=>∀ x dx,H1 x=none→H1 dx=none→dx≠x →
 sp (.ref x::(vs++dvs)) (upd (upd H1 dx (.own x)) x (.ins C dx [])) (fun v H2=>v=.non∧Q (.ref x) H2) E):tMake C sp dvs E t σ H Q:=h
def rBM (K:PySem.W.Frag) (T:String):V→Hp→Prop→Prop:=fun x H1 q=>tyV K T x H1∧q
theorem rd_bm {T:String} {r:V→List V→Hp→VK→Prop} {to:TE} {t:TA} (h:to σ H fun x H1=>rBM K T x H1 (t σ H1 fun xs H2=>r x xs H2 Q)):tBM K T r to t σ H Q:=h
theorem rd_bm0 {T:String} {r:V→List V→Hp→VK→Prop} {to:TE} (h:to σ H fun x H1=>rBM K T x H1 (r x [] H1 Q)):tBM0 K T r to σ H Q:=h
theorem rd_bmL {l:Addr} {xs:List V} {q:Prop} (h:H l=some (.lst xs)) (hq:q):rBM K "list" (.ref l) H q:=⟨.inl ⟨rfl,_,SqL.of h⟩,hq⟩
theorem rd_append {l:Addr} {xs:List V} {y:V} (h:H l=some (.lst xs)) (z:xs.length<sizeLine) (q:Q .non (upd H l (.lst (xs++[y])))):rAppend (.ref l) [y] H Q:=⟨l,xs,y,rfl,rfl,h,z,q⟩
theorem rd_clear {l:Addr} {xs:List V} (h:H l=some (.lst xs)) (q:Q .non (upd H l (.lst []))):rClear (.ref l) [] H Q:=⟨l,xs,rfl,rfl,h,q⟩
theorem rd_sl {r:V→Option Int→Option Int→Hp→VK→Prop} {te:TE} {tl th:TO} (h:te σ H fun x H1=>tl σ H1 fun l H2=>th σ H2 fun u H3=>r x l u H3 Q):tSl r te tl th σ H Q:=h
theorem rd_nopart {Q:Option Int→Hp→Prop} (h:Q none H):tNoPart σ H Q:=h
theorem rd_part {t:TE} {Q:Option Int→Hp→Prop} (h:t σ H fun x H1=>∃ i,x=.int i∧Q (some i) H1):tPart t σ H Q:=h
theorem rd_slL {a:Addr} {xs:List V} {lo hi:Option Int} (h:H a=some (.lst xs)) (q:∀ p,H p=none→Q (.ref p) (upd H p (.lst (cutV xs lo hi)))):rSlL K (.ref a) lo hi H Q:=⟨a,xs,rfl,SqL.of h,q⟩
def ForW (J:It) (g:TG) (tb:TS) (D:Ends) (σ:St) (H1:Hp):Prop:=∃ W:Nat→Nat→St→Hp→Prop,(∃ m,W 0 m σ H1)∧∀ i m σ H,W i m σ H →
 (J.stop i H∧D.nx σ H)∨(J.go i H∧∃ N:St→Hp→Prop,(∀ σ' H',N σ' H'→∃ m',m'<m∧W (i+1) m' σ' H')∧∀ x H',J.yld i H x H'→g x σ H' fun σ2 H2=>tb { D with nx:=N,ct:=N,bk:=D.nx } σ2 H2)
theorem rd_for {wi:TI} {g:TG} {tb:TS} {D:Ends} (h:wi σ H fun J H1=>ForW J g tb D σ H1):tFor wi g tb D σ H:=h
theorem forW_list {a:Addr} {xs:List V} {g:TG} {tb:TS} {D:Ends} (Pv:Nat→St→Hp→Prop) (h0:Pv 0 σ H) (hl:∀ i σ H,i≤xs.length→Pv i σ H→SqL K H a xs)
  (hs:∀ i x σ H,xs[i]?=some x→Pv i σ H→g x σ H fun σ2 H2=>tb { D with nx:=Pv (i+1),ct:=Pv (i+1),bk:=D.nx } σ2 H2) (hd:∀ σ H,Pv xs.length σ H→D.nx σ H):ForW (Itl K a) g tb D σ H:=for_list Pv h0 hl hs hd
theorem forW_range {lo:Int} {n:Nat} {g:TG} {tb:TS} {D:Ends} (Pv:Nat→St→Hp→Prop) (h0:Pv 0 σ H)
  (hs:∀ i σ H,i<n→Pv i σ H→g (.int (lo+i)) σ H fun σ2 H2=>tb { D with nx:=Pv (i+1),ct:=Pv (i+1),bk:=D.nx } σ2 H2) (hd:∀ σ H,Pv n σ H→D.nx σ H):ForW (Itr lo n) g tb D σ H:=for_range Pv h0 hs hd
theorem rd_rng1 {ta:TA} {R:It→Hp→Prop} (h:ta σ H fun vs H1=>∃ j:Int,vs=[.int j]∧-(2 ^ 62)≤j∧j<2 ^ 62∧R (Itr 0 j.toNat) H1):iRng1 ta σ H R:=h
theorem rd_ilist {tl:TE} {R:It→Hp→Prop} (h:tl σ H fun x H1=>∃ a,x=.ref a∧(∃ xs,SqL K H1 a xs)∧R (Itl K a) H1):iList K tl σ H R:=h
end
theorem atI_ints {zs:List Int} {i:Int} (h0:0≤i) (h1:i<zs.length):atI (zs.map V.int) i=some (.int (zs.getD i.toNat 0)):=by
 obtain ⟨k,rfl⟩:∃ k:Nat,i=(k:Int):=⟨i.toNat,by omega⟩
 refine atI_nat ?_
 have hk:k<zs.length:=by omega
 simp [hk]
theorem Same.new {H:Hp} {p:Addr} {o:HO} (h:H p=none):Same H (upd H p o):=fun b u e=>by rw [upd_ne (ne_of_none e h)]; exact e
theorem Same.later {H0 H:Hp} {p:Addr} {o:HO} (s:Same H0 H) (h:H0 p=none):Same H0 (upd H p o):=fun b u e=>by rw [upd_ne (ne_of_none e h)]; exact s b u e
end L2
set_option Elab.async false
set_option maxRecDepth 100000
namespace L2
open PySem PySem.Spec PyProof.Rows
theorem iteNN {b:Bool} {A B:Prop} (h:if b=true then B else A):if (!b)=true then A else B:=by cases b<;>exact h
section
variable {prog:Program} {w:World} {A:Around} {E:Value→Shared→Prop} {s:Shared}
theorem getItem_tuple_whole {t sl:Addr} {items:Array Value} {vl vu:Value} {lo hi:Option Int} {Q:Value→Shared→Prop} (ht:IsTup s.heap t items) (hs:s.heap.IsSliceOf sl vl vu .none) (pl:IsPart vl lo) (pu:IsPart vu hi)
  (hw:HT.sIx items.size 0 lo=0∧HT.sIx items.size items.size hi=items.size) (h:Q (.ref t) s):wpAny (model prog w) A (getItem (.ref t) (.ref sl)) Q E s:=by
 obtain ⟨os,hos,hcs,hds⟩:=id hs
 have hTs:s.TypeIs (.ref sl) "slice":=⟨os,hos,hcs⟩
 unfold getItem
 try with_reducible refine wpAny_holding ?_
 first | refine wpAny_bind (wpAny_pure ?_) | skip
 refine wpAny_bind (wpAny_sequenceKey ht.typeIs (by decide) ?_)
 refine wpAny_bind (wpAny_callSpecial?_slot (name:=Str.ofString "__getitem__") ht.typeIs PyProof.Rows.slot_tuple_getitem
  (wpAny_call_entry PyProof.Rows.slot_tuple_getitem ht.typeIs entry_tuple_getitem ?_ (args_tuple_getitem _ _)))
 show wpAny _ _ (Builtin.Tuple.tupleItemsOf (.ref t) >>= _) _ _ s
 refine wpAny_bind (tupleItemsOf_ ht ?_)
 refine wpAny_bind (wpAny_typeOf hTs ?_)
 rw [if_pos (by decide)]
 refine wpAny_bind (HT.sliceApplied_gen hs pl pu ?_)
 have hyes:(((HT.sIx items.size 0 lo:Nat):Int)==0&&(1:Int)==1&&(HT.sIx items.size items.size hi - HT.sIx items.size 0 lo)==items.size)=true:=by
  rw [hw.1,hw.2]; simp
 show wpAny _ _ (if (((HT.sIx items.size 0 lo:Nat):Int)==0&&(1:Int)==1&&(HT.sIx items.size items.size hi - HT.sIx items.size 0 lo)==items.size)=true then _ else _) _ _ s
 rw [if_pos hyes]
 unfold Builtin.Tuple.tupleIsExact
 refine wpAny_bind (wpAny_bind (wpAny_typeOf ht.typeIs (wpAny_pure ?_)))
 rw [if_pos (by decide)]
 first
  | exact wpAny_bind (wpAny_rule (wpAny_pure ⟨_, rfl, wpAny_pure h⟩))
  | exact wpAny_bind (wpAny_rule (wpAny_bind (wpAny_pure (wpAny_pure ⟨_, rfl, wpAny_pure h⟩))))
  | exact wpAny_bind (wpAny_bind (wpAny_rule (wpAny_pure ⟨_, rfl, wpAny_pure h⟩)))
end
def rSlT' (K:PySem.W.Frag):V→Option Int→Option Int→Hp→VK→Prop:=fun x lo hi H Q=>∃ a xs,x=.ref a∧H a=some (.tup xs)∧∀ H1 p,Same H H1→H1 p=some (.tup (cutV xs lo hi))→Q (.ref p) H1
theorem sl_tup' {X:Cx}:SlR X (rSlT' X.K):=by
 intro pins s σ H x v vl vu lo hi sl Q I rx hs pl pu h
 obtain ⟨a,xs,rfl,hx,q⟩:=h
 by_cases hw:HT.sIx xs.length 0 lo=0∧HT.sIx xs.length xs.length hi=xs.length
 ·cases rx
  obtain ⟨its,r,ht,hz⟩:=I.tuple (SqT.of hx)
  have hlen:its.toArray.size=xs.length:=by rw [List.size_toArray]; exact r.length.symm
  refine ⟨"tuple",_,PyProof.Rows.slot_tuple_getitem.lookup,ht.typeIs,getItem_tuple_whole ht hs pl pu (by rw [hlen]; exact hw) ⟨.ref a,H,I,rfl,q H a (Same.refl _) ?_⟩⟩
  rw [hx]
  unfold cutV
  rw [hw.1,hw.2,List.drop_zero,Nat.sub_zero,List.take_of_length_le (Nat.le_refl _)]
 ·exact sl_tup pins s σ H _ v vl vu lo hi sl Q I rx hs pl pu ⟨a,xs,rfl,SqT.of hx,hw,fun p hp=>q _ p (Same.new hp) upd_same⟩
theorem rd_slT {K:PySem.W.Frag} {H:Hp} {Q:VK} {a:Addr} {xs:List V} {lo hi:Option Int} (h:H a=some (.tup xs)) (q:∀ H1 p,Same H H1→H1 p=some (.tup (cutV xs lo hi))→Q (.ref p) H1):rSlT' K (.ref a) lo hi H Q:=⟨a,xs,rfl,h,q⟩
def CompW (J:It) (g:TG) (tt:TT) (te:TE) (cap:List (Option Nat)) (l:Addr) (σ:St) (H1:Hp) (Q:VK):Prop :=
 ∃ (n:Nat) (Pv:Nat→List V→St→Hp→Prop),Pv 0 [] (capS cap σ) (upd H1 l (.lst [])) ∧
  (∀ i ys σ' H',i<n→Pv i ys σ' H'→J.go i H'∧∀ x H2,J.yld i H' x H2→g x σ' H2 fun σ3 H3=>tt σ3 H3 fun b H4 =>
   if b=true then te σ3 H4 fun y H5=>H5 l=some (.lst ys)∧ys.length<sizeLine∧Pv (i+1) (ys++[y]) σ3 (upd H5 l (.lst (ys++[y]))) else Pv (i+1) ys σ3 H4) ∧
  ∀ ys σ' H',Pv n ys σ' H'→J.stop n H'∧Q (.ref l) H'
section
variable {K:PySem.W.Frag} {σ:St} {H:Hp} {Q:VK} {te:TE} {cap:List (Option Nat)} {l:Addr}
theorem rd_comp {wi:TI} {g:TG} {tt:TT} (h:wi σ H fun J H1=>∀ l,H1 l=none→CompW J g tt te cap l σ H1 Q):tComp wi g tt te cap σ H Q:=h
theorem take_succ_map {α β:Type} (F:α→β) (xs:List α) (i:Nat) {x:α} (h:xs[i]?=some x):(xs.take (i+1)).map F=(xs.take i).map F++[F x]:=by
 rw [List.take_add_one,h,List.map_append]
 rfl
theorem compW_list {a:Addr} {xs:List V} (F:V→V) (hs:SqL K H a xs) (hz:xs.length≤1000) (hl:H l=none)
  (step:∀ x o H' (Q':VK),x∈xs→Same H H'→(∀ H5,Same H' H5→Q' (F x) H5)→te (((capS (none::cap) σ).set 0 o).set 0 (some x)) H' Q')
  (fin:∀ H',Same H H'→H' l=some (.lst (xs.map F))→Q (.ref l) H'):CompW (Itl K a) (gName 0) tTrue te (none::cap) l σ H Q:=by
 refine ⟨xs.length,fun i ys σ' H'=>ys=(xs.take i).map F∧(∃ o,σ'=(capS (none::cap) σ).set 0 o)∧Same H H'∧H' l=some (.lst ys),⟨rfl,⟨none,rfl⟩,Same.new hl,upd_same⟩,?_,?_⟩
 ·rintro i ys σ' H' hi ⟨rfl,⟨o,rfl⟩,s,e⟩
  refine ⟨⟨xs,xs[i],s.seq hs,by simp [hi]⟩,fun x H2 y=>?_⟩
  obtain ⟨e2,y⟩:=y
  subst e2
  have hx:=y xs (s.seq hs)
  refine rd_name (rd_true (iteT ?_))
  refine step x o H2 _ (List.mem_of_getElem? hx) s fun H5 s5=>⟨s5 _ _ e,?_,?_⟩
  ·rw [List.length_map,List.length_take]
   exact small1000 (by omega)
  ·exact ⟨(take_succ_map F xs i hx).symm,⟨_,List.set_set ..⟩,(s.trans s5).later hl,upd_same⟩
 ·rintro ys σ' H' ⟨rfl,_,s,e⟩
  rw [List.take_of_length_le (Nat.le_refl _)] at e
  exact ⟨⟨xs,s.seq hs,Nat.le_refl _⟩,fin H' s e⟩
theorem compW_range {n:Nat} (F:Nat→V) (hz:n≤1000) (hl:H l=none)
  (step:∀ i o H' (Q':VK),i<n→Same H H'→(∀ H5,Same H' H5→Q' (F i) H5)→te (((capS (none::cap) σ).set 0 o).set 0 (some (.int ((0:Int)+(i:Nat))))) H' Q')
  (fin:∀ H',Same H H'→H' l=some (.lst ((List.range n).map F))→Q (.ref l) H'):CompW (Itr 0 n) (gName 0) tTrue te (none::cap) l σ H Q:=by
 refine ⟨n,fun i ys σ' H'=>ys=(List.range i).map F∧(∃ o,σ'=(capS (none::cap) σ).set 0 o)∧Same H H'∧H' l=some (.lst ys),⟨rfl,⟨none,rfl⟩,Same.new hl,upd_same⟩,?_,?_⟩
 ·rintro i ys σ' H' hi ⟨rfl,⟨o,rfl⟩,s,e⟩
  refine ⟨hi,fun x H2 y=>?_⟩
  obtain ⟨e2,rfl⟩:=y
  subst e2
  refine rd_name (rd_true (iteT ?_))
  refine step i o H2 _ hi s fun H5 s5=>⟨s5 _ _ e,?_,?_⟩
  ·rw [List.length_map,List.length_range]
   exact small1000 (by omega)
  ·refine ⟨?_,⟨_,List.set_set ..⟩,(s.trans s5).later hl,upd_same⟩
   rw [List.range_succ,List.map_append]
   rfl
 ·rintro ys σ' H' ⟨rfl,_,s,e⟩
  exact ⟨Nat.le_refl _,fin H' s e⟩
def rSFld (K:PySem.W.Frag) (f:Str) (y x:V) (H2:Hp) (k:Hp→Prop):Prop:=∃ a C dx fs,x=.ref a∧H2 a=some (.ins C dx fs)∧Cls K C∧NoAttr K C f∧fs.length<1000∧k (upd H2 a (.ins C dx (putF f y fs)))
theorem rd_sfld {D:Ends} {ta tv:TE} {f:Str} (h:tv σ H fun y H1=>ta σ H1 fun x H2=>rSFld K f y x H2 fun H3=>D.nx σ H3):sFld K ta tv f D σ H:=h
theorem rd_sfldv {f:Str} {y:V} {k:Hp→Prop} {a C dx:Addr} {fs:List (Str×V)} (h:H a=some (.ins C dx fs)) (c:Cls K C) (n:NoAttr K C f) (z:fs.length<1000) (q:k (upd H a (.ins C dx (putF f y fs)))):rSFld K f y (.ref a) H k:=⟨a,C,dx,fs,rfl,h,c,n,z,q⟩
def WhileW (c:TT) (tb:TS) (D:Ends) (σ:St) (H:Hp):Prop:=∃ W:Nat→St→Hp→Prop,(∃ m,W m σ H)∧∀ m σ H,W m σ H →
 c σ H fun b H1=>if b=true then ∃ N:St→Hp→Prop,(∀ σ' H',N σ' H'→∃ m',m'<m∧W m' σ' H')∧tb { D with nx:=N,ct:=N,bk:=D.nx } σ H1 else D.nx σ H1
theorem rd_while {D:Ends} {c:TT} {tb:TS} (h:WhileW c tb D σ H):tWhile c tb D σ H:=h
theorem rd_aug {D:Ends} {i:Nat} {te:TE} {ti:TIp} {x:V} (e:σ[i]?=some (some x)) (h:te σ H fun y H1=>ti x y H1 fun z H2=>D.nx (σ.set i (some z)) H2):tAug i te ti D σ H:=⟨x,e,h⟩
theorem rd_ipI {f:Int→Int→Int} {i j:Int} (h:Q (.int (f i j)) H):ipI f (.int i) (.int j) H Q:=⟨i,j,rfl,rfl,h⟩
theorem rd_gtup {n:Nat} {tt:TGs} {a:Addr} {xs:List V} {QS:St→Hp→Prop} (h:H a=some (.tup xs)) (hl:xs.length=n) (q:tt xs σ H QS):gTup K n tt (.ref a) σ H QS:=⟨a,xs,rfl,SqT.of h,hl,q⟩
theorem rd_gcons {tg:TG} {u:TGs} {v:V} {r:List V} {QS:St→Hp→Prop} (h:tg v σ H fun σ' H'=>u r σ' H' QS):gCons tg u (v::r) σ H QS:=⟨v,r,rfl,h⟩
theorem rd_gnil {QS:St→Hp→Prop} (h:QS σ H):gNil [] σ H QS:=⟨rfl,h⟩
end
section
variable {X:Cx} (K:PySem.W.Frag) (h:X.K=K)
include h
theorem ix_listK:IxR X (rIxL K):=h ▸ ix_list
theorem ix_tupK:IxR X (rIxT K):=h ▸ ix_tup
theorem cI_isinstK:CallR X (.builtin "isinstance") (rIsi K):=h ▸ cI_isinst
theorem cI_lenK:CallR X (.builtin "len") (rLen K):=h ▸ cI_len
theorem cI_allK (hc:X.calm=true):CallR X (.builtin "all") (rAll K):=h ▸ cI_all hc
theorem cI_sumK (hc:X.calm=true):CallR X (.builtin "sum") (rSum K):=h ▸ cI_sum hc
theorem cI_listK:CallR X (.type "list") (rList K):=h ▸ cI_list
theorem sl_listK:SlR X (rSlL K):=h ▸ sl_list
theorem sl_tupK:SlR X (rSlT' K):=h ▸ sl_tup'
theorem pe_fldK {e:Expr} {ta:TE} {f:Str} {pos:Pos} (he:PE X e ta) (hb:attributeBase e f X.env (eval e X.env)=eval e X.env):PE X (.Attribute e f pos) (tFld K ta f):=h ▸ pe_fld he hb
end
theorem cutV_drop {zs:List Int} {k:Nat}:cutV (zs.map V.int) (some (k:Int)) none=(zs.drop k).map V.int:=by
 unfold cutV
 rw [HT.sIx_none,HT.sIx_nat,List.length_map]
 rcases Nat.le_total k zs.length with h | h
 ·rw [Nat.min_eq_left h,← List.map_drop,List.take_of_length_le (by rw [List.length_map,List.length_drop]; omega)]
 ·rw [Nat.min_eq_right h,List.drop_eq_nil_of_le h,Nat.sub_self,List.take_zero]; rfl
theorem getD_mem {α:Type} {zs:List α} {k:Nat} {d:α} (h:k<zs.length):zs.getD k d∈zs:=by
 rw [List.getD_eq_getElem?_getD,List.getElem?_eq_getElem h]
 exact List.getElem_mem h
end L2
set_option Elab.async false
set_option maxRecDepth 100000
namespace L2
open PySem PySem.Spec PyProof.Rows
theorem pg_tupK {X:Cx} (K:PySem.W.Frag) (hK:X.K=K) {es:List Expr} {k:Nat} {t:TGs} {n:Nat} {pos:Pos} (hc:X.calm=true) (h:PGs X es t)
  (hn:(assignEach es X.env).length=n:=by rfl) (hst:(assignEach es X.env).findIdx? (·.1)=none:=by rfl):PG X (.Tuple es k pos) (gTup K n t):=hK ▸ pg_tup hc h hn hst
theorem repL_ints {H:Hp}:∀ (ns:List Int),RepL H (ns.map PyData.int) (ns.map V.int)
 | []=>by simp only [List.map_nil,RepL]
 | n::r=>by
  simp only [List.map_cons,RepL,Rep]
  exact ⟨_,_,rfl,rfl,repL_ints r⟩
theorem rep_ints {H:Hp} {a:Addr} {ns:List Int} (h:H a=some (.lst (ns.map V.int))):Rep H (.list (ns.map PyData.int)) (.ref a):=by
 simp only [Rep]
 exact ⟨a,_,rfl,h,repL_ints ns⟩
theorem repL_get {H:Hp}:∀ {ds:List PyData} {xs:List V},RepL H ds xs→ds.length=xs.length∧∀ (i:Nat) x,xs[i]?=some x→∃ d,ds[i]?=some d∧Rep H d x
 | [],xs,h=>by simp only [RepL] at h; subst h; exact ⟨rfl,fun i x e=>by simp at e⟩
 | d::ds,xs,h=>by
  simp only [RepL] at h
  obtain ⟨x,r,rfl,h1,h2⟩:=h
  obtain ⟨l,g⟩:=repL_get h2
  refine ⟨by simp [l],fun i y e=>?_⟩
  cases i with
  | zero => simp at e; subst e; exact ⟨d, rfl, h1⟩
  | succ i => exact g i y (by simpa using e)
theorem compW_zip {K:PySem.W.Frag} {σ:St} {H:Hp} {Q:VK} {te:TE} {l a b:Addr} {xs ys:List V} (F:Nat→V) (hx:H a=some (.lst xs)) (hy:H b=some (.lst ys)) (he:xs.length=ys.length) (hz:xs.length≤1000) (hl:H l=none)
  (step:∀ (i:Nat) x y H' (Q':VK),xs[i]?=some x→ys[i]?=some y→Same H H'→(∀ H5,Same H' H5→Q' (F i) H5)→te [some x,some y] H' Q')
  (fin:∀ H',Same H H'→H' l=some (.lst ((List.range xs.length).map F))→Q (.ref l) H'):CompW (Itz K a b) (gTup K 2 (gCons (gName 0) (gCons (gName 1) gNil))) tTrue te [none,none] l σ H Q:=by
 refine ⟨xs.length,fun i zs σ' H'=>zs=(List.range i).map F∧(∃ o o',σ'=[o,o'])∧Same H H'∧H' l=some (.lst zs),⟨rfl,⟨none,none,rfl⟩,Same.new hl,upd_same⟩,?_,?_⟩
 ·rintro i zs σ' H' hi ⟨rfl,⟨o,o',rfl⟩,s,e⟩
  refine ⟨⟨xs,ys,xs[i],ys[i]'(by omega),SqL.of (s _ _ hx),SqL.of (s _ _ hy),by simp [hi],by simp⟩,fun v H2 z=>?_⟩
  obtain ⟨T,rfl,hT,z⟩:=z
  obtain ⟨x,y,ex,ey,rfl⟩:=z xs ys (SqL.of (s _ _ hx)) (SqL.of (s _ _ hy))
  have sT:=Same.new (o:=HO.tup [x,y]) hT
  refine rd_gtup upd_same rfl (rd_gcons (rd_name (rd_gcons (rd_name (rd_gnil (rd_true (iteT ?_)))))))
  refine step i x y _ _ ex ey (s.trans sT) fun H5 s5=>⟨s5 _ _ (sT _ _ e),?_,?_⟩
  ·rw [List.length_map,List.length_range]
   exact small1000 (by omega)
  ·refine ⟨?_,⟨_,_,rfl⟩,((s.trans sT).trans s5).later hl,upd_same⟩
   rw [List.range_succ,List.map_append]
   rfl
 ·rintro zs σ' H' ⟨rfl,_,s,e⟩
  exact ⟨⟨xs,ys,SqL.of (s _ _ hx),SqL.of (s _ _ hy),.inl (Nat.le_refl _)⟩,fin H' s e⟩
end L2
set_option Elab.async false
set_option linter.all false
set_option maxRecDepth 100000
set_option maxHeartbeats 4000000
namespace L2
open PySem
inductive DS {α:Type}:Sem α→Prop
 | pure (a:α):DS (.pure a)
 | raise (e:Value):DS (.raise e)
 | unsup (w:String):DS (.unsupported w)
 | fin (e:Ending):DS (.finish e)
 | rule {t:String} {k:Unit→Sem α}:DS (k ())→DS (.rule t k)
 | here {p:Pos} {k:Unit→Sem α}:DS (k ())→DS (.at p k)
 | load {a:Addr} {p:Option Value} {k:Obj→Sem α}:(∀ o,DS (k o))→DS (.load a p k)
 | upd {a:Addr} {p:Option Value} {f:Obj→Obj} {k:Unit→Sem α}:(∀ o,(f o).dict=o.dict∧(f o).isFreed=o.isFreed)→DS (k ())→DS (.update a p f k)
 | alloc {o:Obj} {k:Addr→Sem α}:(∀ n,DS (k n))→DS (.alloc o k)
 | point {l:List Value} {k:Unit→Sem α}:DS (k ())→DS (.point l k)
 | fresh {k:Tok→Sem α}:(∀ n,DS (k n))→DS (.fresh k)
 | ask {k:Setting→Sem α}:(∀ n,DS (k n))→DS (.ask k)
 | stack {k:List (Code×Pos)→Sem α}:(∀ n,DS (k n))→DS (.stack k)
theorem DS.andThen {α β:Type} {m:Sem α} {f:α→Sem β} (h:DS m) (g:∀ a,DS (f a)):DS (m >>= f):=by
 show DS (Sem.bind m f)
 induction h with
 | pure a=>rw [Sem.bind]; exact g a
 | raise e=>rw [Sem.bind]; exact .raise e
 | unsup w=>rw [Sem.bind]; exact .unsup w
 | fin e=>rw [Sem.bind]; exact .fin e
 | rule _ ih=>rw [Sem.bind]; exact .rule ih
 | here _ ih=>rw [Sem.bind]; exact .here ih
 | load _ ih=>rw [Sem.bind]; exact .load ih
 | upd z _ ih=>rw [Sem.bind]; exact .upd z ih
 | alloc _ ih=>rw [Sem.bind]; exact .alloc ih
 | point _ ih=>rw [Sem.bind]; exact .point ih
 | fresh _ ih=>rw [Sem.bind]; exact .fresh ih
 | ask _ ih=>rw [Sem.bind]; exact .ask ih
 | stack _ ih=>rw [Sem.bind]; exact .stack ih
def HasD (e:Addr) (dx:Option Addr) (h:Heap):Prop:=∃ o,h.get? e=some o∧o.dict=dx
theorem HasD.upd {e a:Addr} {dx:Option Addr} {h:Heap} {f:Obj→Obj} (x:HasD e dx h) (z:∀ o,(f o).dict=o.dict∧(f o).isFreed=o.isFreed):HasD e dx (h.update a f):=by
 obtain ⟨o,h1,h2⟩:=x
 by_cases q:a=e
 ·subst q
  have fr:o.isFreed=false:=(Heap.get?_some_iff.mp h1).2
  exact ⟨_,Heap.get?_update_self f h1 (by rw [(z o).2]; exact fr),by rw [(z o).1]; exact h2⟩
 ·exact ⟨o,by rw [Heap.get?_update_other h f q]; exact h1,h2⟩
theorem DS.run {α:Type} {M:Model} {Γ:Ctx} {m:Sem α} {Q:α→Pos→Shared→Prop} {E:Value→Pos→Shared→Prop} {p:Pos} {s:Shared} {e:Addr} {dx:Option Addr} (h:DS m) (w:Sem.wp M Γ m Q E p s) (x:HasD e dx s.heap) :
  Sem.wp M Γ m (fun a p s'=>Q a p s'∧HasD e dx s'.heap) (fun v p s'=>E v p s'∧HasD e dx s'.heap) p s:=by
 induction h generalizing p s with
 | pure a=>rw [Sem.wp] at w ⊢; exact ⟨w,x⟩
 | raise v=>rw [Sem.wp] at w ⊢; exact ⟨w,x⟩
 | unsup q=>rw [Sem.wp] at w; exact w.elim
 | fin q=>rw [Sem.wp] at w; exact w.elim
 | rule _ ih=>rw [Sem.wp] at w ⊢; exact ih w x
 | here _ ih=>rw [Sem.wp] at w ⊢; exact ih w x
 | load _ ih=>rw [Sem.wp] at w ⊢; obtain ⟨o,h1,h2⟩:=w; exact ⟨o,h1,ih o h2 x⟩
 | upd z _ ih=>rw [Sem.wp] at w ⊢; exact ⟨w.1,ih w.2 (x.upd z)⟩
 | alloc _ ih=>rw [Sem.wp] at w ⊢; exact ih _ w (let ⟨o,h1,h2⟩:=x; ⟨o,Heap.get?_push_of_some _ h1,h2⟩)
 | point _ ih=>rw [Sem.wp] at w ⊢; exact ih w x
 | fresh _ ih=>rw [Sem.wp] at w ⊢; exact ih _ w x
 | ask _ ih=>rw [Sem.wp] at w ⊢; exact ih _ w x
 | stack _ ih=>rw [Sem.wp] at w ⊢; exact ih _ w x
theorem DS.any {α:Type} {M:Model} {A:Around} {m:Sem α} {Q:α→Shared→Prop} {E:Value→Shared→Prop} {s:Shared} {e:Addr} {dx:Option Addr} (h:DS m) (w:wpAny M A m Q E s) (x:HasD e dx s.heap) :
  wpAny M A m (fun a s'=>Q a s'∧HasD e dx s'.heap) E s:=fun Γ p hΓ =>
 Sem.wp_mono M Γ m (fun _ _ _ z=>z) (fun _ _ _ z=>z.1) p s (h.run (w Γ p hΓ) x)
theorem ds_ite {α:Type} {c:Prop} [Decidable c] {a b:Sem α} (h1:DS a) (h2:DS b):DS (if c then a else b):=by split<;>assumption
theorem ds_field (v:Value) (i:Nat):DS (field v i):=by
 unfold field fieldsOf
 refine DS.andThen ?_ fun vs=>?_
 ·cases v with
  | ref a =>
   refine DS.andThen (.load fun o=>.pure o) fun o=>?_
   cases o.data<;>first | exact .pure _ | exact .unsup _
  | _ => exact .unsup _
 ·cases vs[i]?<;>first | exact .pure _ | exact .unsup _
theorem ds_mapFields (f:Array Value→Array Value) (o:Obj):(Obj.mapFields f o).dict=o.dict∧(Obj.mapFields f o).isFreed=o.isFreed:=by
 obtain ⟨c,d,dt,sl⟩:=o
 cases dt<;>exact ⟨rfl,rfl⟩
theorem ds_setField (v:Value) (i:Nat) (x:Value):DS (setField v i x):=by
 unfold setField
 cases v with
 | ref a =>
  unfold updateField
  refine DS.andThen (.load fun o=>.pure o) fun o=>?_
  cases o.data with
  | fields vs => exact ds_ite (.upd (ds_mapFields _) (.pure ())) (.unsup _)
  | _ => exact .unsup _
 | _=>exact .unsup _
theorem ds_setFlight (e:Value) (f:Option Addr):DS (setFlight e f):=by
 unfold setFlight
 exact DS.andThen (ds_field _ _) fun tb=>ds_ite (ds_setField _ _ _) (.pure _)
theorem ds_back (env:Env) (b:Bool) (l:List Env):DS (keptBack env b l):=by
 cases l with
 | nil =>
  unfold keptBack underTheClaimsCaller
  refine ds_ite (.pure _) (DS.andThen (DS.andThen (.stack fun n=>.pure n) fun _=>.pure _) fun q=>.pure _)
 | cons c r=>unfold keptBack; exact .pure _
theorem ds_import (env:Env) (l:List Env):DS (behindIsImport env l):=by
 unfold behindIsImport
 exact ds_ite (.pure _) (ds_ite (.pure _) (DS.andThen (ds_field _ _) fun _=>.pure _))
theorem ds_ready:∀ l:List Env,DS (readyFrames l)
 | []=>by unfold readyFrames; exact .pure _
 | env::r=>by
  unfold readyFrames
  cases env.frame with
  | none => exact .unsup _
  | some f =>
   refine DS.andThen (.load fun o=>.pure o) fun o=>ds_ite (.pure _) ?_
   refine DS.andThen (ds_import _ _) fun b=>DS.andThen (ds_back _ _ _) fun v=>DS.andThen (.upd (fun o=>⟨rfl,by obtain ⟨c,d,dt,sl⟩:=o; cases dt<;>rfl⟩) (.pure ())) fun _=>ds_ready r
theorem ds_frameOf (env:Env):DS (frameOf env):=by
 unfold frameOf frameEnvs
 refine DS.andThen (DS.andThen (.stack fun n=>.pure n) fun _=>.pure _) fun l=>DS.andThen ?_ fun o=>?_
 ·generalize l.dropWhile _=l'
  cases l' with
  | nil => unfold frameObject; exact .pure _
  | cons c r => unfold frameObject; exact DS.andThen (ds_ready _) fun _ => .pure _
 ·cases o with
  | none => exact .unsup _
  | some f => exact .pure _
theorem ds_place (f:Addr) (b:Bool):DS (entryPlaceOf f b):=by
 unfold entryPlaceOf
 refine DS.andThen (.stack fun n=>.pure n) fun l=>?_
 cases l.find? _ with
 | none=>exact .pure _
 | some q=>exact .pure _
theorem ds_newEntry (a b c d e:Value) (l:List Value):DS (EntryCells.newEntry a b c d e l):=by
 unfold EntryCells.newEntry newFields newObj newObjAsIs
 generalize ([a,b,c,d,e]++if l.isEmpty then List.replicate 6 Value.none else l)=vs
 dsimp only
 split
 ·exact DS.andThen (.unsup _) fun _=>DS.andThen (.alloc fun n=>.pure n) fun _=>.pure _
 ·exact DS.andThen (.alloc fun n=>.pure n) fun _=>.pure _
theorem ds_noteFrame (e:Value) (env:Env):DS (noteFrame e env):=by
  unfold noteFrame
  cases env.frame with
  | none => exact .unsup _
  | some f =>
    refine DS.andThen (ds_field _ _) fun hd=>?_
    have tail:DS (do
        let a ← frameOf env
        let pl ← entryPlaceOf f (hd != .none)
        let b ← EntryCells.newEntry hd a .none (rawInt f) .none pl
        setField e 1 b):=DS.andThen (ds_frameOf _) fun _=>DS.andThen (ds_place _ _) fun _=>DS.andThen (ds_newEntry _ _ _ _ _ _) fun _=>ds_setField _ _ _
    refine ds_ite ?_ tail
    refine DS.andThen (ds_field _ _) fun x=>ds_ite (.pure _) (DS.andThen (ds_setField _ _ _) fun _=>tail)
theorem ds_leaving (env:Env) (e:Value):DS (leaving env e):=by
 unfold leaving
 exact DS.andThen (ds_noteFrame _ _) fun _=>ds_setFlight _ _
end L2
set_option Elab.async false
set_option maxRecDepth 100000
namespace L2
open PySem PySem.Spec PyProof.Rows
structure Exc (g h:Heap) (H:Hp) (e C:Addr) (xo:Option Addr):Prop where
 tr:h.Traced g e (.ref C)
 ne:g.get? e=none
 he:H e=none
 hT:∀ oe vs T,h.get? e=some oe→oe.data=.fields vs→vs[1]?=some (.ref T)→H T=none
 dc:∀ dx,xo=some dx→HasD e (some dx) h
def CX1 (P:Program) (w:World):CXT:=fun outer H s E x s'=>∃ (e C:Addr) (xo:Option Addr) (H':Hp),x=.ref e∧s'.os=s.os∧AllBare s'.gens∧Un (frs outer) [] H H' s.heap s'.heap∧HOk P w H' s'.heap∧Exc s.heap s'.heap H' e C xo∧E (.ref C) xo H'
section
variable {X:Cx} {pins:List (Addr×Obj)} {σ:St} {H:Hp} {s:Shared}
theorem Inv.left {h':Heap} {es:List Addr} (I:Inv X pins σ H s) (hs:X.stack=X.env::X.outer) (he:∀ b∈es,H b=none∧X.s₀.heap.get? b=none)
  (keep:∀ b o,s.heap.get? b=some o→b∉frs X.stack→b∉es→h'.get? b=some o) (slot:∀ b o,s.heap.get? b=some o→b∈frs X.stack→∃ sl,h'.get? b=some { o with slots:=sl }):Un X.fs X.ex X.H₀ H X.s₀.heap h'∧HOk X.prog X.w H h':=by
 have sub:∀ b∈X.fs,b∈frs X.stack:=fun b hb=>by
  rw [hs]; unfold frs; rw [List.filterMap_cons]
  cases X.env.frame with
  | none => exact hb
  | some f => exact List.mem_cons_of_mem _ hb
 have nfr:∀ b u,H b=some u→b∉frs X.stack:=fun b u e z=>by rw [I.stkFree b z] at e; cases e
 have nes:∀ b u,H b=some u→b∉es:=fun b u e z=>by rw [(he b z).1] at e; cases e
 have neL:∀ b o,X.s₀.heap.get? b=some o→b∉X.fs→b∉frs X.stack:=fun b o e hb z=>by
  rcases List.mem_cons.mp (I.stkSub b z) with q | q
  ·exact absurd (Nat.lt_of_lt_of_le (Heap.lt_size e) (q ▸ I.ok.above)) (Nat.lt_irrefl _)
  ·exact hb q
 have ne0:∀ b o,X.s₀.heap.get? b=some o→b∉es:=fun b o e z=>by rw [(he b z).2] at e; cases e
 refine ⟨⟨fun b o e n hb hx=>keep b o (I.base.keep b o e n hb hx) (neL b o e hb) (ne0 b o e),fun b o e n hb hx=>?_,I.base.free,fun b o e hx=>?_,I.base.tups,I.base.frzs,I.base.tbls⟩,fun b u e=>?_⟩
 ·obtain ⟨sl,e1⟩:=I.base.slot b o e n hb hx
  obtain ⟨sl',e2⟩:=slot b _ e1 (sub b hb)
  exact ⟨sl',e2⟩
 ·obtain ⟨o',e1⟩:=I.base.there b o e hx
  by_cases hf:b∈frs X.stack
  ·obtain ⟨sl,e2⟩:=slot b o' e1 hf
   exact ⟨_,e2⟩
  ·exact ⟨o',keep b o' e1 hf (ne0 b o e)⟩
 ·refine (I.hok b u e).stay (fun c v hc q=>?_) (fun _ q=>q) fun _ _ q=>q
  rcases hc with z | z
  ·rw [z] at q ⊢; exact keep b v q (nfr b u e) (nes b u e)
  ·exact keep c v q (nfr c _ z) (nes c _ z)
end
theorem ObjOk.get {P:Program} {w:World} {H:Hp} {h:Heap} {a:Addr} {o:HO} (x:ObjOk P w H h a o):∃ ob,h.get? a=some ob:=by
 cases o with
 | lst xs=>obtain ⟨_,_,_,_,e⟩:=x; exact ⟨_,e⟩
 | tup xs=>obtain ⟨_,_,_,p⟩:=x; obtain ⟨o,e,_⟩:=p; exact ⟨_,e⟩
 | dK kvs=>obtain ⟨_,_,_,_,o,_,_,e,_⟩:=x; exact ⟨_,e⟩
 | dT kvs=>obtain ⟨_,_,_,_,o,_,_,e,_⟩:=x; exact ⟨_,e⟩
 | set S n=>obtain ⟨o,_,_,_,e,_⟩:=x; exact ⟨_,e⟩
 | ins C dx fs=>obtain ⟨_,_,_,e,_⟩:=x; exact ⟨_,e⟩
 | own y=>obtain ⟨_,e⟩:=x; exact ⟨_,e⟩
 | xd fs=>obtain ⟨_,⟨_,_,_,e,_⟩,_⟩:=x; exact ⟨_,e⟩
 | rng lo hi=>obtain ⟨_,_,_,e⟩:=x; exact ⟨_,e⟩
 | frz ob u=>obtain ⟨e,_⟩:=x; exact ⟨_,e⟩
 | tbl ps=>exact ⟨_,(show h.get? a=some _ from x)⟩
 | met f y=>exact ⟨_,(show h.get? a=some _ from x)⟩
 | ext φ=>obtain ⟨_,⟨_,e⟩,_⟩:=x; exact ⟨_,e⟩
theorem HOk.none_of {P:Program} {w:World} {H:Hp} {h:Heap} {a:Addr} (k:HOk P w H h) (e:h.get? a=none):H a=none:=by
 cases q:H a with
 | none=>rfl
 | some o=>obtain ⟨_,z⟩:=(k a o q).get; rw [e] at z; cases z
section
variable {P:Program} {w:World} {K:PySem.W.Frag} {mg:Str→Option Value} {base:Heap} {N:List Str} {qual:Str} {scope:Scope} {f:Addr} {cd:Value} {A:Around} {outer:List Env} {s₀:Shared} {H₀:Hp} {E:XK} {pins:List (Addr×Obj)} {σ:St} {H:Hp} {s:Shared}
theorem stack_in {l:List Env} {as:List Addr} (h:∀ b∈frs l,b∈as):∀ env∈l,∀ a,env.frame=some a→a∈as:=fun env he a ha=>h a (List.mem_filterMap.mpr ⟨env,he,ha⟩)
theorem xe_made {e C:Addr} {xo:Option Addr} {oe:Obj} {vs:Array Value} (I1:Inv (cxOf (CX1 P w) P w K mg base N qual scope f cd A outer s₀ H₀ E) pins σ H s) (he:s.heap.get? e=some oe) (hcl:oe.cls=.ref C) (hda:oe.data=.fields vs) (h1:vs[1]?=some .none)
  (hs0:s₀.heap.get? e=none) (hHe:H e=none) (dc:∀ dx,xo=some dx→oe.dict=some dx) (q:E (.ref C) xo H):(cxOf (CX1 P w) P w K mg base N qual scope f cd A outer s₀ H₀ E).xe (.ref e) s:=by
 have ff:=I1.stack
 have hl:=PySem.W.funFrames_hide (as:=e::frs (cxOf (CX1 P w) P w K mg base N qual scope f cd A outer s₀ H₀ E).stack) ff (stack_in fun b hb=>List.mem_cons_of_mem _ hb)
 have fin:=wpAny_leaving_first (M:=model P w) (E:=fun v s'=>CX1 P w outer H₀ s₀ E v s') (base:=PySem.W.hideAll s.heap (e::frs (cxOf (CX1 P w) P w K mg base N qual scope f cd A outer s₀ H₀ E).stack)) (L:=s₀.heap.objs.size) (e:=e) (s:=s) (Q:=fun _ s'=>∃ h2,s'={ s with heap:=h2 }∧Heap.Left (PySem.W.hideAll s.heap (e::frs (cxOf (CX1 P w) P w K mg base N qual scope f cd A outer s₀ H₀ E).stack)) (envOfC qual scope s₀.heap.objs.size f cd::outer) e oe.cls s.heap h2) I1.ok.frames hl rfl he (fun b o z=>PySem.W.of_hideAll _ z) (PySem.W.hideAll_none _ List.mem_cons_self) hda h1 fun h2 lf=>⟨h2,rfl,lf⟩
 refine wpAny_mono (DS.any (ds_leaving _ _) fin ⟨oe,he,rfl⟩) (fun _ s' ⟨⟨h2,e2,lf⟩,hd2⟩=>?_) fun _ _ z=>z
 subst e2
 obtain ⟨st,ff2,tr,up⟩:=lf
 have lf:=I1.left (h':=h2) (es:=[e]) rfl (fun b hb=>by rw [List.mem_singleton.mp hb]; exact ⟨hHe,hs0⟩) (fun b o z nf ne=>st b o (PySem.W.hideAll_get _ z (by intro m; rcases List.mem_cons.mp m with r | r; exact ne (by simp [r]); exact nf r)))
  (fun b o z hb=>by
   obtain ⟨_,o',z',hd⟩:=ff.mem hb
   rw [z] at z'; cases z'
   exact up b o z hd)
 obtain ⟨oe',ws,T,oT,ts,g1,g2,g3,g4,g5,g6,g7,g8,g9⟩:=tr
 have nT:T∉frs (cxOf (CX1 P w) P w K mg base N qual scope f cd A outer s₀ H₀ E).stack:=fun z=>by
  obtain ⟨_,o,zo,hd⟩:=ff2.mem z
  rw [g7] at zo; cases zo
  exact hd ts g8
 have key:∀ o,s.heap.get? T=some o→False:=fun o z=>by
  rw [PySem.W.hideAll_get _ z (by intro m; rcases List.mem_cons.mp m with r | r; exact g6 r; exact nT r)] at g5
  cases g5
 have hT0:s₀.heap.get? T=none:=by
  cases z:s₀.heap.get? T with
  | none => rfl
  | some o => obtain ⟨o', z'⟩ := I1.base.there T o z (by intro q; cases q); exact (key o' z').elim
 have hHT:H T=none:=by
  cases z:H T with
  | none => rfl
  | some o => obtain ⟨o', z'⟩ := (I1.hok T o z).get; exact (key o' z').elim
 refine ⟨e,C,xo,H,rfl,I1.os,I1.bare,lf.1,lf.2,⟨⟨oe',ws,T,oT,ts,g1,g2.trans hcl,g3,g4,hT0,g6,g7,g8,g9⟩,hs0,hHe,fun oe2 vs' T' z1 z2 z3=>?_,fun dx z=>by rw [dc dx z] at hd2; exact hd2⟩,q⟩
 rw [g1] at z1; cases z1
 rw [g3] at z2; cases z2
 rw [g4] at z3; cases z3
 exact hHT
theorem xe_new {h':Heap} {t':Nat} {e C:Addr} {vs:List Value} (I:Inv (cxOf (CX1 P w) P w K mg base N qual scope f cd A outer s₀ H₀ E) pins σ H s) (hx:Heap.MadeExcOf s.heap h' e (.ref C) vs) (q:E (.ref C) none H) :
  (cxOf (CX1 P w) P w K mg base N qual scope f cd A outer s₀ H₀ E).xe (.ref e) { s with heap:=h',toks:=t' }:=by
 have I1:=I.kept (t':=t') hx.keeps
 obtain ⟨t,he,ht,_⟩:=hx.there
 have hs0:s₀.heap.get? e=none:=by
  cases z:s₀.heap.get? e with
  | none => rfl
  | some o => obtain ⟨o', z'⟩ := I.base.there e o z (by intro q; cases q); rw [hx.new] at z'; cases z'
 exact xe_made I1 he rfl rfl rfl hs0 (I.hok.none_of hx.new) (fun _ z=>by cases z) q
theorem pass1:Passes (CX1 P w) (cxOf (CX1 P w) P w K mg base N qual scope f cd A outer s₀ H₀ E) E:=by
  intro pins σ H s x s' I h
  obtain ⟨e,C,xo,H',rfl,os,bare,un,hok,ex,q⟩:=h
  have J:=I.call' (s':=s') (ch:=[]) os un hok bare (fun b hb=>by cases hb)
  obtain ⟨⟨oe,ws,T,oT,ts,g1,g2,g3,g4,g5,g6,g7,g8,g9⟩,ne,hHe,hHT,dc⟩:=ex
  have hHT:=hHT oe ws T g1 g3 g4
  have s0:∀ {b:Addr},s.heap.get? b=none→s₀.heap.get? b=none:=fun {b} hb=>by
    cases z:s₀.heap.get? b with
    | none=>rfl
    | some o=>obtain ⟨o',z'⟩:=I.base.there b o z (by intro q; cases q); rw [hb] at z'; cases z'
  have ff:=J.stack
  have hl:=PySem.W.funFrames_hide (as:=e::T::frs (cxOf (CX1 P w) P w K mg base N qual scope f cd A outer s₀ H₀ E).stack) ff (stack_in fun b hb=>List.mem_cons_of_mem _ (List.mem_cons_of_mem _ hb))
  have fin:=wpAny_leaving_next (M:=model P w) (E:=fun v s'=>CX1 P w outer H₀ s₀ E v s') (base:=PySem.W.hideAll s'.heap (e::T::frs (cxOf (CX1 P w) P w K mg base N qual scope f cd A outer s₀ H₀ E).stack)) (L:=s₀.heap.objs.size) (e:=e) (s:=s') (Q:=fun _ s2=>∃ h2,s2={ s' with heap:=h2 }∧Heap.Left (PySem.W.hideAll s'.heap (e::T::frs (cxOf (CX1 P w) P w K mg base N qual scope f cd A outer s₀ H₀ E).stack)) (envOfC qual scope s₀.heap.objs.size f cd::outer) e (.ref C) s'.heap h2) J.ok.frames hl rfl
    ⟨oe,ws,T,oT,ts,g1,g2,g3,g4,PySem.W.hideAll_none _ (List.mem_cons_of_mem _ List.mem_cons_self),g6,g7,g8,g9⟩ (fun b o z=>PySem.W.of_hideAll _ z) (PySem.W.hideAll_none _ List.mem_cons_self) fun h2 lf=>⟨h2,rfl,lf⟩
  refine wpAny_mono (DS.any (ds_leaving _ _) fin ⟨oe,g1,rfl⟩) (fun _ s2 ⟨⟨h2,e2,lf⟩,hd2⟩=>?_) fun _ _ z=>z
  subst e2
  obtain ⟨st,ff2,tr,up⟩:=lf
  have lf:=J.left (h':=h2) (es:=[e,T]) rfl (fun b hb=>by
      simp only [List.mem_cons,List.not_mem_nil,or_false] at hb
      rcases hb with rfl | rfl
      · exact ⟨hHe,s0 ne⟩
      · exact ⟨hHT,s0 g5⟩) (fun b o z nf ne=>st b o (PySem.W.hideAll_get _ z (by
        intro m
        rcases List.mem_cons.mp m with r | m
        · exact ne (by simp [r])
        · rcases List.mem_cons.mp m with r | r
          · exact ne (by simp [r])
          · exact nf r)))
      (fun b o z hb=>by
        obtain ⟨_,o',z',hd⟩:=ff.mem hb
        rw [z] at z'; cases z'
        exact up b o z hd)
  obtain ⟨oe2,ws2,T2,oT2,ts2,k1,k2,k3,k4,k5,k6,k7,k8,k9⟩:=tr
  have nT:T2∉frs (cxOf (CX1 P w) P w K mg base N qual scope f cd A outer s₀ H₀ E).stack:=fun z=>by
    obtain ⟨_,o,zo,hd⟩:=ff2.mem z
    rw [k7] at zo; cases zo
    exact hd ts2 k8
  have hT0:s₀.heap.get? T2=none∧H' T2=none:=by
    by_cases r:T2=T
    · subst r; exact ⟨s0 g5,hHT⟩
    · have key:∀ o,s'.heap.get? T2=some o→False:=fun o z=>by
        rw [PySem.W.hideAll_get _ z (by
          intro m
          rcases List.mem_cons.mp m with q | m
          · exact k6 q
          · rcases List.mem_cons.mp m with q | q
            · exact r q
            · exact nT q)] at k5
        cases k5
      constructor
      · cases z:s₀.heap.get? T2 with
        | none=>rfl
        | some o=>obtain ⟨o',z'⟩:=J.base.there T2 o z (by intro q; cases q); exact (key o' z').elim
      · cases z:H' T2 with
        | none=>rfl
        | some o=>obtain ⟨o',z'⟩:=(J.hok T2 o z).get; exact (key o' z').elim
  refine ⟨e,C,xo,H',rfl,J.os,J.bare,lf.1,lf.2,⟨⟨oe2,ws2,T2,oT2,ts2,k1,k2,k3,k4,hT0.1,k6,k7,k8,k9⟩,s0 ne,hHe,fun oe' vs' T' z1 z2 z3=>?_,fun dx z=>by
      obtain ⟨o,y1,y2⟩:=dc dx z
      rw [g1] at y1; cases y1
      rw [y2] at hd2; exact hd2⟩,q⟩
  rw [k1] at z1; cases z1
  rw [k3] at z2; cases z2
  rw [k4] at z3; cases z3
  exact hT0.2
end
end L2
set_option Elab.async false
set_option maxRecDepth 100000
namespace L2
open PySem PySem.Spec PyProof.Rows
def tRaise (C:Addr) (E:XK) (t:TA):TS:=fun _ σ H=>t σ H fun vs H1=>vs.length≤sizeLine∧E (.ref C) none H1
theorem ps_raise {X:Cx} {E:XK} {x:Str} {C:Addr} {B newId initId:String} {bm:List Value} {np cpos pos:Pos} {e:Expr} {es:List Expr} {t:TA} (O:OwnCls x C bm newId X.mg X.base) (FB:ExcBaseFacts B newId initId bm) (hc:X.calm=true) (hg:Gl X x)
  (hx:∀ (pins:List (Addr×Obj)) (σ:St) (H:Hp) (s:Shared) (h':Heap) (t':Nat) (e:Addr) (vs:List Value),Inv X pins σ H s→Heap.MadeExcOf s.heap h' e (.ref C) vs→E (.ref C) none H→X.xe (.ref e) { s with heap:=h',toks:=t' })
  (ha:PA X (e::es) t) (hd:(x==("__debug__":Str))=false:=by decide) (he:starEach (e::es) X.env=(false,eval e X.env)::starEach es X.env:=by rfl) (hpl:(backTo cpos (starEach es X.env)).any (·.1)=false:=by rfl) :
  PS X (.Raise (some (.Call (.Name x np) (e::es) [] cpos)) none pos) (tRaise C E t):=by
 intro pins s σ H D I h
 obtain ⟨tl,N,nm,q,bs,hdct,sn,sub,ab,col,dd,k0,k1,k2,k3,k5,mN,hC,hN,hni,T⟩:=O.obj
 refine wpAny_Raise_call_subT (C:=C) (nm:=nm) (q:=q) (N:=N) (bs:=bs) (bm:=tl) (hdct:=hdct) (sn:=sn) (sub:=sub) (ab:=ab) (col:=col) (dd:=dd) (k0:=k0) (k1:=k1) (k2:=k2) (k3:=k3) (k5:=k5)
  FB (mN:=mN) (T.hasType FB.hasBase) (I.ok.hd hc) (by rw [he]; show (false||(backTo cpos (starEach es X.env)).any (·.1))=false; rw [hpl]; rfl) hni (ld_glob I hg O.bound ⟨rfl,?_⟩ hd)
 have h1:=ha cpos pins s σ H _ I h
 rw [he] at h1 ⊢
 refine Calls.evalArgs_plain (wpAny_mono h1 (fun us s2 ⟨vs,H2,I2,r2,hl,hE⟩=>⟨rfl,by show us.length≤sizeLine; rw [← r2.length]; exact hl,I2.bk _ _ hC,hN.keeps I2.bk,T.keeps I2.bk,fun h' a mk=>?_⟩) fun _ _ y=>y)
 exact hx pins σ H2 s2 h' s2.toks a us I2 mk hE
section
variable {P:Program} {w:World} {K:PySem.W.Frag} {mg:Str→Option Value} {base:Heap}
theorem Fun.ok1 {x qual:Str} {st:Stmt} {f:Addr} {fd:FuncData} {N ps:List Str} {k:Nat} {sp:Sp} (F:Fun K x qual st f fd) (S:FnScope N ps (defScope st)) (len:∀ vs H Q E,sp vs H Q E→vs.length=ps.length)
  (hbody:∀ (cdv:Value) (A:Around) (outer:List Env) (s:Shared) (H:Hp) (vs:List V) (Q:VK) (E:XK),Room k (A.deeper (envOfC qual (defScope st) s.heap.objs.size f cdv))→sp vs H Q E →
   ∃ t,PSs (cxOf (CX1 P w) P w K mg base N qual (defScope st) f cdv A outer s H E) (defBody st) t∧t { nx:=fun _ H'=>Q .non H',rt:=Q } (start N vs) H):FnOk P w K mg base (CX1 P w) (k+1) f fd ps sp:=by
 obtain ⟨oc,od,kV,doc,pm,an,cdv,ct,osl,rfl,lk,hcd⟩:=F.ex
 exact fn_of lk hcd S len fun A outer s H vs Q E hr hsp=>hbody cdv A outer s H vs Q E hr hsp
theorem FnOk.up {k:Nat} {f:Addr} {fd:FuncData} {ps:List Str} {sp:Sp} (F:FnOk P w K mg base CX0 k f fd ps sp):FnOk P w K mg base (CX1 P w) k f fd ps sp :=
 ⟨F.len,fun A outer s H args us vs Q E hr e0 hb hv hs=>codeAny_mono (F.run A outer s H args us vs Q E hr e0 hb hv hs) fun r s' h=>by
  cases r with
  | error e => exact False.elim h
  | ok fl => cases fl <;> exact h⟩
end
end L2
set_option Elab.async false
set_option maxRecDepth 100000
namespace L2
open PySem PySem.Spec PyProof.Rows PySem.W Builtin Builtin.ObjectAttr Builtin.Getset_descriptor
section
variable {prog:Program} {w:World} {A:Around} {E:Value→Shared→Prop} {s:Shared} {K:PySem.W.Frag} {x C:Addr} {R:Result→Shared→Prop}
theorem cls_get {tp:Value} (X:K.In s.heap) (LT:Looks (model prog w) s.heap (typeOf (.ref x)) (.ref C)) (hm:mroIn K C (.type "object")=some true)
  (h:R (.ok (.ret (.ref C))) s):codeAny (model prog w) A (.call (.builtin "getset_descriptor.__get__") ⟨[.builtin "object.__class__",.ref x,tp],[]⟩) R s:=by
 have L1:=looks_mroIn (M:=model prog w) X hm; obtain ⟨hh,g,dr,t,os⟩:=s
 refine codeAny_call_builtin KF.slot_gs.plain KF.entry_gs (KF.slot_gs.check _ _ _ _ _ _ _ _ KF.type_class (KF.args_gs _ _ _) ?_); unfold Builtin.«getset_descriptor.__get__» descrGet; rw [dga_obj]
 refine wpAny_bind (wpAny_pure ?_); unfold descrGetter descrCheckInstance descrNameAndClass isInstance; simp only [KF.owner_class]
 repeat lk
 refine ⟨Code.quiet_builtin _ (by decide +kernel),codeAny_builtin KF.entry_class ?_⟩; unfold Builtin.«object.__class__» shownTypeOf
 repeat lk
 exact h
theorem exc_class {Q:Option Value→Shared→Prop} (X:K.In s.heap) (LT:Looks (model prog w) s.heap (typeOf (.ref x)) (.ref C))
  (hga:findIn K (.ref C) "__getattribute__"=some (some (.builtin "BaseException.__getattribute__"))) (hgt:findIn K (.ref C) "__getattr__"=some none)
  (ha:findIn K (.ref C) "__class__"=some (some (.builtin "object.__class__"))) (hn:specialIn K (.builtin "object.__class__") "__get__"=some (some (.builtin "getset_descriptor.__get__"))) (htk:takesIn K (.builtin "object.__class__")=some true)
  (hm:mroIn K C (.type "object")=some true) (hb:mroIn K C (.type "BaseException")=some true)
  (h:Q (some (.ref C)) { s with toks:=s.toks+1 }):wpAny (model prog w) A (getAttr? (.ref x) "__class__") Q E s:=by
 obtain ⟨hh,g,d,t,os⟩:=s
 have L1:=looks_findIn (M:=model prog w) X hga
 have L2:=looks_findIn (M:=model prog w) X hgt
 have L3:=looks_mroIn (M:=model prog w) X hb
 have L4:Looks (model prog w) hh (find (.ref x) (.ref C) "__class__") (.bind (.builtin "getset_descriptor.__get__") (.builtin "object.__class__")):=by
  have a1:=looks_findIn (M:=model prog w) X ha
  have a2:Looks (model prog w) hh (getOf (some (.builtin "object.__class__"))) (some (.builtin "getset_descriptor.__get__")):=looks_specialIn X hn
  have a3:=looks_takesIn (M:=model prog w) X htk
  refine a1.andThen (a2.andThen ?_)
  have a4:Looks (model prog w) hh (dataDescriptor? (some (.builtin "object.__class__")) (some (.builtin "getset_descriptor.__get__"))) (some (.builtin "getset_descriptor.__get__",.builtin "object.__class__")):=a3.andThen .now
  exact a4.andThen (Looks.tag .now)
 have f3:=(F.attrBase_ValueError).ga.bind (.ref x)
 unfold getAttr? getAttrBy? getAttrBy
 refine wpAny_bind (wpAny_mkText (wpAny_bind (wpAny_attempt (wpAny_holding (wpAny_bind (LT.at (wpAny_bind (L1.at ?_))))))))
 show wpAny _ _ (getAttrByItsOwn _ _ _ _ _ _) _ _ _
 unfold getAttrByItsOwn hookBefore
 refine wpAny_bind (L2.at ?_)
 refine wpAny_bind (wpAny_attempt (wpAny_holding ?_))
 show wpAny _ _ (boundAndCalled _ _ _) _ _ _
 unfold boundAndCalled
 rw [f3]
 refine wpAny_bind (wpAny_pure (wpAny_call ?_))
 have hk:builtinKind "BaseException.__getattribute__"=some .slot:=(by decide +kernel); have hsplit:splitId "BaseException.__getattribute__"=some ("BaseException","__getattribute__"):=by decide +kernel
 refine codeAny_call_builtin (F.attrBase_ValueError).ga.plain F.entry_bexc_ga ?_
 have ha:=F.args_bexc_ga (.ref x) (.str "__class__" t)
 simp only [checkBuiltinCall,hk,hsplit]; refine wpAny_bind ?_
 unfold isInstance
 refine wpAny_bind (LT.at (L3.at ?_))
 simp only [Bool.not_true,Bool.false_eq_true,if_false]; refine wpAny_of_eq (a:=()) ha ?_
 unfold Builtin.«object.__getattribute__»
 repeat (first | with_reducible refine wpAny_call (cls_get X LT hm ?_) | lk)
 exact h
end
end L2
set_option Elab.async false
set_option maxRecDepth 100000
namespace L2
open PySem PySem.Spec PyProof.Rows
structure ExcIn (K:PySem.W.Frag) (C:Addr):Prop where
 ga:PySem.W.findIn K (.ref C) "__getattribute__"=some (some (.builtin "BaseException.__getattribute__"))
 gt:PySem.W.findIn K (.ref C) "__getattr__"=some none
 cl:PySem.W.findIn K (.ref C) "__class__"=some (some (.builtin "object.__class__"))
 gs:PySem.W.specialIn K (.builtin "object.__class__") "__get__"=some (some (.builtin "getset_descriptor.__get__"))
 tk:PySem.W.takesIn K (.builtin "object.__class__")=some true
 mo:PySem.W.mroIn K C (.type "object")=some true
 mb:PySem.W.mroIn K C (.type "BaseException")=some true
theorem ExcIn.cls {K:PySem.W.Frag} {C:Addr} (e:ExcIn K C):∃ cd,PySem.W.clsIn K C=some cd:=by
 obtain ⟨cd,hc,_⟩:=Option.bind_eq_some_iff.mp e.mo
 exact ⟨cd,hc⟩
def ExcAt (e C:Addr) (h:Heap):Prop:=∃ o,h.get? e=some o∧o.cls=.ref C
theorem ExcAt.looks {e C:Addr} {h:Heap} {M:Model} (p:ExcAt e C h):PySem.W.Looks M h (typeOf (.ref e)) (.ref C):=by
 obtain ⟨o,h1,h2⟩:=p
 rw [← h2]; exact (PySem.W.Looks.ld h1).andThen .now
def ExcAtX (e C:Addr) (xo:Option Addr) (h:Heap):Prop:=∃ o vs,h.get? e=some o∧o.cls=.ref C∧o.data=.fields vs∧∀ dx,xo=some dx→o.dict=some dx
theorem ExcAtX.at {e C:Addr} {xo:Option Addr} {h:Heap} (p:ExcAtX e C xo h):ExcAt e C h:=let ⟨o,_,h1,h2,_⟩:=p; ⟨o,h1,h2⟩
def ExcX (e C:Addr) (xo:Option Addr):HO:=.ext (ExcAtX e C xo)
abbrev ExcO (e C:Addr):HO:=ExcX e C none
theorem kitx_exc {K:PySem.W.Frag} {e C:Addr} (x:ExcIn K C):PySem.W.KitX K (.ref e) (.ref C) (ExcAt e C) where
 ty:=fun _ _ _ p=>ExcAt.looks p
 it:=fun _ _ X _=>by
  obtain ⟨cdD,hcD⟩:=x.cls
  unfold PySem.W.clsIn at hcD
  split at hcD
  ·rename_i ho
   intro A' Q' E' s' k q
   unfold isType loadHead
   exact wpAny_bind (wpAny_loadPart (k _ _ (X _ _ ho)) (wpAny_pure q))
  ·cases hcD
 ne:=fun h tp dd its n sl X htp=>by
  obtain ⟨cdD,hcD⟩:=x.cls
  refine Bool.eq_false_iff.mpr fun q=>?_
  have z:=Value.ref.inj (beq_iff_eq.mp q)
  subst z
  unfold PySem.W.clsIn at hcD
  split at hcD
  ·rename_i ho
   have z:=(X _ _ ho).symm.trans htp
   cases z
  ·cases hcD
 ca:=fun X p k=>exc_class X (ExcAt.looks p) x.ga x.gt x.cl x.gs x.tk x.mo x.mb k
def rIsiX (K:PySem.W.Frag):List V→Hp→VK→Prop:=fun xs H Q=>∃ e C xo y c b,xs=[.ref e,y]∧H e=some (ExcX e C xo)∧ExcIn K C∧RelV y c∧PySem.W.kitOne K (.ref C) c=some b∧Q (.bl b) H
theorem cI_isinstX {X:Cx}:CallR X (.builtin "isinstance") (rIsiX X.K):=by
 intro pins s σ H xs us Q I r h
 obtain ⟨e,C,xo,y,c,b,rfl,he,ex,ry,k,q⟩:=h
 obtain ⟨u,v,rfl,ru,rv⟩:=r.two
 cases (show u=Value.ref e from ru)
 have hv:v=c:=by
  cases y with
  | ref a => exact (show v = Value.ref a from rv).trans (show c = Value.ref a from ry).symm
  | ty n => exact (show v = Value.type n from rv).trans (show c = Value.type n from ry).symm
  | non => exact (show v = Value.none from rv).trans (show c = Value.none from ry).symm
  | bl z => exact (show v = Value.bool z from rv).trans (show c = Value.bool z from ry).symm
  | int i => obtain ⟨t, rfl⟩ := ry; simp [PySem.W.kitOne, PySem.W.kitCls] at k
  | str i => obtain ⟨t, rfl⟩ := ry; simp [PySem.W.kitOne, PySem.W.kitCls] at k
  | byt i => obtain ⟨t, rfl⟩ := ry; simp [PySem.W.kitOne, PySem.W.kitCls] at k
  | flt i => obtain ⟨t, rfl⟩ := ry; simp [PySem.W.kitOne, PySem.W.kitCls] at k
 subst hv
 have p:ExcAt e C s.heap:=ExcAtX.at (show ObjOk X.prog X.w H s.heap e (.ext (ExcAtX e C xo)) from I.hok e _ he).1
 exact PySem.W.kia_one (kitx_exc ex) I.kIn p k (fun z=>nomatch z) fun tk=>⟨.bl b,H,I.tok tk,rfl,q⟩
theorem cI_isinstXK {X:Cx} (K:PySem.W.Frag) (h:X.K=K):CallR X (.builtin "isinstance") (rIsiX K):=h ▸ cI_isinstX
theorem rd_isiX {K:PySem.W.Frag} {H:Hp} {Q:VK} {e C D:Addr} {xo:Option Addr} {b:Bool} (he:H e=some (ExcX e C xo)) (x:ExcIn K C) (k:PySem.W.kitOne K (.ref C) (.ref D)=some b) (q:Q (.bl b) H):rIsiX K [.ref e,.ref D] H Q :=
 ⟨e,C,xo,.ref D,.ref D,b,rfl,he,x,rfl,k,q⟩
section
variable {X:Cx} {pins:List (Addr×Obj)} {σ:St} {H:Hp} {s:Shared}
theorem Inv.held {h':Heap} {es:List Addr} (I:Inv X pins σ H s) (hs:X.stack=X.env::X.outer) (hf:X.env.frame=some X.env.locals)
  (he:∀ b∈es,H b=none∧X.s₀.heap.get? b=none∧(∀ p∈X.pn++pins,p.1≠b)∧∃ o vs,s.heap.get? b=some o∧o.data=.fields vs)
  (keep:∀ b o,s.heap.get? b=some o→b∉frs X.stack→b∉es→h'.get? b=some o) (slot:∀ b o,s.heap.get? b=some o→b∈frs X.stack→∃ sl,h'.get? b=some { o with slots:=sl }):Inv X pins σ H { s with heap:=h' }:=by
 have lf:=I.left hs (fun b hb=>⟨(he b hb).1,(he b hb).2.1⟩) keep slot
 have inL:X.env.locals∈frs X.stack:=by rw [hs]; unfold frs; rw [List.filterMap_cons,hf]; exact List.mem_cons_self
 have cellK:∀ c v,s.heap.IsCell c v→h'.IsCell c v:=fun c v ⟨o,ho,hd⟩=>by
  by_cases hb:c∈frs X.stack
  ·obtain ⟨sl,q⟩:=slot c o ho hb
   exact ⟨_,q,hd⟩
  ·refine ⟨o,keep c o ho hb fun hm=>?_,hd⟩
   obtain ⟨_,_,_,o',vs,ho',hd'⟩:=he c hm
   rw [ho] at ho'; cases ho'; rw [hd] at hd'; cases hd'
 refine ⟨I.ok,I.os,I.bare,lf.1,?_,fun x c e=>?_,I.free,I.freeC,fun p hp=>?_,lf.2,I.len⟩
 ·obtain ⟨m,⟨o,es',ep,ho,r⟩,hl⟩:=I.loc
  obtain ⟨sl,hL⟩:=slot _ o ho inL
  refine ⟨m,⟨_,es',ep,hL,r⟩,fun i x v e1 e2 e3=>?_⟩
  obtain ⟨u,ru,l⟩:=hl i x v e1 e2 e3
  refine ⟨u,ru,?_⟩
  rcases l with l | ⟨k,c,e,z⟩
  ·exact .inl l
  ·exact .inr ⟨k,c,e,cellK c _ z⟩
 ·obtain ⟨v,z⟩:=I.cell x c e
  exact ⟨v,cellK c v z⟩
 ·obtain ⟨e,n,ne,nf,d⟩:=I.pin p hp
  refine ⟨keep p.1 p.2 e (fun z=>?_) fun z=>(he p.1 z).2.2.1 p hp rfl,n,ne,nf,d⟩
  rcases List.mem_cons.mp (I.stkSub p.1 z) with q | q
  ·exact ne q
  ·exact nf q
theorem Inv.track {e:Addr} {φ:Heap→Prop} (I:Inv X pins σ H s) (hH:H e=none) (h0:X.s₀.heap.get? e=none) (hp:∀ p∈X.pn++pins,p.1≠e) (hd:∃ o vs,s.heap.get? e=some o∧o.data=.fields vs)
    (hφ:φ s.heap) (st:∀ h1 h2:Heap,φ h1→(∀ o,h1.get? e=some o→h2.get? e=some o)→φ h2):Inv X pins σ (upd H e (.ext φ)) s:=by
  obtain ⟨oe,vs,ho,hdd⟩:=hd
  have ne:∀ b u,H b=some u→b≠e:=fun b u z=>ne_of_none z hH
  have n0:∀ b o,X.s₀.heap.get? b=some o→b≠e:=fun b o z q=>by rw [q,h0] at z; cases z
  have nH0:∀ b u,X.H₀ b=some u→H b≠none→b≠e:=fun b u _ z q=>z (q ▸ hH)
  refine ⟨I.ok,I.os,I.bare,⟨I.base.keep,I.base.slot,fun b o z n hx=>?_,I.base.there,fun b xs z=>?_,fun b o u z=>?_,fun b ps z=>?_⟩,I.loc,I.cell,?_,fun x c z=>?_,fun p hp'=>?_,fun b u z=>?_,I.len⟩
  · rw [upd_ne (n0 b o z)]; exact I.base.free b o z n hx
  · have q:=I.base.tups b xs z
    rw [upd_ne (ne _ _ q)]; exact q
  · have q:=I.base.frzs b o u z
    rw [upd_ne (ne _ _ q)]; exact q
  · obtain ⟨m,q⟩:=I.base.tbls b ps z
    exact ⟨m,by rw [upd_ne (ne _ _ q)]; exact q⟩
  · have q:X.env.locals≠e:=fun q=>by
      obtain ⟨m,⟨o',es,ep,ho',hd',_⟩,_⟩:=I.loc
      rw [q,ho] at ho'; cases ho'; rw [hdd] at hd'; cases hd'
    rw [upd_ne q]; exact I.free
  · have q:c≠e:=fun q=>by
      obtain ⟨v,o',ho',hd'⟩:=I.cell x c z
      rw [q,ho] at ho'; cases ho'; rw [hdd] at hd'; cases hd'
    rw [upd_ne q]; exact I.freeC x c z
  · obtain ⟨a,n,r⟩:=I.pin p hp'
    exact ⟨a,by rw [upd_ne (hp p hp')]; exact n,r⟩
  · by_cases q:b=e
    · subst q
      rw [upd_same] at z
      cases z
      exact ⟨hφ,⟨oe,ho⟩,st⟩
    · rw [upd_ne q] at z
      refine (I.hok b u z).stay (fun _ _ _ w=>w) (fun c w=>?_) fun c xs w=>?_
      · rw [upd_ne (ne _ _ w)]; exact w
      · rw [upd_ne (ne _ _ w)]; exact w
end
end L2
set_option Elab.async false
set_option maxRecDepth 100000
namespace L2
open PySem PySem.Spec PyProof.Rows
abbrev Cx.tryIn (X:Cx) (pins:List (Addr×Obj)) (E:Value→Shared→Prop):Cx:={ X with pn:=X.pn++pins,xe:=E }
section
variable {X:Cx} {pins pins':List (Addr×Obj)} {σ:St} {H:Hp} {s:Shared} {E:Value→Shared→Prop}
theorem Cx.Ok.tryIn (ok:X.Ok):(X.tryIn pins E).Ok :=
 ⟨ok.mod,ok.kind,ok.glob,ok.blt,ok.above,ok.inj,ok.has,ok.cab,ok.hd,ok.frames,ok.stk,ok.exf,ok.bs,ok.bsz,ok.noex,ok.exfs,ok.funs,ok.frf⟩
theorem Cx.Ok.tryOut (ok:(X.tryIn pins E).Ok):X.Ok :=
 ⟨ok.mod,ok.kind,ok.glob,ok.blt,ok.above,ok.inj,ok.has,ok.cab,ok.hd,ok.frames,ok.stk,ok.exf,ok.bs,ok.bsz,ok.noex,ok.exfs,ok.funs,ok.frf⟩
theorem Inv.tryIn (I:Inv X pins σ H s) (E:Value→Shared→Prop):Inv (X.tryIn pins E) [] σ H s :=
 ⟨I.ok.tryIn,I.os,I.bare,I.base,I.loc,I.cell,I.free,I.freeC,fun p hp=>I.pin p (by simpa using hp),I.hok,I.len⟩
theorem Inv.tryOut (I:Inv (X.tryIn pins E) pins' σ H s):Inv X pins σ H s :=
 ⟨I.ok.tryOut,I.os,I.bare,I.base,I.loc,I.cell,I.free,I.freeC,fun p hp=>I.pin p (List.mem_append_left _ hp),I.hok,I.len⟩
theorem SP.tryOut {D:Ends} {f:Flow} {s':Shared} (h:SP (X.tryIn pins E) pins' D f s'):SP X pins D f s':=by
 cases f with
 | next=>obtain ⟨σ',H',I,q⟩:=h; exact ⟨σ',H',I.tryOut,q⟩
 | brk=>obtain ⟨σ',H',I,q⟩:=h; exact ⟨σ',H',I.tryOut,q⟩
 | cont=>obtain ⟨σ',H',I,q⟩:=h; exact ⟨σ',H',I.tryOut,q⟩
 | ret u=>obtain ⟨v,σ',H',I,r,q⟩:=h; exact ⟨v,σ',H',I.tryOut,r,q⟩
end
def XT (X:Cx) (pins:List (Addr×Obj)) (ET:St→XK):Value→Shared→Prop:=fun x s'=>∃ (σ:St) (e C:Addr) (xo:Option Addr) (H':Hp),x=.ref e∧Inv X pins σ H' s'∧Exc X.s₀.heap s'.heap H' e C xo ∧
 (∀ p∈X.pn++pins,p.1≠e∧∀ oe vs T,s'.heap.get? e=some oe→oe.data=.fields vs→vs[1]?=some (.ref T)→p.1≠T)∧ET σ (.ref C) xo H'
def PassesS (CX:CXT) (X:Cx) (ET:St→XK):Prop:=∀ (pins:List (Addr×Obj)) (σ:St) (H:Hp) (s:Shared) (e:Value) (s':Shared),Inv X pins σ H s→CX X.stack H s (ET σ) e s'→X.xe e s'
theorem passT {X:Cx} {pins:List (Addr×Obj)} {ET:St→XK} (hx:X.ex=[]:=by rfl):PassesS (CX1 X.prog X.w) (X.tryIn pins (XT X pins ET)) ET:=by
 intro pins' σ H s x s' I h
 obtain ⟨e,C,xo,H',rfl,os,bare,un,hok,ex,q⟩:=h
 have J:=I.call' (s':=s') (ch:=[]) os un hok bare (fun b hb=>by cases hb)
 obtain ⟨⟨oe,ws,T,oT,ts,g1,g2,g3,g4,g5,g6,g7,g8,g9⟩,ne,hHe,hHT,dc⟩:=ex
 have s0:∀ {b:Addr},s.heap.get? b=none→X.s₀.heap.get? b=none:=fun {b} hb=>by
  cases z:X.s₀.heap.get? b with
  | none => rfl
  | some o => obtain ⟨o', z'⟩ := I.base.there b o z (by show b ∉ X.ex; rw [hx]; simp); rw [hb] at z'; cases z'
 refine ⟨σ,e,C,xo,H',rfl,J.tryOut,⟨⟨oe,ws,T,oT,ts,g1,g2,g3,g4,s0 g5,g6,g7,g8,g9⟩,s0 ne,hHe,hHT,dc⟩,fun p hp=>?_,q⟩
 have hp':=(I.pin p (List.mem_append_left _ hp)).1
 refine ⟨fun z=>(by rw [z,ne] at hp'; cases hp'),fun oe' vs' T' z1 z2 z3 z=>?_⟩
 rw [g1] at z1; cases z1
 rw [g3] at z2; cases z2
 rw [g4] at z3; cases z3
 rw [z,g5] at hp'
 cases hp'
def tMethS (C:Addr) (m:Str) (sp:Sp) (dvs:List V) (ET:St→XK) (ta:TE) (t:TA):TE:=fun σ H Q=>ta σ H fun x H1=>rMeth C m x H1 (t σ H1 fun vs H2=>sp (x::(vs++dvs)) H2 Q (ET σ))
section
variable {X:Cx} {CX:CXT} {k:Nat} {f C:Addr} {fd:FuncData} {ps:List Str} {sp:Sp} {dvs:List V} {ds:List Value} {ET:St→XK} {x m:Str} {p pos apos:Pos} {e o:Expr} {es:List Expr} {ta:TE} {t:TA}
theorem run_fnS {pins:List (Addr×Obj)} {σ:St} {H:Hp} {s:Shared} {Q:VK} {us:List Value} {vs:List V} (F:FnOk X.prog X.w X.K X.mg X.base CX k f fd ps sp) (hr:Room k X.A) (hb:Binds X.K fd ps ds) (hd:Vals dvs ds) (hx:PassesS CX X ET)
  (I:Inv X pins σ H s) (r:Vals vs us) (h:sp (vs++dvs) H Q (ET σ)):wpAny (model X.prog X.w) X.A (call (.ref f) us) (EP X pins σ Q) X.xe s:=by
 have r2:Vals (vs++dvs) (us++ds):=r.append hd
 have hl:(us++ds).length=ps.length:=by rw [← r2.length]; exact F.len _ _ _ _ h
 refine wpAny_call (codeAny_mono (F.run X.A X.stack s H ⟨us,[]⟩ (us++ds) (vs++dvs) Q (ET σ) hr I.env0 (hb s us I.kIn hl) r2 h) fun r s' hq=>?_)
 cases r with
 | error e=>exact hx pins σ H s e s' I hq
 | ok fl =>
  cases fl with
  | ret u => exact I.after hq
  | next => exact False.elim hq
  | brk => exact False.elim hq
  | cont => exact False.elim hq
theorem pe_methS {pl:Sem Bool} (he:PE X o ta) (c:Cls X.K C) (hm:Meth X.K C m f) (F:FnOk X.prog X.w X.K X.mg X.base CX k f fd ps sp) (hr:Room k X.A) (hb:Binds X.K fd ps ds) (hd:Vals dvs ds) (hx:PassesS CX X ET) (ha:PA X (e::es) t)
  (hst:starEach (e::es) X.env=(false,eval e X.env)::starEach es X.env:=by rfl) (hpl:(backTo pos (starEach es X.env)).any (·.1)=false:=by rfl)
  (ht:eval (.Call (.Attribute o m apos) (e::es) [] pos) X.env=(do
   let ov ← eval o X.env
   standAt apos.atName
   let (f,first) ← holding [ov] (getMethod ov m pl)
   callWith pos f first (backTo pos (starEach (e::es) X.env)) (backToKw pos (keywordEach [] X.env))):=by rfl) :
  PE X (.Call (.Attribute o m apos) (e::es) [] pos) (tMethS C m sp dvs ET ta t):=by
 intro pins s σ H Q I h
 refine PySem.W.methodCall_KW (pl:=pl) (thn (he pins s σ H _ I h) fun u s1 ⟨x,H1,I1,rx,a,dx,fs,ex,ea,l,q⟩=>?_) ht
 subst ex
 obtain rfl:u=Value.ref a:=rx
 refine getmeth_ok I1 ea c hm l ?_
 refine PySem.W.callWith_K (first:=[.ref a]) (h₀:=X.base) I.ok.mod.kin hm.kp (thn (ha pos pins s1 σ H1 _ I1 q) fun us s2 ⟨vs,H2,I2,r,q2⟩=>⟨I2.kIn,?_⟩) hst hpl
 exact run_fnS (us:=.ref a::us) (vs:=.ref a::vs) F hr hb hd hx I2 (.cons rfl r) q2
end
section
variable {σ:St} {H:Hp} {Q:VK}
theorem rd_methS {C:Addr} {m:Str} {sp:Sp} {dvs:List V} {ET:St→XK} {ta:TE} {t:TA} (h:ta σ H fun x H1=>rMeth C m x H1 (t σ H1 fun vs H2=>sp (x::(vs++dvs)) H2 Q (ET σ))):tMethS C m sp dvs ET ta t σ H Q:=h
end
abbrev Cx.suite (X:Cx) (e:Addr):Cx:={ X with A:=X.A.mark (some (.ref e)),calm:=false,xe:=fun _ _=>False }
section
variable {X:Cx} {pins:List (Addr×Obj)} {σ:St} {H:Hp} {s:Shared} {e:Addr}
theorem Cx.Ok.suite (ok:X.Ok):(X.suite e).Ok :=
 ⟨ok.mod,ok.kind,ok.glob,ok.blt,ok.above,ok.inj,ok.has,ok.cab,fun z=>Bool.noConfusion z,ok.frames,ok.stk,ok.exf,ok.bs,ok.bsz,ok.noex,ok.exfs,ok.funs,ok.frf⟩
theorem Inv.suite (I:Inv X pins σ H s):Inv (X.suite e) pins σ H s:=⟨I.ok.suite,I.os,I.bare,I.base,I.loc,I.cell,I.free,I.freeC,I.pin,I.hok,I.len⟩
theorem Inv.unsuite (ok:X.Ok) (I:Inv (X.suite e) pins σ H s):Inv X pins σ H s:=⟨ok,I.os,I.bare,I.base,I.loc,I.cell,I.free,I.freeC,I.pin,I.hok,I.len⟩
end
end L2
set_option Elab.async false
set_option maxRecDepth 100000
namespace L2
open PySem PySem.Spec PyProof.Rows
def Dh (i:Nat) (D:Ends):Ends:={ nx:=fun σ H=>D.nx (σ.set i none) H,rt:=D.rt,bk:=fun σ H=>D.bk (σ.set i none) H,ct:=fun σ H=>D.ct (σ.set i none) H }
def ETof (K:PySem.W.Frag) (S:Addr) (i:Nat) (ts:TS) (D:Ends):St→XK:=fun σ cls xo H1=>∃ C,cls=.ref C∧PySem.W.exmOne K (.ref C) (.ref S)=some true∧∀ e,H1 e=none→ts (Dh i D) (σ.set i (some (.ref e))) (upd H1 e (ExcX e C xo))
def tTry (K:PySem.W.Frag) (S:Addr) (i:Nat) (tb:(St→XK)→TS) (ts:TS):TS:=fun D σ H=>tb (ETof K S i ts D) D σ H
theorem gone_ok {X:Cx} {pins:List (Addr×Obj)} {σ:St} {H:Hp} {s:Shared} {M:Model} {A:Around} {E:Value→Shared→Prop} {i:Nat} {n:Str} {pos:Pos} {Q:Unit→Shared→Prop} (I:Inv X pins σ H s) (hN:X.N.Nodup) (hi:X.N[i]?=some n)
  (hk:X.env.kindOf n=some .local) (h:∀ s',Inv X pins (σ.set i none) H s'→Q () s'):wpAny M A (do bindName X.env n .none; unbindBehindTheSuite X.env n pos) Q E s:=by
 obtain ⟨m,hn,hl⟩:=id I.loc
 have hcls:(X.env.scope.kind==.class||(X.env.scope.kind==.module&&X.env.locals != X.env.globals))=false:=by rw [I.ok.kind]; rfl
 have cne:=I.cne
 refine wpAny_nameGoes_keeps hk hn hcls fun h' v hn' hs=>h _ ?_
 obtain ⟨oL,_,_,hoL,_⟩:=id hn
 have hk':HOk X.prog X.w H h':=fun b ob e=>by
  refine (I.hok b ob e).stay (fun c w' hc q=>(hs.2 c ?_).trans q) (fun _ q=>q) fun _ _ q=>q
  rintro rfl
  rcases hc with rfl | hc
  ·rw [I.free] at e; cases e
  ·rw [I.free] at hc; cases hc
 have nL:∀ b o,X.s₀.heap.get? b=some o→b≠X.env.locals:=fun b o e=>Nat.ne_of_lt (Nat.lt_of_lt_of_le (Heap.lt_size e) I.ok.above)
 refine ⟨I.ok,I.os,I.bare,⟨fun b o e n hb hx=>(hs.2 b (nL b o e)).trans (I.base.keep b o e n hb hx),fun b o e n hb hx=>?_,I.base.free,fun b o e hx=>?_,I.base.tups,I.base.frzs,I.base.tbls⟩,⟨_,hn',fun j y v' e1 e2 e3=>?_⟩,fun y c e=>?_,I.free,I.freeC,fun p hp=>?_,hk',by simpa using I.len⟩
 ·obtain ⟨sl,e1⟩:=I.base.slot b o e n hb hx
  exact ⟨sl,(hs.2 b (nL b o e)).trans e1⟩
 ·obtain ⟨o',e1⟩:=I.base.there b o e hx
  exact ⟨o',(hs.2 b (nL b o e)).trans e1⟩
 ·by_cases hj:j=i
  ·subst hj
   have hiσ:j<σ.length:=by rw [I.len]; exact (List.getElem?_eq_some_iff.mp hi).1
   rw [List.getElem?_set_self hiσ] at e2
   cases e2
  ·rw [List.getElem?_set_ne (Ne.symm hj)] at e2
   obtain ⟨u',r',q⟩:=hl j y v' e1 e2 e3
   refine ⟨u',r',?_⟩
   rcases q with ⟨k,e⟩ | ⟨k,c,e,z⟩
   ·refine .inl ⟨k,?_⟩
    have:y≠n:=fun e=>hj (nodup_ix hN e1 (e ▸ hi))
    simp [this,e]
   ·exact .inr ⟨k,c,e,z.sameBut hs (cne y c e)⟩
 ·obtain ⟨w',z⟩:=I.cell y c e
  exact ⟨w',z.sameBut hs (cne y c e)⟩
 ·obtain ⟨e,n,ne,nf,d⟩:=I.pin p hp
  exact ⟨(hs.2 p.1 ne).trans e,n,ne,nf,d⟩
theorem ps_try {X:Cx} {i:Nat} {n x:Str} {S:Addr} {body suite:List Stmt} {b₀:Stmt} {np hpos pos:Pos} {tb:(St→XK)→TS} {ts:TS} (hN:X.N.Nodup) (hi:X.N[i]?=some n) (hk:X.env.kindOf n=some .local)
  (hg:Gl X x) (hm:X.mg x=some (.ref S)) (hb:∀ pins ET,PSs (X.tryIn pins (XT X pins ET)) body (tb ET)) (hh:∀ e,PSs (X.suite e) (b₀::suite) ts)
  (hs:X.stack=X.env::X.outer:=by rfl) (hf:X.env.frame=some X.env.locals:=by rfl) (hd:(x==("__debug__":Str))=false:=by decide) :
  PS X (.Try body [.ExceptHandler (some (.Name x np)) (some n) (b₀::suite) hpos] [] [] pos) (tTry X.K S i tb ts):=by
 intro pins s σ H D I h
 refine wpAny_Try_except (wpAny_mono (hb pins (ETof X.K S i ts D) [] s σ H D (I.tryIn _) h) (fun f s1 q=>?_) (fun y s1 q=>?_))
 ·have q:=q.tryOut
  cases f with
  | next =>
   obtain ⟨σ',H',I',q'⟩:=q
   exact pss_nil pins s1 σ' H' D I' q'
  | brk => exact q
  | cont => exact q
  | ret u => exact q
 ·obtain ⟨σ1,e,C,xo,H1,rfl,I1,ex,hp,C',hC,hx',k⟩:=q
  cases hC
  obtain ⟨⟨oe,ws,T,oT,tl,g1,g2,g3,g4,g5,g6,g7,g8,g9⟩,ne,hHe,hHT,dc⟩:=ex
  have hHT:=hHT oe ws T g1 g3 g4
  obtain ⟨a0,h0⟩:∃ a0,ws[0]?=some a0:=by
   have hsz:1<ws.size:=(Array.getElem?_eq_some_iff.mp g4).1
   exact ⟨ws[0],by simp [show 0<ws.size by omega]⟩
  have ff:=I1.stack
  have hl:=PySem.W.funFrames_hide (as:=e::T::frs X.stack) ff (stack_in fun b hb=>List.mem_cons_of_mem _ (List.mem_cons_of_mem _ hb))
  have fl:Heap.FlyingW (PySem.W.hideAll s1.heap (e::T::frs X.stack)) (X.env::X.outer) e (.ref C) a0 s1.heap :=
   ⟨fun b o z=>PySem.W.of_hideAll _ z,PySem.W.hideAll_none _ List.mem_cons_self,hs ▸ hl,⟨oe,ws,T,oT,tl,g1,⟨g2,h0⟩,g3,g4,PySem.W.hideAll_none _ (List.mem_cons_of_mem _ List.mem_cons_self),g6,g7,g8,g9⟩⟩
  have stay:∀ h',Heap.StaysIn (PySem.W.hideAll s1.heap (e::T::frs X.stack)) h'→s1.heap.UpToSlots h'→Inv X pins σ1 H1 { s1 with heap:=h' }:=fun h' st sm=>by
   refine I1.held (es:=[e,T]) hs hf (fun b hb=>?_) (fun b o z nf nm=>st b o (PySem.W.hideAll_get _ z ?_)) fun b o z hb=>?_
   ·simp only [List.mem_cons,List.not_mem_nil,or_false] at hb
    rcases hb with rfl | rfl
    ·exact ⟨hHe,ne,fun p hq=>(hp p hq).1,oe,ws,g1,g3⟩
    ·exact ⟨hHT,g5,fun p hq=>(hp p hq).2 oe ws _ g1 g3 g4,oT,tl,g7,g8⟩
   ·intro m
    rcases List.mem_cons.mp m with r | m
    ·exact nm (by simp [r])
    ·rcases List.mem_cons.mp m with r | r
     ·exact nm (by simp [r])
     ·exact nf r
   ·obtain ⟨_,o',z',hd'⟩:=ff.mem hb
    rw [z] at z'; cases z'
    exact sm b o z hd'
  refine wpAny_mono (DS.any (ds_noteFrame _ _) (wpAny_looks_onW (Q:=fun _ s2=>∃ h4,s2={ s1 with heap:=h4 }∧Heap.HeldW (PySem.W.hideAll s1.heap (e::T::frs X.stack)) (X.env::X.outer) e (.ref C) a0 X.env.locals h4∧s1.heap.UpToSlots h4) (I1.ok.frames.trans (congrArg some hs)) hf fl fun h4 held sm4=>⟨h4,rfl,held,sm4⟩) ⟨oe,g1,rfl⟩) (fun _ s2 ⟨⟨h4,e4,held,sm4⟩,d4⟩=>?_) fun _ _ z=>z
  subst e4
  refine wpAny_mono (DS.any (ds_setFlight _ _) (wpAny_landsW (s:={ s1 with heap:=h4 }) (Q:=fun _ s2=>∃ h5,s2={ s1 with heap:=h5 }∧Heap.FlyingW (PySem.W.hideAll s1.heap (e::T::frs X.stack)) (X.env::X.outer) e (.ref C) a0 h5∧h4.UpToSlots h5) held fun h5 fl5 sm5=>⟨h5,rfl,fl5,sm5⟩) d4) (fun _ s2 ⟨⟨h5,e5,fl5,sm5⟩,d5⟩=>?_) fun _ _ z=>z
  subst e5
  have I5:=stay h5 fl5.1 (sm4.trans sm5)
  refine wpAny_handleBy_cons (codeAny_handlers_test (ld_glob (X:=X.suite e) I5.suite hg hm ?_ hd)) (by intro q; cases q)
  have LT:PySem.W.Looks (model X.prog X.w) h5 (typeOf (.ref e)) (.ref C):=ExcAt.looks fl5.there
  refine (PySem.W.exm_one (h:=h5) I5.kIn LT hx').here ?_
  refine codeAny_handlers_suite_as ?_
  refine wpAny_mono (DS.any (ds_setFlight _ _) (lands_againW (s:={ s1 with heap:=h5 }) (Q:=fun _ s2=>∃ h6,s2={ s1 with heap:=h6 }∧Heap.FlyingW (PySem.W.hideAll s1.heap (e::T::frs X.stack)) (X.env::X.outer) e (.ref C) a0 h6∧h5.UpToSlots h6) fl5 fun h6 fl6 sm6=>⟨h6,rfl,fl6,sm6⟩) d5) (fun _ s2 ⟨⟨h6,e6,fl6,sm6⟩,d6⟩=>?_) fun _ _ z=>z
  subst e6
  have I6:=stay h6 fl6.1 ((sm4.trans sm5).trans sm6)
  obtain ⟨oe6,ws6,z1,z2,z3,_⟩:=fl6.first
  have dc6:∀ dx,xo=some dx→oe6.dict=some dx:=fun dx z=>by
   obtain ⟨o,y1,y2⟩:=dc dx z
   rw [g1] at y1; cases y1
   obtain ⟨o,y3,y4⟩:=d6
   rw [show ({ s1 with heap:=h6 }:Shared).heap=h6 from rfl,z1] at y3; cases y3
   rw [y4,y2]
  have I7:Inv X pins σ1 (upd H1 e (ExcX e C xo)) { s1 with heap:=h6 }:=I6.track hHe ne (fun p hq=>(hp p hq).1) ⟨oe6,ws6,z1,z3⟩ ⟨oe6,ws6,z1,z2,z3,dc6⟩ fun ha hb ⟨o,vs,p1,p2⟩ kk=>⟨o,vs,kk o p1,p2⟩
  refine store_ok (X:=X.suite e) (v:=.ref e) I7.suite hN hi (.inl hk) rfl (fun s8 I8=>?_) (.inr hk)
  refine wpAny_mono (hh e pins s8 _ _ (Dh i D) I8 (k e hHe)) (fun f s9 q=>?_) fun _ _ z=>False.elim z
  show wpAny _ _ _ _ _ _
  cases f with
  | next =>
   obtain ⟨σ',H',I',q'⟩:=q
   exact gone_ok (I'.unsuite I.ok) hN hi hk fun s' J=>⟨_,H',J,q'⟩
  | brk =>
   obtain ⟨σ',H',I',q'⟩:=q
   exact gone_ok (I'.unsuite I.ok) hN hi hk fun s' J=>⟨_,H',J,q'⟩
  | cont =>
   obtain ⟨σ',H',I',q'⟩:=q
   exact gone_ok (I'.unsuite I.ok) hN hi hk fun s' J=>⟨_,H',J,q'⟩
  | ret u =>
   obtain ⟨v,σ',H',I',r,q'⟩:=q
   exact gone_ok (I'.unsuite I.ok) hN hi hk fun s' J=>⟨v,_,H',J,r,q'⟩
end L2
set_option Elab.async false
set_option maxRecDepth 100000
namespace L2
open PySem PySem.Spec PyProof.Rows
abbrev Cx.quiet (X:Cx):Cx:={ X with calm:=false }
section
variable {P:Program} {w:World} {K:PySem.W.Frag} {mg:Str→Option Value} {base:Heap}
end
section
variable {X:Cx} {k:Nat} {f C:Addr} {fd:FuncData} {ps:List Str} {sp:Sp} {dvs:List V} {ds:List Value} {x m:Str} {p pos apos:Pos} {e o:Expr} {es:List Expr} {ta:TE} {t:TA}
end
end L2
set_option Elab.async false
set_option maxRecDepth 100000
namespace L2
open PySem PySem.Spec PyProof.Rows
theorem exm_of {K:PySem.W.Frag} {A S:Addr} (bs:PySem.W.subIn K (.ref S) (.type "BaseException")=some true) (mo:PySem.W.mroIn K S (.type "object")=some true) (ty:PySem.W.typeIn K (.ref S)=some (.type "type"))
  (sb:PySem.W.subIn K (.ref A) (.ref S)=some true):PySem.W.exmOne K (.ref A) (.ref S)=some true:=by
 obtain ⟨cd,hc,_⟩:=Option.bind_eq_some_iff.mp mo
 simp only [PySem.W.exmOne,PySem.W.kitCls]
 simp [bs,hc,ty,sb]
theorem own_of {K:PySem.W.Frag} {h:Heap} {mg:Str→Option Value} {x:Str} {C:Addr} {bmB:List Value} {newId:String} (X:K.In h) (hm:mg x=some (.ref C)) (q:PySem.W.excIn K C bmB newId=true):OwnCls x C bmB newId mg h:=by
 refine ⟨hm,?_⟩
 simp only [PySem.W.excIn] at q
 split at q
 case h_2=>cases q
 case h_1 dd cd sl ho =>
  split at q
  case h_2=>cases q
  case h_1 C' bm k0 k1 k2 k3 n k5 hmr hsl =>
   simp only [Bool.and_eq_true,beq_iff_eq,Bool.not_eq_true'] at q
   obtain ⟨⟨⟨⟨⟨e1,e2⟩,hdel⟩,ht⟩,hok⟩,hni⟩:=q
   subst e1 e2
   have hh:=X _ _ ho
   obtain ⟨nm,bs,mro,ns,qn,hd,sn,sub,ab,col,del⟩:=cd
   simp only at hmr hdel hok hni
   subst hmr hdel
   obtain ⟨l⟩:=sl
   simp only at hsl
   subst hsl
   exact ⟨bm,ns,nm,qn,bs,hd,sn,sub,ab,col,dd,k0,k1,k2,k3,k5,_,hh,.of_isNs (PySem.W.isNs_of_in X hok),PySem.W.nsMap_none_of_in X hok hni,PySem.W.tail_of_in X ht⟩
theorem ps_raiseK {X:Cx} {E:XK} {x:Str} {C:Addr} {B newId initId:String} {bm:List Value} {np cpos pos:Pos} {e:Expr} {es:List Expr} {t:TA} (hm:X.mg x=some (.ref C)) (q:PySem.W.excIn X.K C bm newId=true) (FB:ExcBaseFacts B newId initId bm) (hc:X.calm=true) (hg:Gl X x)
  (hx:∀ (pins:List (Addr×Obj)) (σ:St) (H:Hp) (s:Shared) (h':Heap) (t':Nat) (e:Addr) (vs:List Value),Inv X pins σ H s→Heap.MadeExcOf s.heap h' e (.ref C) vs→E (.ref C) none H→X.xe (.ref e) { s with heap:=h',toks:=t' })
  (ha:PA X (e::es) t) (hd:(x==("__debug__":Str))=false:=by decide) (he:starEach (e::es) X.env=(false,eval e X.env)::starEach es X.env:=by rfl) (hpl:(backTo cpos (starEach es X.env)).any (·.1)=false:=by rfl) :
  PS X (.Raise (some (.Call (.Name x np) (e::es) [] cpos)) none pos) (tRaise C E t):=fun pins s σ H D I h =>
 ps_raise (own_of I.ok.mod.kin hm q) FB hc hg hx ha hd he hpl pins s σ H D I h
theorem rd_raise {C:Addr} {E:XK} {t:TA} {D:Ends} {σ:St} {H:Hp} (h:t σ H fun vs H1=>vs.length≤sizeLine∧E (.ref C) none H1):tRaise C E t D σ H:=h
section
variable {P:Program} {w:World} {K:PySem.W.Frag} {mg:Str→Option Value} {base:Heap}
theorem FnOk.down {k:Nat} {f:Addr} {fd:FuncData} {ps:List Str} {sp sp':Sp} (F:FnOk P w K mg base (CX1 P w) k f fd ps sp) (h:∀ vs H Q E,sp' vs H Q E→sp vs H Q (fun _ _ _=>False)):FnOk P w K mg base CX0 k f fd ps sp' :=
 ⟨fun vs H Q E q=>F.len vs H Q _ (h _ _ _ _ q),fun A outer s H args us vs Q E hr e0 hb hv hs=>codeAny_mono (F.run A outer s H args us vs Q _ hr e0 hb hv (h _ _ _ _ hs)) fun r s' hq=>by
  cases r with
  | error e => obtain ⟨_, _, _, _, _, _, _, _, _, _, z⟩ := hq; exact z.elim
  | ok fl => cases fl <;> exact hq⟩
end
theorem rd_try {K:PySem.W.Frag} {S:Addr} {i:Nat} {tb:(St→XK)→TS} {ts:TS} {D:Ends} {σ:St} {H:Hp} (h:tb (ETof K S i ts D) D σ H):tTry K S i tb ts D σ H:=h
end L2
set_option Elab.async false
set_option maxRecDepth 100000
namespace L2
open PySem PySem.Spec PyProof.Rows
theorem rd_cat {H:Hp} {Q:VK} {a b:Addr} {xs zs:List V} (ha:H a=some (.lst xs)) (hb:H b=some (.lst zs)) (z:xs.length+zs.length≤sizeLine) (q:∀ p,H p=none→Q (.ref p) (upd H p (.lst (xs++zs)))):rCat (.ref a) (.ref b) H Q :=
 ⟨a,b,xs,zs,rfl,rfl,ha,hb,z,q⟩
theorem repL_bools {H:Hp}:∀ (bs:List Bool),RepL H (bs.map PyData.bool) (bs.map V.bl)
 | []=>by simp only [List.map_nil,RepL]
 | n::r=>by
  simp only [List.map_cons,RepL,Rep]
  exact ⟨_,_,rfl,rfl,repL_bools r⟩
theorem rep_bools {H:Hp} {a:Addr} {bs:List Bool} (h:H a=some (.lst (bs.map V.bl))):Rep H (.list (bs.map PyData.bool)) (.ref a):=by
 simp only [Rep]
 exact ⟨a,_,rfl,h,repL_bools bs⟩
theorem eqv_bools:∀ ns ms:List Bool,PyData.eqvAll (ns.map PyData.bool) (ms.map PyData.bool)=decide (ns=ms)
 | [],[]=>by simp [PyData.eqvAll]
 | [],_::_=>by simp [PyData.eqvAll]
 | _::_,[]=>by simp [PyData.eqvAll]
 | a::r,b::u=>by
  simp only [List.map_cons,PyData.eqvAll,PyData.eqv,eqv_bools r u]
  by_cases h:a=b<;>by_cases h':r=u<;>simp [h,h']
theorem lay_bools:∀ bs:List Bool,PyData.canLayAll0 (bs.map PyData.bool)=true
 | []=>rfl
 | _::r=>by simp [PyData.canLayAll0,PyData.canLay0,lay_bools r]
theorem deep_bools:∀ bs:List Bool,PyData.depthAll (bs.map PyData.bool)=0
 | []=>rfl
 | _::r=>by simp [PyData.depthAll,PyData.depth,deep_bools r]
def SameBut (l:Addr) (H H':Hp):Prop:=∀ b o,H b=some o→b≠l→H' b=some o
section
variable {K:PySem.W.Frag} {σ:St} {H:Hp} {Q:VK} {te:TE} {cap:List (Option Nat)} {l:Addr}
end
def tJoin (t:TS):TS:=fun D σ H=>∃ J:St→Hp→Prop,t { D with nx:=J } σ H∧∀ σ' H',J σ' H'→D.nx σ' H'
theorem ps_join {X:Cx} {st:Stmt} {t:TS} (h:PS X st t):PS X st (tJoin t):=by
 intro pins s σ H D I ⟨J,h1,h2⟩
 refine wpAny_mono (h pins s σ H _ I h1) (fun f s' q=>?_) fun _ _ z=>z
 cases f with
 | next=>obtain ⟨σ',H',J',q⟩:=q; exact ⟨σ',H',J',h2 σ' H' q⟩
 | brk=>exact q
 | cont=>exact q
 | ret u=>exact q
theorem rd_join {t:TS} {D:Ends} {σ:St} {H:Hp} (J:St→Hp→Prop) (h1:t { D with nx:=J } σ H) (h2:∀ σ' H',J σ' H'→D.nx σ' H'):tJoin t D σ H:=⟨J,h1,h2⟩
end L2
set_option Elab.async false
set_option maxRecDepth 100000
namespace L2
open PySem PySem.Spec PyProof.Rows
section
variable {prog:Program} {w:World} {A:Around} {E:Value→Shared→Prop} {s:Shared}
theorem tupNext {I u:Addr} {k:Nat} {its:Array Value} {x:Value} {Q:Value→Shared→Prop} (hI:s.heap.IsTupleIter I u k) (hu:s.heap.IsTuple u its) (hx:its[k]?=some x)
  (hQ:∀ g,g.IsTupleIter I u (k+1)→Heap.SameBut I s.heap g→Q x { s with heap:=g }):wpAny (model prog w) A (Builtin.SmallTypes.nextOf (.ref I)) Q E s:=by
 obtain ⟨oI,eI,cI,dI⟩:=id hI
 obtain ⟨ou,eu,_,nu,du⟩:=hu
 unfold Builtin.SmallTypes.nextOf
 refine wpAny_bind (wpAny_callSpecial?_slot (name:=Str.ofString "__next__") hI.typeIs F.slot_tuple_iterator_next (wpAny_call_entry F.slot_tuple_iterator_next hI.typeIs F.entry_tuple_iterator_next ?_ (F.args_tuple_iterator_next_1 _)))
 show wpAny _ _ (field (.ref I) 0 >>= _) _ _ s
 refine wpAny_bind (wpAny_field eI dI (x:=.ref u) rfl ?_)
 show wpAny _ _ (if (Value.ref u==Value.none)=true then _ else _) _ _ s
 rw [if_neg (show ¬ ((Value.ref u==Value.none)=true) from Bool.false_ne_true)]
 show wpAny _ _ (field (.ref I) 1 >>= _) _ _ s
 refine wpAny_bind (wpAny_field eI dI (x:=.int k 0) rfl ?_)
 show wpAny _ _ (seqItems? (.ref u) >>= _) _ _ s
 refine wpAny_bind (wpAny_seqItems eu du ?_)
 rw [Int.toNat_natCast]; simp only [hx]
 refine wpAny_bind (wpAny_setField eI dI (by simp) (wpAny_pure ⟨x,rfl,wpAny_pure (hQ _ ?_ (Heap.SameBut.update ..))⟩))
 exact ⟨_,Heap.get?_update_self _ eI (Obj.isFreed_of_fields (Obj.data_mapFields dI _)),(Obj.cls_mapFields ..).trans cI,by rw [Obj.data_mapFields dI]; simp [rawInt]⟩
theorem tupStop {I u:Addr} {k:Nat} {its:Array Value} {Q:Value→Shared→Prop} (hd0:A.handled=none) (hI:s.heap.IsTupleIter I u k) (hu:s.heap.IsTuple u its) (hx:its[k]?=none)
  (hE:∀ g e,Heap.ExtBut I s.heap g→(∃ o,g.get? e=some o∧o.cls=.type "StopIteration")→E (.ref e) { s with heap:=g }):wpAny (model prog w) A (Builtin.SmallTypes.nextOf (.ref I)) Q E s:=by
 obtain ⟨oI,eI,cI,dI⟩:=id hI
 obtain ⟨ou,eu,_,nu,du⟩:=hu
 unfold Builtin.SmallTypes.nextOf
 refine wpAny_bind (wpAny_callSpecial?_slot (name:=Str.ofString "__next__") hI.typeIs F.slot_tuple_iterator_next (wpAny_call_entry F.slot_tuple_iterator_next hI.typeIs F.entry_tuple_iterator_next ?_ (F.args_tuple_iterator_next_1 _)))
 show wpAny _ _ (field (.ref I) 0 >>= _) _ _ s
 refine wpAny_bind (wpAny_field eI dI (x:=.ref u) rfl ?_)
 show wpAny _ _ (if (Value.ref u==Value.none)=true then _ else _) _ _ s
 rw [if_neg (show ¬ ((Value.ref u==Value.none)=true) from Bool.false_ne_true)]
 show wpAny _ _ (field (.ref I) 1 >>= _) _ _ s
 refine wpAny_bind (wpAny_field eI dI (x:=.int k 0) rfl ?_)
 show wpAny _ _ (seqItems? (.ref u) >>= _) _ _ s
 refine wpAny_bind (wpAny_seqItems eu du ?_)
 rw [Int.toNat_natCast]; simp only [hx]
 refine wpAny_bind (wpAny_rule (wpAny_bind (wpAny_setField eI dI (by simp) ?_)))
 show wpAny _ _ (newExc (.type "StopIteration") [] >>= _) _ _ _; refine wpAny_bind ?_
 simp only [newExc,newTuple]; refine wpAny_bind (wpAny_newObj_type ?_ (by size_fits))
 refine wpAny_bind (m:=firstArgMember _ _) (wpAny_of_eq (a:=Value.none) (by first | rfl | (simp only [firstArgMember]; rfl)) ?_); refine wpAny_newObj_type ?_ (by size_fits)
 simp only [raiseNew]; refine wpAny_bind (wpAny_handled ?_); rw [show A.in1.handled=none from hd0]
 refine wpAny_bind (wpAny_pure (wpAny_throw ?_)); exact hE _ _ (((Heap.SameBut.update ..).extBut.push _).push _) ⟨_,Heap.get?_push_size _ rfl,rfl⟩
theorem zipT_item {Z TI TO i j u v:Addr} {k l:Nat} {xs ys:Array Value} {x y a b:Value} {Q:Option Value→Shared→Prop} (D:ZipApart Z TI TO i j u v)
  (eZ:IsZip s.heap Z TI TO .none) (eI:IsPair s.heap TI (.ref i) (.ref j)) (eO:IsPair s.heap TO a b) (ei:s.heap.IsTupleIter i u k) (ej:s.heap.IsTupleIter j v l) (eu:s.heap.IsTuple u xs) (ev:s.heap.IsTuple v ys) (hx:xs[k]?=some x) (hy:ys[l]?=some y)
  (hQ:∀ g,IsZip g Z TI TO (rawInt s.heap.objs.size)→IsPair g TO x y→g.IsTupleIter i u (k+1)→g.IsTupleIter j v (l+1)→IsPair g s.heap.objs.size x y→g.objs.size=s.heap.objs.size+1 →
   (∀ c o,c≠Z→c≠TO→c≠i→c≠j→s.heap.get? c=some o→g.get? c=some o)→Q (some (.ref s.heap.objs.size)) { s with heap:=g }):wpAny (model prog w) A (pyNext (.ref Z)) Q E s:=by
 have hT:s.TypeIs (.ref Z) "zip":=⟨_,eZ,rfl⟩
 unfold pyNext
 refine wpAny_bind (wpAny_attempt (wpAny_callSpecial?_slot (name:=Str.ofString "__next__") hT F.slot_zip_next (wpAny_call_entry F.slot_zip_next hT F.entry_zip_next ?_ (F.args_zip_next_1 _))))
 show wpAny _ _ (field (.ref Z) 2 >>= _) _ _ _
 refine wpAny_bind (wpAny_field eZ rfl (x:=.bool false) rfl ?_)
 show wpAny _ _ (field (.ref Z) 3 >>= _) _ _ _
 refine wpAny_bind (wpAny_field eZ rfl (x:=.ref TI) rfl ?_); refine wpAny_bind (wpAny_seqItems eI rfl ?_)
 show wpAny _ _ (Builtin.SmallTypes.ownedTupleIsFree (.ref Z) >>= _) _ _ _
 refine wpAny_bind ?_; unfold Builtin.SmallTypes.ownedTupleIsFree
 refine wpAny_bind (wpAny_field eZ rfl (x:=.none) rfl (wpAny_pure ?_)); simp only [if_true]
 refine wpAny_bind (wpAny_rule ?_); refine wpAny_bind (wpAny_field eZ rfl (x:=.ref TO) rfl ?_)
 refine wpAny_bind (wpAny_setField_rec eZ (by simp) fun g1 z1 t1=>?_)
 replace z1:IsZip g1 Z TI TO .ellipsis:=z1
 refine wpAny_bind ?_; simp only [List.zipIdx_cons,List.zipIdx_nil,List.forIn_cons,List.forIn_nil]; refine wpAny_bind (wpAny_bind (wpAny_onRaise ?_))
 show wpAny _ _ (Builtin.SmallTypes.nextOf (.ref i) >>= _) _ _ _
 refine wpAny_bind (tupNext (ei.extBut t1.extBut D.i1z) (eu.extBut t1.extBut D.l1z) hx fun g2 i2 t2=>wpAny_pure ?_)
 have o2:IsPair g2 TO a b:=t2.extBut _ _ D.TOi1 (t1.extBut _ _ D.TOz eO)
 refine wpAny_bind (wpAny_seqItems o2 rfl ?_); refine wpAny_bind (wpAny_updateSeq_pair o2 fun g3 o3 t3=>?_)
 replace o3:IsPair g3 TO x b:=o3
 refine wpAny_bind (wpAny_letGo (wpAny_pure ?_)); refine wpAny_bind (wpAny_bind (wpAny_onRaise ?_))
 show wpAny _ _ (Builtin.SmallTypes.nextOf (.ref j) >>= _) _ _ _
 refine wpAny_bind (tupNext (((ej.extBut t1.extBut D.i2z).extBut t2.extBut D.i12.symm).extBut t3.extBut D.TOi2.symm) (((ev.extBut t1.extBut D.l2z).extBut t2.extBut D.l2i1).extBut t3.extBut D.l2TO) hy fun g4 j4 t4=>wpAny_pure ?_)
 have o4:IsPair g4 TO x b:=t4.extBut _ _ D.TOi2 o3
 refine wpAny_bind (wpAny_seqItems o4 rfl ?_); refine wpAny_bind (wpAny_updateSeq_pair o4 fun g5 o5 t5=>?_)
 replace o5:IsPair g5 TO x y:=o5
 refine wpAny_bind (wpAny_letGo (wpAny_pure (wpAny_pure ?_))); refine wpAny_bind (wpAny_seqItems o5 rfl ?_); refine wpAny_bind (wpAny_newTuple ?_)
 have sz:g5.objs.size=s.heap.objs.size:=by rw [t5.1,t4.1,t3.1,t2.1,t1.1]
 have z5:IsZip g5 Z TI TO .ellipsis:=t5.extBut _ _ D.TOz.symm (t4.extBut _ _ D.i2z.symm (t3.extBut _ _ D.TOz.symm (t2.extBut _ _ D.i1z.symm z1)))
 have k5:∀ c o,c≠Z→c≠TO→c≠i→c≠j→s.heap.get? c=some o→g5.get? c=some o:=fun c o c1 c2 c3 c4 q=>t5.extBut _ _ c2 (t4.extBut _ _ c4 (t3.extBut _ _ c2 (t2.extBut _ _ c3 (t1.extBut _ _ c1 q))))
 have i5:g5.IsTupleIter i u (k+1):=((i2.extBut t3.extBut D.TOi1.symm).extBut t4.extBut D.i12).extBut t5.extBut D.TOi1.symm
 have j5:g5.IsTupleIter j v (l+1):=j4.extBut t5.extBut D.TOi2.symm
 have lz:Z<g5.objs.size:=Heap.lt_size z5
 show wpAny _ _ (Builtin.SmallTypes.ownedTupleHandOut (.ref Z) (.ref g5.objs.size) >>= _) _ _ _
 refine wpAny_bind ?_; unfold Builtin.SmallTypes.ownedTupleHandOut
 have z6:IsZip (g5.push { cls:=.type "tuple",data:=.seq #[x,y] }) Z TI TO .ellipsis:=Heap.get?_push_of_some _ z5
 refine wpAny_bind (wpAny_setField_rec z6 (by simp) fun g7 z7 t7=>?_)
 replace z7:IsZip g7 Z TI TO (rawInt g5.objs.size):=z7
 refine wpAny_setField_rec z7 (by simp) fun g8 z8 t8=>?_
 replace z8:IsZip g8 Z TI TO (rawInt g5.objs.size):=z8
 have up:∀ c o,c≠Z→g5.get? c=some o→g8.get? c=some o:=fun c o c1 q=>t8.extBut _ _ c1 (t7.extBut _ _ c1 (Heap.get?_push_of_some _ q))
 have n8:IsPair g8 g5.objs.size x y:=t8.extBut _ _ (Nat.ne_of_gt lz) (t7.extBut _ _ (Nat.ne_of_gt lz) (Heap.get?_push_size _ rfl))
 have s8:g8.objs.size=g5.objs.size+1:=by rw [t8.1,t7.1,Heap.size_push]
 rw [sz] at z8 n8 s8
 refine wpAny_pure ⟨_,rfl,wpAny_pure ?_⟩
 rw [sz]
 obtain ⟨oi,qi⟩:=i5
 obtain ⟨oj,qj⟩:=j5
 exact hQ g8 z8 (up _ _ D.TOz o5) ⟨oi,up _ _ D.i1z qi.1,qi.2⟩ ⟨oj,up _ _ D.i2z qj.1,qj.2⟩ n8 s8 fun c o c1 c2 c3 c4 q=>up c o c1 (k5 c o c1 c2 c3 c4 q)
theorem zipT_end {Z TI TO i j u v:Addr} {k:Nat} {xs:Array Value} {Q:Option Value→Shared→Prop} (hd0:A.handled=none) (D:ZipApart Z TI TO i j u v)
    (eZ:IsZip s.heap Z TI TO .none) (eI:IsPair s.heap TI (.ref i) (.ref j)) (ei:s.heap.IsTupleIter i u k) (eu:s.heap.IsTuple u xs) (hx:xs[k]?=none)
    (hQ:∀ g,(∀ c o,c≠Z→c≠TO→c≠i→c≠j→s.heap.get? c=some o→g.get? c=some o)→Q none { s with heap:=g }):wpAny (model prog w) A (pyNext (.ref Z)) Q E s:=by
  have hT:s.TypeIs (.ref Z) "zip":=⟨_,eZ,rfl⟩
  have body:∀ (E':Value→Shared→Prop) (Q':Fin→Shared→Prop),(∀ g e,(∀ c o,c≠Z→c≠TO→c≠i→c≠j→s.heap.get? c=some o→g.get? c=some o)→(∃ o,g.get? e=some o∧o.cls=.type "StopIteration")→E' (.ref e) { s with heap:=g }) →
      wpAny (model prog w) A.in1 (Builtin.«zip.__next__» ⟨[.ref Z],[]⟩) Q' E' s:=fun E' Q' hE=>by
    show wpAny _ _ (field (.ref Z) 2 >>= _) _ _ _
    refine wpAny_bind (wpAny_field eZ rfl (x:=.bool false) rfl ?_)
    show wpAny _ _ (field (.ref Z) 3 >>= _) _ _ _
    refine wpAny_bind (wpAny_field eZ rfl (x:=.ref TI) rfl ?_); refine wpAny_bind (wpAny_seqItems eI rfl ?_)
    show wpAny _ _ (Builtin.SmallTypes.ownedTupleIsFree (.ref Z) >>= _) _ _ _
    refine wpAny_bind ?_; unfold Builtin.SmallTypes.ownedTupleIsFree
    refine wpAny_bind (wpAny_field eZ rfl (x:=.none) rfl (wpAny_pure ?_)); simp only [if_true]
    refine wpAny_bind (wpAny_rule ?_); refine wpAny_bind (wpAny_field eZ rfl (x:=.ref TO) rfl ?_)
    refine wpAny_bind (wpAny_setField_rec eZ (by simp) fun g1 z1 t1=>?_)
    replace z1:IsZip g1 Z TI TO .ellipsis:=z1
    refine wpAny_bind ?_; simp only [List.zipIdx_cons,List.zipIdx_nil,List.forIn_cons,List.forIn_nil]; refine wpAny_bind (wpAny_bind (wpAny_onRaise ?_))
    show wpAny _ _ (Builtin.SmallTypes.nextOf (.ref i) >>= _) _ _ _
    refine wpAny_bind (tupStop hd0 (ei.extBut t1.extBut D.i1z) (eu.extBut t1.extBut D.l1z) hx fun g2 e t2 he=>?_)
    obtain ⟨oe,q1,q2⟩:=he
    have z2:IsZip g2 Z TI TO .ellipsis:=t2 _ _ D.i1z.symm z1
    have ne:e≠Z:=fun q=>by subst q; rw [z2] at q1; cases q1; simp at q2
    refine wpAny_setField_rec z2 (by simp) fun g3 _ t3=>hE g3 e (fun c o c1 _ c3 _ q=>t3.extBut _ _ c1 (t2 _ _ c3 (t1.extBut _ _ c1 q))) ⟨oe,t3.extBut _ _ ne q1,q2⟩
  unfold pyNext
  refine wpAny_bind (wpAny_attempt (wpAny_callSpecial?_slot (name:=Str.ofString "__next__") hT F.slot_zip_next (wpAny_call_entry F.slot_zip_next hT F.entry_zip_next (body _ _ fun g e hk he=>?_) (F.args_zip_next_1 _))))
  obtain ⟨o,q1,q2⟩:=he
  exact wpAny_bind (wpAny_isInstance (T:="StopIteration") (b:=true) ⟨o,q1,q2⟩ isSubtype_stop (wpAny_pure (hQ _ hk)))
end
end L2
set_option Elab.async false
set_option maxRecDepth 100000
namespace L2
open PySem PySem.Spec PyProof.Rows
theorem istup {h:Heap} {a:Addr} {its:Array Value} (p:IsTup h a its):h.IsTuple a its:=p
def Itzt (K:PySem.W.Frag) (a b:Addr):It :=
  ⟨fun i H=>∃ xs ys x y,SqT K H a xs∧SqT K H b ys∧xs[i]?=some x∧ys[i]?=some y,
   fun i H v H'=>∃ T,v=.ref T∧H T=none∧∀ xs ys,SqT K H a xs→SqT K H b ys→∃ x y,xs[i]?=some x∧ys[i]?=some y∧H'=upd H T (.tup [x,y]),
   fun i H=>∃ xs ys,SqT K H a xs∧SqT K H b ys∧xs.length≤i⟩
theorem turn_zipT {P:Program} {w:World} {K:PySem.W.Frag} {elts:List Expr} {kt:Nat} {pt:Pos} {a b n:Addr} (ha:a<n) (hb:b<n) :
    Turn P w K (.Tuple elts kt pt) (Itzt K a b) [n+4,n+2,n+3,n,n+1] (n+4) (fun i h=>IsZip h (n+4) (n+2) (n+3) .none∧IsPair h (n+2) (.ref n) (.ref (n+1))∧(∃ x y,IsPair h (n+3) x y)∧h.IsTupleIter n a i∧h.IsTupleIter (n+1) b i) where
  mem:=by simp
  obj:=fun i h st c hc=>by
    obtain ⟨z1,z2,⟨x,y,z3⟩,⟨o4,e4,c4,d4⟩,⟨o5,e5,c5,d5⟩⟩:=st
    simp only [List.mem_cons,List.not_mem_nil,or_false] at hc
    rcases hc with rfl | rfl | rfl | rfl | rfl
    · exact ⟨_,z1,fun v z=>by cases z⟩
    · exact ⟨_,z2,fun v z=>by cases z⟩
    · exact ⟨_,z3,fun v z=>by cases z⟩
    · exact ⟨_,e4,fun v z=>by rw [d4] at z; cases z⟩
    · exact ⟨_,e5,fun v z=>by rw [d5] at z; cases z⟩
  keep:=fun i h h' st k=>by
    obtain ⟨z1,z2,⟨x,y,z3⟩,z4,z5⟩:=st
    exact ⟨k _ (by simp) _ z1,k _ (by simp) _ z2,⟨x,y,k _ (by simp) _ z3⟩,z4.at fun o e=>k _ (by simp) o e,z5.at fun o e=>k _ (by simp) o e⟩
  item:=by
    intro X hP hw hK hc i pins s σ H E I hf st hg
    subst hP hw hK
    obtain ⟨xs,ys,x,y,hqa,hqb,hx,hy⟩:=hg
    obtain ⟨its,rv,p,hz⟩:=I.tuple hqa
    obtain ⟨jts,rw',p',hz'⟩:=I.tuple hqb
    obtain ⟨u,hu,ru⟩:=rv.get hx
    obtain ⟨u',hu',ru'⟩:=rw'.get hy
    obtain ⟨z1,z2,⟨x0,y0,z3⟩,z4,z5⟩:=st
    have D:ZipApart (n+4) (n+2) (n+3) n (n+1) a b:=PyProof.Rows.zipApart_new ha hb
    have ltz:n+4<s.heap.objs.size:=Heap.lt_size z1
    refine zipT_item D z1 z2 z3 z4 z5 (istup p) (istup p') (x:=u) (y:=u') (by simpa using hu) (by simpa using hu') fun h' a1 a2 a3 a4 a5 a6 hk=>?_
    refine ⟨_,rfl,wpAny_letOwnedTupleGo_zip (s:={ s with heap:=h' }) a1 fun h2 b1 hs=>?_⟩
    have neT:∀ {c:Addr},c≤n+4→c≠s.heap.objs.size:=fun h=>Nat.ne_of_lt (Nat.lt_of_le_of_lt h ltz)
    have kk:∀ c o,c∉[n+4,n+3,n,n+1]→s.heap.get? c=some o→h2.get? c=some o:=fun c o hc e=>by
      simp only [List.mem_cons,List.not_mem_nil,or_false,not_or] at hc
      exact (hs.2 c hc.1).trans (hk c o hc.1 hc.2.1 hc.2.2.1 hc.2.2.2 e)
    have q2:h2.get? (n+2)=_:=kk _ _ (by simp only [List.mem_cons,List.not_mem_nil,or_false,not_or]; exact ⟨D.TIz,D.TITO,D.TIi1,D.TIi2⟩) z2
    have q3:h2.get? (n+3)=_:=(hs.2 _ D.TOz).trans a2
    obtain ⟨o4,e4,c4⟩:=a3
    obtain ⟨o5,e5,c5⟩:=a4
    have q4:h2.get? n=_:=(hs.2 _ D.i1z).trans e4
    have q5:h2.get? (n+1)=_:=(hs.2 _ D.i2z).trans e5
    have qT:h2.get? s.heap.objs.size=_:=(hs.2 _ (Ne.symm (neT (Nat.le_refl _)))).trans a5
    have sub:∀ c∈[n+4,n+3,n,n+1],c∈[n+4,n+2,n+3,n,n+1]:=fun c hc=>by
      simp only [List.mem_cons,List.not_mem_nil,or_false] at hc ⊢
      rcases hc with e | e | e | e
      · exact .inl e
      · exact .inr (.inr (.inl e))
      · exact .inr (.inr (.inr (.inl e)))
      · exact .inr (.inr (.inr (.inr e)))
    have I1:Inv X pins σ (upd H s.heap.objs.size (.tup [x,y])) { s with heap:=h2,toks:=s.toks }:=I.turnedL (ch:=[n+4,n+3,n,n+1]) kk (fun c hc=>hf c (sub c hc)) (fun c hc=>by
        simp only [List.mem_cons,List.not_mem_nil,or_false] at hc
        rcases hc with rfl | rfl | rfl | rfl
        · exact ⟨_,b1⟩
        · exact ⟨_,q3⟩
        · exact ⟨_,q4⟩
        · exact ⟨_,q5⟩) (Nat.le_refl _) ⟨by show 2≤sizeLine; decide,[u,u'],.cons ru (.cons ru' .nil),_,qT,rfl,_,rfl⟩
    refine ⟨.ref s.heap.objs.size,_,I1,rfl,⟨_,rfl,I.hok.fresh (Nat.le_refl _),fun vs ws hv hw=>?_⟩,⟨b1,q2,⟨_,_,q3⟩,⟨_,q4,c4⟩,⟨_,q5,c5⟩⟩,fun c hc=>?_⟩
    · rw [I.tuple_inj hv hqa,I.tuple_inj hw hqb]
      exact ⟨x,y,hx,hy,rfl⟩
    · have hle:c≤n+4:=by
        simp only [List.mem_cons,List.not_mem_nil,or_false] at hc
        rcases hc with rfl | rfl | rfl | rfl | rfl
        · exact Nat.le_refl _
        · exact Nat.le_add_right (n+2) 2
        · exact Nat.le_add_right (n+3) 1
        · exact Nat.le_add_right _ 4
        · exact Nat.le_add_right (n+1) 3
      rw [upd_ne (neT hle)]
      exact (hf c hc).1
  done:=by
    intro X hP hw hK hc i pins s σ H E I hf st hg
    subst hP hw hK
    obtain ⟨xs,ys,hqa,hqb,hl⟩:=hg
    obtain ⟨its,rv,p,hz⟩:=I.tuple hqa
    obtain ⟨jts,rw',p',hz'⟩:=I.tuple hqb
    obtain ⟨z1,z2,⟨x0,y0,z3⟩,z4,z5⟩:=st
    have D:ZipApart (n+4) (n+2) (n+3) n (n+1) a b:=PyProof.Rows.zipApart_new ha hb
    have l1:=rv.length
    have l2:=rw'.length
    refine zipT_end (I.ok.hd hc) D z1 z2 z4 (istup p) ?_ fun h' hk=>⟨rfl,?_⟩
    · simp; omega
    · have fp:∀ c∈[n+4,n+3,n,n+1],FpOk X pins H c:=fun c hc=>hf c (by
        simp only [List.mem_cons,List.not_mem_nil,or_false] at hc ⊢
        rcases hc with e | e | e | e
        · exact .inl e
        · exact .inr (.inr (.inl e))
        · exact .inr (.inr (.inr (.inl e)))
        · exact .inr (.inr (.inr (.inr e))))
      have kk:∀ c o,c∉[n+4,n+3,n,n+1]→s.heap.get? c=some o→h'.get? c=some o:=fun c o hc e=>by
        simp only [List.mem_cons,List.not_mem_nil,or_false,not_or] at hc
        exact hk c o hc.1 hc.2.1 hc.2.2.1 hc.2.2.2 e
      have nit:∀ c u,H c=some u→c∉[n+4,n+3,n,n+1]:=fun c u e z=>by rw [(fp c z).1] at e; cases e
      refine I.step (g':=s.gens) (d':=s.drawn) (t':=s.toks) (ch:=[n+4,n+3,n,n+1]) (fun c hc=>⟨(fp c hc).2.2.2.1,(fp c hc).2.1,(fp c hc).2.2.2.2.1,(fp c hc).2.2.2.2.2⟩) (fun c o _ _ hc e _=>kk c o hc e) (fun c o _ _ hc e _=>⟨o.slots,kk c o hc e⟩) (fun _ _ _ _ n=>n)
        (fun c o hc e=>⟨o,kk c o hc e⟩) (fun _ _ e=>e) (fun _ _ _ e=>e) (fun _ ps e=>⟨#[],by rw [e]; simp⟩) (fun m hm=>?_) (fun c u e=>?_) I.bare
      · obtain ⟨ob,es,ep,ho,r⟩:=hm
        exact ⟨ob,es,ep,kk _ ob (fun z=>(fp _ z).2.1 rfl) ho,r⟩
      · refine (I.hok c u e).stay (fun d v hd q=>kk d v ?_ q) (fun _ e'=>e') fun _ _ e'=>e'
        rcases hd with z | z
        · rw [z]; exact nit c u e
        · exact nit d _ z
  self:=fun _ _ _ _ _ st h=>wpAny_pyIter_zip st.1 h
section
variable {prog:Program} {w:World} {A:Around} {E:Value→Shared→Prop} {s:Shared}
abbrev zT1 (h:Heap) (u:Addr):Heap:=h.push { cls:=.type "tuple_iterator",data:=.fields #[.ref u,.int 0 0] }
abbrev zT2 (h:Heap) (u v:Addr):Heap:=(zT1 h u).push { cls:=.type "tuple_iterator",data:=.fields #[.ref v,.int 0 0] }
abbrev zT3 (h:Heap) (u v:Addr):Heap:=(zT2 h u v).push { cls:=.type "tuple",data:=.seq #[.ref h.objs.size,.ref (zT1 h u).objs.size] }
abbrev zT4 (h:Heap) (u v:Addr):Heap:=(zT3 h u v).push { cls:=.type "tuple",data:=.seq #[.none,.none] }
abbrev zT5 (h:Heap) (u v:Addr):Heap:=(zT4 h u v).push { cls:=.type "zip",data:=.fields #[.none,.bool false,.bool false,.ref (zT2 h u v).objs.size,.ref (zT3 h u v).objs.size] }
theorem zipT_new (u v:Addr) (xs ys:Array Value):Meets (Builtin.«zip.__new__» ⟨[.type "zip",.ref u,.ref v],[]⟩) (fun _ R s=>s.heap.IsTuple u xs∧s.heap.IsTuple v ys∧R (.ok (.ret (.ref (zT4 s.heap u v).objs.size))) { s with heap:=zT5 s.heap u v }) :=
 .of_wp fun prog w A R s h=>by
  obtain ⟨hp,g,d,tk,os⟩:=s; obtain ⟨t1,t2,q⟩:=h
  have sz:=sub_zip
  have L1:Heap.IsTuple (Shared.heap ⟨hp,g,d,tk,os⟩) u xs:=t1
  have L2:Heap.IsTuple (Shared.heap ⟨hp.push { cls:=.type "tuple_iterator",data:=.fields #[.ref u,.int 0 0] },g,d,tk,os⟩) v ys:=Heap.IsTuple.push t2 _
  wp_walk using wpAny_pyIter_tuple L1,wpAny_pyIter_tuple L2
  exact ⟨_,rfl,q⟩
theorem zipT_call {u v:Addr} {xs ys:Array Value} {Q:Value→Shared→Prop} (t1:s.heap.IsTuple u xs) (t2:s.heap.IsTuple v ys)
  (q:∀ g,IsZip g (s.heap.objs.size+4) (s.heap.objs.size+2) (s.heap.objs.size+3) .none→IsPair g (s.heap.objs.size+2) (.ref s.heap.objs.size) (.ref (s.heap.objs.size+1))→IsPair g (s.heap.objs.size+3) .none .none →
   g.IsTupleIter s.heap.objs.size u 0→g.IsTupleIter (s.heap.objs.size+1) v 0→(∀ c o,s.heap.get? c=some o→g.get? c=some o)→Q (.ref (s.heap.objs.size+4)) { s with heap:=g }) :
  wpAny (model prog w) A (call (.type "zip") [.ref u,.ref v]) Q E s:=by
 refine callType_new F.called_zip (by decide) (F.typeCall_zip_2 _ _) (F.newCall_zip_2 _ _) (fun obj=>F.args_object_init_3 obj _ _) F.entry_zip_new (zipT_new u v xs ys) ⟨t1,t2,?_⟩
 have y1:(zT1 s.heap u).objs.size=s.heap.objs.size+1:=Heap.size_push ..
 have y2:(zT2 s.heap u v).objs.size=s.heap.objs.size+2:=by rw [Heap.size_push,y1]
 have y3:(zT3 s.heap u v).objs.size=s.heap.objs.size+3:=by rw [Heap.size_push,y2]
 have y4:(zT4 s.heap u v).objs.size=s.heap.objs.size+4:=by rw [Heap.size_push,y3]
 have k5:(zT5 s.heap u v).get? (zT4 s.heap u v).objs.size=some _:=Heap.get?_push_size _ rfl
 have k4:(zT5 s.heap u v).get? (zT3 s.heap u v).objs.size=some _:=Heap.get?_push_of_some _ (Heap.get?_push_size _ rfl)
 have k3:(zT5 s.heap u v).get? (zT2 s.heap u v).objs.size=some _:=Heap.get?_push_of_some _ (Heap.get?_push_of_some _ (Heap.get?_push_size _ rfl))
 have k2:(zT5 s.heap u v).get? (zT1 s.heap u).objs.size=some _:=Heap.get?_push_of_some _ (Heap.get?_push_of_some _ (Heap.get?_push_of_some _ (Heap.get?_push_size _ rfl)))
 have k1:(zT5 s.heap u v).get? s.heap.objs.size=some _:=Heap.get?_push_of_some _ (Heap.get?_push_of_some _ (Heap.get?_push_of_some _ (Heap.get?_push_of_some _ (Heap.get?_push_size _ rfl))))
 show _∧_
 rw [y2,y3,y4] at k5
 rw [y1,y2] at k3
 rw [y3] at k4
 rw [y1] at k2
 refine ⟨by rw [y4]; exact ⟨_,k5,rfl⟩,?_⟩
 rw [y4]
 exact q _ k5 k3 k4 ⟨_,k1,rfl,rfl⟩ ⟨_,k2,rfl,rfl⟩ fun c o z=>Heap.get?_push_of_some _ (Heap.get?_push_of_some _ (Heap.get?_push_of_some _ (Heap.get?_push_of_some _ (Heap.get?_push_of_some _ z))))
end
section
variable {X:Cx} {elts:List Expr} {kt:Nat} {pt:Pos}
def iZipS (K:PySem.W.Frag) (ta:TA):TI:=fun σ H R=>ta σ H fun vs H1=>∃ a b,vs=[.ref a,.ref b]∧(((∃ xs,SqL K H1 a xs)∧(∃ ys,SqL K H1 b ys)∧R (Itz K a b) H1)∨((∃ xs,SqT K H1 a xs)∧(∃ ys,SqT K H1 b ys)∧R (Itzt K a b) H1))
theorem pi_zipS {a b:Expr} {ta:TA} {p pos:Pos} (hg:Gl X "zip") (hm:X.mg "zip"=none) (ha:PA X [a,b] ta) (hs:starEach [a,b] X.env=[(false,eval a X.env),(false,eval b X.env)]:=by rfl) (hs2:starEach [b] X.env=[(false,eval b X.env)]:=by rfl) :
  PI X (.Tuple elts kt pt) (.Call (.Name "zip" p) [a,b] [] pos) (iZipS X.K ta):=by
 intro pins s σ H R I h
 refine Call_ (ld_blt I hg hm (by rfl:bootBuiltins "zip"=some (.type "zip")) (PyProof.Rows.callWith_type1 (thn (ha pos pins s σ H _ I h) fun us s1 ⟨vs,H1,I1,r1,q1⟩=>?_) (by rw [hs,hs2]) (by rw [hs2]; rfl)))
 obtain ⟨a,b,e,q⟩:=q1
 subst e
 obtain ⟨u,v,rfl,ru,rv⟩:=r1.two
 cases (show u=Value.ref a from ru)
 cases (show v=Value.ref b from rv)
 rcases q with ⟨⟨xs,ha⟩,⟨ys,hb⟩,q⟩ | ⟨⟨xs,ha⟩,⟨ys,hb⟩,q⟩
 ·obtain ⟨its,_,p1,_⟩:=I1.list ha
  obtain ⟨jts,_,p2,_⟩:=I1.list hb
  have l1:a<s1.heap.objs.size:=let ⟨o,ho,_⟩:=p1.isList; Heap.lt_size ho
  have l2:b<s1.heap.objs.size:=let ⟨o,ho,_⟩:=p2.isList; Heap.lt_size ho
  refine call_zip_2 p1.isList p2.isList fun h' hz hTI hTO h1 h2 hsz hk=>wpAny_pyIter_zip (s:={ s1 with heap:=h' }) hz ?_
  refine ⟨s1.heap.objs.size+4,_,_,_,H1,rfl,I1.kept (t':=s1.toks) hk,turn_zip l1 l2,⟨hz,hTI,⟨_,_,hTO⟩,h1,h2⟩,fun c hc=>?_,q⟩
  have hle:s1.heap.objs.size≤c:=by
   simp only [List.mem_cons,List.not_mem_nil,or_false] at hc
   rcases hc with rfl | rfl | rfl | rfl | rfl
   ·exact Nat.le_add_right _ _
   ·exact Nat.le_add_right _ _
   ·exact Nat.le_add_right _ _
   ·exact Nat.le_refl _
   ·exact Nat.le_add_right _ _
  exact I1.fpOk hle (I1.hok.fresh hle)
 ·obtain ⟨its,_,p1,_⟩:=I1.tuple ha
  obtain ⟨jts,_,p2,_⟩:=I1.tuple hb
  have l1:a<s1.heap.objs.size:=let ⟨o,ho,_⟩:=istup p1; Heap.lt_size ho
  have l2:b<s1.heap.objs.size:=let ⟨o,ho,_⟩:=istup p2; Heap.lt_size ho
  refine zipT_call (istup p1) (istup p2) fun h' hz hTI hTO h1 h2 hk=>wpAny_pyIter_zip (s:={ s1 with heap:=h' }) hz ?_
  refine ⟨s1.heap.objs.size+4,_,_,_,H1,rfl,I1.kept (t':=s1.toks) hk,turn_zipT l1 l2,⟨hz,hTI,⟨_,_,hTO⟩,h1,h2⟩,fun c hc=>?_,q⟩
  have hle:s1.heap.objs.size≤c:=by
   simp only [List.mem_cons,List.not_mem_nil,or_false] at hc
   rcases hc with rfl | rfl | rfl | rfl | rfl
   ·exact Nat.le_add_right _ _
   ·exact Nat.le_add_right _ _
   ·exact Nat.le_add_right _ _
   ·exact Nat.le_refl _
   ·exact Nat.le_add_right _ _
  exact I1.fpOk hle (I1.hok.fresh hle)
end
theorem rd_izipS {K:PySem.W.Frag} {σ:St} {H:Hp} {ta:TA} {R:It→Hp→Prop} (h:ta σ H fun vs H1=>∃ a b,vs=[.ref a,.ref b]∧(((∃ xs,SqL K H1 a xs)∧(∃ ys,SqL K H1 b ys)∧R (Itz K a b) H1)∨((∃ xs,SqT K H1 a xs)∧(∃ ys,SqT K H1 b ys)∧R (Itzt K a b) H1))):iZipS K ta σ H R:=h
theorem compW_zipT {K:PySem.W.Frag} {σ:St} {H:Hp} {Q:VK} {te:TE} {l a b:Addr} {xs ys:List V} (F:Nat→V) (hx:H a=some (.tup xs)) (hy:H b=some (.tup ys)) (he:xs.length=ys.length) (hz:xs.length≤1000) (hl:H l=none)
  (step:∀ (i:Nat) x y H' (Q':VK),xs[i]?=some x→ys[i]?=some y→Same H H'→(∀ H5,Same H' H5→Q' (F i) H5)→te [some x,some y] H' Q')
  (fin:∀ H',Same H H'→H' l=some (.lst ((List.range xs.length).map F))→Q (.ref l) H'):CompW (Itzt K a b) (gTup K 2 (gCons (gName 0) (gCons (gName 1) gNil))) tTrue te [none,none] l σ H Q:=by
 refine ⟨xs.length,fun i zs σ' H'=>zs=(List.range i).map F∧(∃ o o',σ'=[o,o'])∧Same H H'∧H' l=some (.lst zs),⟨rfl,⟨none,none,rfl⟩,Same.new hl,upd_same⟩,?_,?_⟩
 ·rintro i zs σ' H' hi ⟨rfl,⟨o,o',rfl⟩,s,e⟩
  refine ⟨⟨xs,ys,xs[i],ys[i]'(by omega),SqT.of (s _ _ hx),SqT.of (s _ _ hy),by simp [hi],by simp⟩,fun v H2 z=>?_⟩
  obtain ⟨T,rfl,hT,z⟩:=z
  obtain ⟨x,y,ex,ey,rfl⟩:=z xs ys (SqT.of (s _ _ hx)) (SqT.of (s _ _ hy))
  have sT:=Same.new (o:=HO.tup [x,y]) hT
  refine rd_gtup upd_same rfl (rd_gcons (rd_name (rd_gcons (rd_name (rd_gnil (rd_true (iteT ?_)))))))
  refine step i x y _ _ ex ey (s.trans sT) fun H5 s5=>⟨s5 _ _ (sT _ _ e),?_,?_⟩
  ·rw [List.length_map,List.length_range]
   exact small1000 (by omega)
  ·refine ⟨?_,⟨_,_,rfl⟩,((s.trans sT).trans s5).later hl,upd_same⟩
   rw [List.range_succ,List.map_append]
   rfl
 ·rintro zs σ' H' ⟨rfl,_,s,e⟩
  exact ⟨⟨xs,ys,SqT.of (s _ _ hx),SqT.of (s _ _ hy),Nat.le_refl _⟩,fin H' s e⟩
theorem cutV_takeG {xs:List V} {k:Nat}:cutV xs none (some (k:Int))=xs.take k:=by
 unfold cutV
 rw [HT.sIx_none,HT.sIx_nat,List.drop_zero,Nat.sub_zero]
 rcases Nat.le_total k xs.length with h | h
 ·rw [Nat.min_eq_left h]
 ·rw [Nat.min_eq_right h,List.take_of_length_le (Nat.le_refl _),List.take_of_length_le h]
end L2
set_option Elab.async false
set_option maxRecDepth 100000
namespace L2
open PySem PySem.Spec PyProof.Rows
end L2
set_option Elab.async false
set_option linter.all false
set_option maxRecDepth 100000
namespace L2
open PySem PySem.Spec PyProof.Rows
section
variable {K:PySem.W.Frag} {σ:St} {H:Hp} {Q:VK} {te:TE} {cap:List (Option Nat)} {l:Addr}
end
end L2
set_option Elab.async false
set_option linter.all false
set_option maxRecDepth 100000
namespace L2
open PySem PySem.Spec PyProof.Rows
section
variable {X:Cx} {elts:List Expr} {kt:Nat} {pt:Pos}
end
end L2
set_option Elab.async false
set_option maxHeartbeats 4000000
set_option linter.all false
open PySem PySem.Spec PyProof.Rows
namespace L2
section
variable {X:Cx} {CX:CXT} {k:Nat} {f C:Addr} {fd:FuncData} {ps:List Str} {sp:Sp} {dvs:List V} {ds:List Value} {E:XK} {x m:Str} {p pos apos:Pos} {e o:Expr} {es:List Expr} {ta:TE} {t:TA}
end
end L2
set_option Elab.async false
set_option linter.all false
namespace L2
open PySem PySem.Spec PyProof.Rows
theorem cutC {X:Cx} {s:Stmt} {ss:List Stmt} {r:TS} {C:TS→Prop} (d:PS X s r) (k:∀ r',r'=r→∃ ts,PSs X ss ts∧C (tSeq r' ts)):∃ ts,PSs X (s::ss) ts∧C ts :=
 let ⟨_,h1,h2⟩:=k r rfl
 ⟨_,pss_cons d h1,h2⟩
theorem cutE {X:Cx} {s:Stmt} {r:TS} {C:TS→Prop} (d:PS X s r) (k:∀ r',r'=r→C r'):∃ ts,PSs X [s] ts∧C ts:=⟨_,pss_one d,k r rfl⟩
theorem rd_cut {r r':TS} {D:Ends} {σ:St} {H:Hp} (e:r'=r) (h:r D σ H):r' D σ H:=e ▸ h
theorem rd_seqA {t u:TS} {D:Ends} {σ:St} {H:Hp} (k:∀ u',u'=u→t { D with nx:=u' D } σ H):tSeq t u D σ H:=k u rfl
theorem len1 {us:List Value} (h:us.length=1):∃ a0,us=[a0]:=match us,h with | [a0],_=>⟨a0,rfl⟩
theorem len2 {us:List Value} (h:us.length=2):∃ a0 a1,us=[a0,a1]:=match us,h with | [a0,a1],_=>⟨a0,a1,rfl⟩
theorem len3 {us:List Value} (h:us.length=3):∃ a0 a1 a2,us=[a0,a1,a2]:=match us,h with | [a0,a1,a2],_=>⟨a0,a1,a2,rfl⟩
theorem len4 {us:List Value} (h:us.length=4):∃ a0 a1 a2 a3,us=[a0,a1,a2,a3]:=match us,h with | [a0,a1,a2,a3],_=>⟨a0,a1,a2,a3,rfl⟩
end L2
set_option Elab.async false
set_option linter.all false
set_option maxRecDepth 100000
set_option maxHeartbeats 4000000
namespace L2
open PySem PySem.Spec PyProof.Rows
section
variable {κ:Type} [DecidableEq κ]
def valV (kvs:List (κ×V)) (k:κ):Option V:=(kvs.find? fun kv=>decide (kv.1=k)).map (·.2)
def putK (kvs:List (κ×V)) (k:κ) (v:V):List (κ×V) :=
 if (kvs.any fun kv=>decide (kv.1=k))=true then kvs.map (fun kv=>if kv.1=k then (kv.1,v) else kv) else kvs++[(k,v)]
def dropK (kvs:List (κ×V)) (k:κ):List (κ×V):=kvs.filter fun kv=>decide (kv.1≠k)
theorem valV_pos {p:κ×V} {r:List (κ×V)} {k:κ} (e:p.1=k):valV (p::r) k=some p.2:=by simp [valV,List.find?_cons,e]
theorem valV_neg {p:κ×V} {r:List (κ×V)} {k:κ} (e:¬ p.1=k):valV (p::r) k=valV r k:=by simp [valV,List.find?_cons,e]
theorem valV_any (k:κ):∀ kvs:List (κ×V),(kvs.any fun kv=>decide (kv.1=k))=(valV kvs k).isSome
 | []=>rfl
 | p::r=>by
  rw [List.any_cons]
  by_cases e:p.1=k
  ·simp only [valV_pos e,decide_eq_true e,Bool.true_or,Option.isSome_some]
  ·rw [valV_neg e,decide_eq_false e,Bool.false_or]; exact valV_any k r
theorem valV_map (k j:κ) (y:V):∀ kvs:List (κ×V),valV (kvs.map fun kv=>if kv.1=k then (kv.1,y) else kv) j=(valV kvs j).map fun x=>if j=k then y else x
 | []=>rfl
 | p::r=>by
  have ih:=valV_map k j y r
  rw [List.map_cons]
  by_cases h:p.1=k
  ·rw [if_pos h]
   by_cases e:p.1=j
   ·rw [valV_pos (p:=(p.1,y)) e,valV_pos e,Option.map_some,if_pos (e.symm.trans h)]
   ·rw [valV_neg (p:=(p.1,y)) e,valV_neg e,ih]
  ·rw [if_neg h]
   by_cases e:p.1=j
   ·rw [valV_pos (p:=p) e,valV_pos e,Option.map_some,if_neg (fun z=>h (e.trans z))]
   ·rw [valV_neg (p:=p) e,valV_neg e,ih]
theorem valV_snoc (k j:κ) (y:V):∀ kvs:List (κ×V),valV kvs k=none→valV (kvs++[(k,y)]) j=if j=k then some y else valV kvs j
 | [],_=>by
  by_cases e:k=j
  ·rw [if_pos e.symm]; exact valV_pos (p:=(k,y)) e
  ·rw [if_neg (fun z=>e z.symm)]; exact valV_neg (p:=(k,y)) e
 | p::r,hn=>by
  rw [List.cons_append]
  have hk:¬ p.1=k:=fun z=>by rw [valV_pos z] at hn; cases hn
  rw [valV_neg hk] at hn
  have ih:=valV_snoc k j y r hn
  by_cases e:p.1=j
  ·rw [valV_pos e,valV_pos e,if_neg (fun z=>hk (e.trans z))]
  ·rw [valV_neg e,valV_neg e,ih]
theorem valV_put (kvs:List (κ×V)) (k j:κ) (y:V):valV (putK kvs k y) j=if j=k then some y else valV kvs j:=by
 unfold putK
 by_cases a:(kvs.any fun kv=>decide (kv.1=k))=true
 ·rw [if_pos a,valV_map]
  rw [valV_any] at a
  by_cases e:j=k
  ·obtain ⟨x,hx⟩:=Option.isSome_iff_exists.mp a
   rw [if_pos e,e,hx,Option.map_some,if_pos rfl]
  ·rw [if_neg e]
   cases valV kvs j with
   | none=>rfl
   | some x=>rw [Option.map_some,if_neg e]
 ·rw [if_neg a]
  refine valV_snoc k j y kvs ?_
  rw [valV_any] at a
  cases q:valV kvs k with
  | none => rfl
  | some x => rw [q] at a; exact (a rfl).elim
theorem length_putK (kvs:List (κ×V)) (k:κ) (v:V):(putK kvs k v).length≤kvs.length+1:=by
 unfold putK
 split
 ·rw [List.length_map]; omega
 ·rw [List.length_append,List.length_cons,List.length_nil]; omega
theorem putK_new {kvs:List (κ×V)} {k:κ} (v:V) (h:valV kvs k=none):putK kvs k v=kvs++[(k,v)]:=by
 unfold putK
 rw [valV_any,h]
 exact if_neg (by decide)
theorem RelO.isSome_eq {o:Option V} {u:Option Value} (r:RelO o u):o.isSome=u.isSome:=by
 cases o with
 | none=>cases u with
  | none => rfl
  | some _ => exact (show False from r).elim
 | some _=>cases u with
  | none => exact (show False from r).elim
  | some _ => rfl
theorem RelO.getD {o:Option V} {u:Option Value} {d:V} {d':Value} (r:RelO o u) (rd:RelV d d'):RelV (o.getD d) (u.getD d'):=by
 cases o with
 | none=>cases u with
  | none => exact rd
  | some _ => exact (show False from r).elim
 | some _=>cases u with
  | none => exact (show False from r).elim
  | some _ => exact r
theorem KV.val {kvs:List (κ×V)} {vs:List (κ×Value)} (r:KV kvs vs) (k:κ):RelO (valV kvs k) (valueAt vs k):=by
 unfold KV at r
 induction r with
 | nil=>exact True.intro
 | @cons p q ps qs h t ih =>
  obtain ⟨h1,h2⟩:=h
  by_cases e:p.1=k
  ·have e':q.1=k:=h1.symm.trans e
   have b:valueAt (q::qs) k=some q.2:=by simp [valueAt,List.find?_cons,e']
   rw [valV_pos e,b]; exact h2
  ·have e':¬ q.1=k:=fun z=>e (h1.trans z)
   have b:valueAt (q::qs) k=valueAt qs k:=by simp [valueAt,List.find?_cons,e']
   rw [valV_neg e,b]; exact ih
theorem KV.any {kvs:List (κ×V)} {vs:List (κ×Value)} (r:KV kvs vs) (k:κ):(kvs.any fun kv=>decide (kv.1=k))=vs.any fun kv=>decide (kv.1=k):=by
 unfold KV at r
 induction r with
 | nil=>rfl
 | cons h t ih=>rw [List.any_cons,List.any_cons,ih,h.1]
theorem KV.repl {kvs:List (κ×V)} {vs:List (κ×Value)} (r:KV kvs vs) (k:κ) {y:V} {u:Value} (ry:RelV y u) :
  KV (kvs.map fun kv=>if kv.1=k then (kv.1,y) else kv) (vs.map fun kv=>if kv.1=k then (kv.1,u) else kv):=by
 unfold KV at r ⊢
 induction r with
 | nil=>exact .nil
 | @cons p q ps qs h t ih =>
  rw [List.map_cons,List.map_cons]
  refine .cons ?_ ih
  obtain ⟨h1,h2⟩:=h
  by_cases e:p.1=k
  ·rw [if_pos e,if_pos (h1.symm.trans e)]; exact ⟨h1,ry⟩
  ·rw [if_neg e,if_neg (fun z=>e (h1.trans z))]; exact ⟨h1,h2⟩
theorem KV.put {kvs:List (κ×V)} {vs:List (κ×Value)} (r:KV kvs vs) (k:κ) {y:V} {u:Value} (ry:RelV y u):KV (putK kvs k y) (stored vs k u):=by
 unfold putK stored
 rw [r.any k]
 by_cases e:(vs.any fun kv=>decide (kv.1=k))=true
 ·rw [if_pos e,if_pos e]; exact r.repl k ry
 ·rw [if_neg e,if_neg e]; exact Paired.snoc r ⟨rfl,ry⟩
theorem KV.drop {kvs:List (κ×V)} {vs:List (κ×Value)} (r:KV kvs vs) (k:κ):KV (dropK kvs k) (without vs k):=by
 unfold KV at r ⊢
 unfold dropK without
 induction r with
 | nil=>exact .nil
 | @cons p q ps qs h t ih =>
  obtain ⟨h1,h2⟩:=h
  rw [List.filter_cons,List.filter_cons]
  by_cases e:p.1=k
  ·have a:¬ decide (p.1≠k)=true:=by simp [e]
   have b:¬ decide (q.1≠k)=true:=by simp [h1.symm.trans e]
   rw [if_neg a,if_neg b]; exact ih
  ·have e':¬ q.1=k:=fun z=>e (h1.trans z)
   have a:decide (p.1≠k)=true:=by simp [e]
   have b:decide (q.1≠k)=true:=by simp [e']
   rw [if_pos a,if_pos b]; exact .cons ⟨h1,h2⟩ ih
theorem KV.length {kvs:List (κ×V)} {vs:List (κ×Value)} (r:KV kvs vs):kvs.length=vs.length:=Paired.length r
theorem dropK_le (kvs:List (κ×V)) (k:κ):(dropK kvs k).length≤kvs.length:=List.length_filter_le _ _
end
theorem kV_is {P:Program} {w:World} {k:Key} {u:Value} (r:RelV (kV k) u):(mixKind P w).is k u=true:=by
 cases k with
 | inl i=>obtain ⟨t,e⟩:=(show ∃ t,u=Value.int i t from r); subst e; exact mixKind_int P w i t
 | inr x=>obtain ⟨t,e⟩:=(show ∃ t,u=Value.str x t from r); subst e; exact mixKind_str P w x t
theorem items_are {P:Program} {w:World}:∀ {ks:List Key} {us:List Value},Vals (ks.map kV) us→ItemsAre (mixKind P w) ks us
 | [],_,r=>by rw [List.map_nil] at r; cases r; exact .nil
 | k::ks,_,r=>by
  rw [List.map_cons] at r
  cases r with
  | cons h t => exact .cons (kV_is h) (items_are t)
abbrev KT (H:Hp):List (List Key×V)→List (List Key×Addr×Value)→Prop:=Paired fun p q=>p.1=q.1∧H q.2.1=some (.tup (p.1.map kV))∧RelV p.2 q.2.2
theorem KT.val {H:Hp} {kvs:List (List Key×V)} {xs:List (List Key×Addr×Value)} (r:KT H kvs xs) (k:List Key):RelO (valV kvs k) ((atKey xs k).map (·.2)):=by
 induction r with
 | nil=>exact True.intro
 | @cons p q ps qs h t ih =>
  obtain ⟨h1,_,h2⟩:=h
  by_cases e:p.1=k
  ·have e':q.1=k:=h1.symm.trans e
   have b:atKey (q::qs) k=some q.2:=by simp [atKey,List.find?_cons,e']
   rw [valV_pos e,b]; exact h2
  ·have e':¬ q.1=k:=fun z=>e (h1.trans z)
   have b:atKey (q::qs) k=atKey qs k:=by simp [atKey,List.find?_cons,e']
   rw [valV_neg e,b]; exact ih
theorem KT.repl {H:Hp} {kvs:List (List Key×V)} {xs:List (List Key×Addr×Value)} (r:KT H kvs xs) (k:List Key) {y:V} {u:Value} (ry:RelV y u) :
  KT H (kvs.map fun kv=>if kv.1=k then (kv.1,y) else kv) (xs.map (putAt k u)):=by
 induction r with
 | nil=>exact .nil
 | @cons p q ps qs h t ih =>
  rw [List.map_cons,List.map_cons]
  refine .cons ?_ ih
  obtain ⟨h1,h2,h3⟩:=h
  unfold putAt
  by_cases e:p.1=k
  ·rw [if_pos e,if_pos (h1.symm.trans e)]; exact ⟨h1,h2,ry⟩
  ·rw [if_neg e,if_neg (fun z=>e (h1.trans z))]; exact ⟨h1,h2,h3⟩
theorem KT.put {H:Hp} {kvs:List (List Key×V)} {xs:List (List Key×Addr×Value)} (r:KT H kvs xs) (k:List Key) {b:Addr} {y:V} {u:Value} (hb:H b=some (.tup (k.map kV))) (ry:RelV y u) :
  KT H (putK kvs k y) (storedH xs k b u):=by
 have e:(kvs.any fun kv=>decide (kv.1=k))=(atKey xs k).isSome:=by
  rw [valV_any,(r.val k).isSome_eq,Option.isSome_map]
 unfold putK storedH
 rw [e]
 by_cases q:(atKey xs k).isSome=true
 ·rw [if_pos q,if_pos q]; exact r.repl k ry
 ·rw [if_neg q,if_neg q]; exact Paired.snoc r ⟨rfl,hb,ry⟩
theorem KT.keeps {H H':Hp} {kvs:List (List Key×V)} {xs:List (List Key×Addr×Value)} (r:KT H kvs xs) (ht:∀ b ys,H b=some (.tup ys)→H' b=some (.tup ys)):KT H' kvs xs :=
 Paired.mapP r fun _ _ z=>⟨z.1,ht _ _ z.2.1,z.2.2⟩
section
variable {P:Program} {w:World} {H:Hp} {h:Heap} {a:Addr}
theorem rd_of {u:HO} (ok:HOk P w H h) (e:Rd H a u):ObjOk P w H h a u:=e.ok ok
theorem dk_rd {kvs:List (Key×V)} (ok:HOk P w H h) (e:Rd H a (.dK kvs)):kvs.length≤sizeLine∧(a==sysModules)=false∧∃ vs,KV kvs vs∧h.DictOf (mixKind P w) a vs :=
 show ObjOk P w H h a (.dK kvs) from rd_of ok e
theorem dk_of {kvs:List (Key×V)} (ok:HOk P w H h) (e:H a=some (.dK kvs)):kvs.length≤sizeLine∧(a==sysModules)=false∧∃ vs,KV kvs vs∧h.DictOf (mixKind P w) a vs:=dk_rd ok (.inl e)
theorem key_of {ks:List Key} (ok:HOk P w H h) (e:H a=some (.tup (ks.map kV))):(tupleKind (mixKind P w)).is h ks a:=by
 obtain ⟨_,its,r,o,h1,h2,n,h3⟩:=(show ObjOk P w H h a (.tup (ks.map kV)) from ok a _ e)
 exact ⟨o,its.toArray,n,h1,h2,h3,by simpa using items_are r⟩
theorem dt_rd {kvs:List (List Key×V)} (ok:HOk P w H h) (e:Rd H a (.dT kvs)):kvs.length≤sizeLine∧(a==sysModules)=false ∧
  ∃ xs,KT H kvs xs∧h.DictOfH (tupleKind (mixKind P w)) a xs:=by
 obtain ⟨z,y,xs,r,o,es,ep,h1,h2,h3,h4,h5⟩:=(show ObjOk P w H h a (.dT kvs) from rd_of ok e)
 refine ⟨z,y,xs,r,o,es,ep,h1,h2,h3,h4,fun x hx=>?_,h5⟩
 have all:∀ {l:List (List Key×V)} {m:List (List Key×Addr×Value)},KT H l m→∀ x∈m,(tupleKind (mixKind P w)).is h x.1 x.2.1:=by
  intro l m q
  induction q with
  | nil => intro x hx; exact nomatch hx
  | @cons p q ps qs hq t ih =>
   intro x hx
   rcases List.mem_cons.mp hx with e | hx
   ·subst e
    exact key_of ok (by rw [← hq.1]; exact hq.2.1)
   ·exact ih x hx
 exact all r x hx
theorem dt_of {kvs:List (List Key×V)} (ok:HOk P w H h) (e:H a=some (.dT kvs)):kvs.length≤sizeLine∧(a==sysModules)=false ∧
  ∃ xs,KT H kvs xs∧h.DictOfH (tupleKind (mixKind P w)) a xs:=dt_rd ok (.inl e)
end
def DGet (H:Hp) (a:Addr) (y:V) (r:Option V):Prop :=
 (∃ kvs k,Rd H a (.dK kvs)∧y=kV k∧r=valV kvs k)∨∃ kvs k b,Rd H a (.dT kvs)∧y=.ref b∧H b=some (.tup (k.map kV))∧r=valV kvs k
def DPut (H:Hp) (a:Addr) (y v:V) (H':Hp):Prop :=
 (∃ kvs k,H a=some (.dK kvs)∧y=kV k∧kvs.length<sizeLine∧H'=upd H a (.dK (putK kvs k v))) ∨
 ∃ kvs k b,H a=some (.dT kvs)∧y=.ref b∧H b=some (.tup (k.map kV))∧kvs.length<sizeLine∧H'=upd H a (.dT (putK kvs k v))
theorem DGet.k {H:Hp} {a:Addr} {kvs:List (Key×V)} {k:Key} (e:H a=some (.dK kvs)):DGet H a (kV k) (valV kvs k):=.inl ⟨kvs,k,.inl e,rfl,rfl⟩
theorem DGet.t {H:Hp} {a b:Addr} {kvs:List (List Key×V)} {k:List Key} (e:H a=some (.dT kvs)) (eb:H b=some (.tup (k.map kV))):DGet H a (.ref b) (valV kvs k):=.inr ⟨kvs,k,b,.inl e,rfl,eb,rfl⟩
theorem DPut.k {H:Hp} {a:Addr} {kvs:List (Key×V)} {k:Key} {v:V} (e:H a=some (.dK kvs)) (hl:kvs.length<sizeLine):DPut H a (kV k) v (upd H a (.dK (putK kvs k v))):=.inl ⟨kvs,k,e,rfl,hl,rfl⟩
theorem DPut.t {H:Hp} {a b:Addr} {kvs:List (List Key×V)} {k:List Key} {v:V} (e:H a=some (.dT kvs)) (eb:H b=some (.tup (k.map kV))) (hl:kvs.length<sizeLine) :
  DPut H a (.ref b) v (upd H a (.dT (putK kvs k v))):=.inr ⟨kvs,k,b,e,rfl,eb,hl,rfl⟩
section
variable {X:Cx} {pins:List (Addr×Obj)} {σ:St} {H:Hp} {s:Shared} {a:Addr} {y v:V} {u r:Value} {o:Option V} {A:Around} {E:Value→Shared→Prop}
theorem Inv.big (I:Inv X pins σ H s):sysModules<s.heap.objs.size:=by
 have h:mainGlobals<s.heap.objs.size:=(I.mod.glob.keeps I.bk).lt
 exact Nat.lt_trans (by decide) h
theorem d_getItem {Q:Value→Shared→Prop} (hu:A.units+1<cLine) (I:Inv X pins σ H s) (g:DGet H a y (some v)) (ry:RelV y u) (h:∀ w' s',Inv X pins σ H s'→RelV v w'→Q w' s') :
  wpAny (model X.prog X.w) A (getItem (.ref a) u) Q E s:=by
 rcases g with ⟨kvs,k,e,ey,l⟩ | ⟨kvs,k,b,e,ey,eb,l⟩
 ·subst ey
  obtain ⟨z,hd,vs,rel,dd⟩:=dk_rd I.hok e
  obtain ⟨w',hw,rw'⟩:=RelO.some_of (v:=v) (o:=valueAt vs k) (by rw [l]; exact rel.val k)
  exact wpAny_getItem_of (kV_is ry) dd.mapOf hw (h w' _ (I.tok _) rw')
 ·subst ey
  cases (show u=Value.ref b from ry)
  obtain ⟨z,hd,xs,rel,dd⟩:=dt_rd I.hok e
  obtain ⟨w',hw,rw'⟩:=RelO.some_of (v:=v) (o:=(atKey xs k).map (·.2)) (by rw [l]; exact rel.val k)
  obtain ⟨p,hp,hp2⟩:=Option.map_eq_some_iff.mp hw
  refine wpAny_getItem_heap (tupleKind_room_in1 hu) (key_of I.hok eb) dd hp ?_
  rw [hp2]
  exact h w' _ (I.tok _) rw'
theorem d_in {Q:Value→Shared→Prop} (hu:A.units+1<cLine) (I:Inv X pins σ H s) (g:DGet H a y o) (ry:RelV y u) (h:∀ s',Inv X pins σ H s'→Q (.bool o.isSome) s') :
  wpAny (model X.prog X.w) A (compareOp .In u (.ref a)) Q E s:=by
 rcases g with ⟨kvs,k,e,ey,l⟩ | ⟨kvs,k,b,e,ey,eb,l⟩
 ·subst ey
  obtain ⟨z,hd,vs,rel,dd⟩:=dk_rd I.hok e
  refine wpAny_in_of (kV_is ry) hd dd.mapOf ?_
  rw [← (rel.val k).isSome_eq,← l]
  exact h _ (I.tok _)
 ·subst ey
  cases (show u=Value.ref b from ry)
  obtain ⟨z,hd,xs,rel,dd⟩:=dt_rd I.hok e
  refine wpAny_in_heap (tupleKind_room_in1 hu) (key_of I.hok eb) hd dd ?_
  have q:=(rel.val k).isSome_eq
  rw [Option.isSome_map] at q
  rw [← q,← l]
  exact h _ (I.tok _)
theorem d_notIn {Q:Value→Shared→Prop} (hu:A.units+1<cLine) (I:Inv X pins σ H s) (g:DGet H a y o) (ry:RelV y u) (h:∀ s',Inv X pins σ H s'→Q (.bool (!o.isSome)) s') :
  wpAny (model X.prog X.w) A (compareOp .NotIn u (.ref a)) Q E s:=by
 rcases g with ⟨kvs,k,e,ey,l⟩ | ⟨kvs,k,b,e,ey,eb,l⟩
 ·subst ey
  obtain ⟨z,hd,vs,rel,dd⟩:=dk_rd I.hok e
  refine wpAny_notIn_of (kV_is ry) hd dd.mapOf ?_
  rw [← (rel.val k).isSome_eq,← l]
  exact h _ (I.tok _)
 ·subst ey
  cases (show u=Value.ref b from ry)
  obtain ⟨z,hd,xs,rel,dd⟩:=dt_rd I.hok e
  refine wpAny_notIn_heap (tupleKind_room_in1 hu) (key_of I.hok eb) hd dd ?_
  have q:=(rel.val k).isSome_eq
  rw [Option.isSome_map] at q
  rw [← q,← l]
  exact h _ (I.tok _)
theorem d_write {h':Heap} {t':Nat} {ob:HO} (I:Inv X pins σ H s) (mu:Mut (H a)) (hs:Heap.SameBut a s.heap h') (he:∃ q,h'.get? a=some q) (new:ObjOk X.prog X.w (upd H a ob) h' a ob) :
  Inv X pins σ (upd H a ob) { s with heap:=h',toks:=t' } :=
 I.write (x:=a) (e:=a) mu (.inl rfl) (fun b q hb z=>(hs.2 b hb).trans z) he new
theorem dk_new {P:Program} {w:World} {H':Hp} {h':Heap} {kvs:List (Key×V)} {vs:List (Key×Value)} (z:kvs.length≤sizeLine) (hd:(a==sysModules)=false) (rel:KV kvs vs) (dd:h'.DictOf (mixKind P w) a vs) :
  ObjOk P w H' h' a (.dK kvs):=⟨z,hd,vs,rel,dd⟩
theorem d_setItem {H':Hp} {Q:Unit→Shared→Prop} (hu:A.units+1<cLine) (I:Inv X pins σ H s) (g:DPut H a y v H') (ry:RelV y u) (rv:RelV v r) (h:∀ s',Inv X pins σ H' s'→Q () s') :
  wpAny (model X.prog X.w) A (setItem (.ref a) u r) Q E s:=by
 rcases g with ⟨kvs,k,e,ey,l,eH⟩ | ⟨kvs,k,b,e,ey,eb,l,eH⟩
 ·subst ey eH
  obtain ⟨z,hd,vs,rel,dd⟩:=dk_of I.hok e
  have hz:vs.length≤sizeLine:=by rw [← rel.length]; exact z
  have hl:(putK kvs k v).length≤sizeLine:=by have:=length_putK kvs k v; omega
  refine wpAny_setItem_pairs (hsz:=hz) (kV_is ry) dd fun h' dd' hs=>h _ ?_
  have he:∃ q,h'.get? a=some q:=let ⟨q,_,_,hq,_⟩:=dd'; ⟨q,hq⟩
  exact d_write I (by rw [e]; exact True.intro) hs he (dk_new hl hd (rel.put k rv) dd')
 ·subst ey eH
  cases (show u=Value.ref b from ry)
  obtain ⟨z,hd,xs,rel,dd⟩:=dt_of I.hok e
  have hz:xs.length≤sizeLine:=by rw [← Paired.length rel]; exact z
  have hl:(putK kvs k v).length≤sizeLine:=by have:=length_putK kvs k v; omega
  refine wpAny_setItem_heap (hsz:=hz) (tupleKind_room_in1 hu) (key_of I.hok eb) dd fun h' dd' hs=>h _ ?_
  obtain ⟨q,es,ep,hq,h2,h3,h4,_,h5⟩:=dd'
  refine d_write I (by rw [e]; exact True.intro) hs ⟨q,hq⟩ ⟨hl,hd,_,(rel.put k eb rv).keeps fun c ys ec=>?_,q,es,ep,hq,h2,h3,h4,h5⟩
  rw [upd_ne (ne_of ec e (fun z=>nomatch z))]
  exact ec
end
section
variable {X:Cx} {pins:List (Addr×Obj)} {σ:St} {H:Hp} {s:Shared} {a:Addr} {kvs:List (Key×V)} {k:Key} {u:Value} {A:Around} {E:Value→Shared→Prop}
theorem d_pop {v:V} {more:List Value} {Q:Value→Shared→Prop} (I:Inv X pins σ H s) (e:H a=some (.dK kvs)) (ry:RelV (kV k) u) (l:valV kvs k=some v) (hm:more=[]∨∃ x,more=[x])
  (h:∀ w' s',Inv X pins σ (upd H a (.dK (dropK kvs k))) s'→RelV v w'→Q w' s'):wpAny (model X.prog X.w) A (call (.builtin "dict.pop") (.ref a::u::more)) Q E s:=by
 obtain ⟨z,hd,vs,rel,dd⟩:=dk_of I.hok e
 obtain ⟨w',hw,rw'⟩:=RelO.some_of (v:=v) (o:=valueAt vs k) (by rw [← l]; exact rel.val k)
 have hp:(keyPart u).isSome=true:=by
  cases k with
  | inl i => obtain ⟨t, q⟩ := (show ∃ t, u = Value.int i t from ry); subst q; rfl
  | inr x => obtain ⟨t, q⟩ := (show ∃ t, u = Value.str x t from ry); subst q; rfl
 have ha:argsOk "dict.pop" ⟨.ref a::u::more,[]⟩:=by
  rcases hm with q | ⟨x,q⟩
  ·subst q; exact PySem.F.args_dict_pop_2 _ _
  ·subst q; exact PySem.F.args_dict_pop_3 _ _ _
 refine call_meetsIn PySem.F.slot_dict_pop dd.typeIs PySem.F.entry_dict_pop ha (meets_dict_pop_there (mixKind X.prog X.w) a (kV_is ry) more hm hp)
  ⟨vs,w',dd,by rw [← rel.length]; exact z,hw,fun h' dd' hs=>h w' _ ?_ rw'⟩
 have he:∃ q,h'.get? a=some q:=let ⟨q,_,_,hq,_⟩:=dd'; ⟨q,hq⟩
 exact d_write I (by rw [e]; exact True.intro) hs he (dk_new (Nat.le_trans (dropK_le kvs k) z) hd (rel.drop k) dd')
end
def NoSl (i:Expr):Prop:=∀ ov iv,subscripted i false ov iv=operate [ov,iv] (getItem ov iv)
theorem subD_of {prog:Program} {w:World} {A:Around} {E:Value→Shared→Prop} {s:Shared} {env:Env} {value slice:Expr} {pos:Pos} {T id:String} {Q:Value→Shared→Prop}
  (hl:typeLookup (.type T) "__getitem__"=pure (some (.builtin id))) (hs:NoSl slice)
  (h:wpAny (model prog w) A (eval value env) (fun o s₁=>wpAny (model prog w) A (eval slice env) (fun i s₂=>s₂.TypeIs o T∧wpAny (model prog w) A (getItem o i) Q E s₂) E s₁) E s) :
  wpAny (model prog w) A (eval (.Subscript value slice pos) env) Q E s:=by
 refine Subscript_ (wpAny_mono h (fun o s₁ h₁=>wpAny_mono h₁ (fun i s₂ h₂=>?_) fun _ _ x=>x) fun _ _ x=>x)
 obtain ⟨hT,h₂⟩:=h₂
 unfold subscriptTail
 refine wpAny_bind ?_
 rw [getitemInPython_of_ne hT.not_modules]
 refine wpAny_bind (wpAny_specialOf hT hl ?_)
 have fin:wpAny (model prog w) A (subscripted slice false o i) (fun r s₃=>wpAny (model prog w) A (letTemporaryGo value o r >>= fun _=>pure r) Q E s₃) E s₂:=by
  rw [hs o i]
  exact wpAny_operating (wpAny_mono h₂ (fun r s₃ h₃=>wpAny_bind (wpAny_letTemporaryGo (wpAny_pure h₃))) fun _ _ x=>x)
 first
  | exact wpAny_pure (wpAny_bind fin)
  | exact wpAny_bind (wpAny_pure (wpAny_bind fin))
  | exact wpAny_bind fin
theorem dict_typeIs {X:Cx} {pins:List (Addr×Obj)} {σ:St} {H:Hp} {s:Shared} {a:Addr} {y:V} {o:Option V} (I:Inv X pins σ H s) (g:DGet H a y o):s.TypeIs (.ref a) "dict":=by
 rcases g with ⟨kvs,k,e,_,_⟩ | ⟨kvs,k,b,e,_,_,_⟩
 ·obtain ⟨_,_,vs,_,dd⟩:=dk_rd I.hok e
  exact dd.typeIs
 ·obtain ⟨_,_,xs,_,dd⟩:=dt_rd I.hok e
  exact dd.typeIs
def tDGet (td ty:TE):TE:=fun σ H Q=>td σ H fun x H1=>ty σ H1 fun y H2=>∃ a v,x=.ref a∧DGet H2 a y (some v)∧Q v H2
def tDIn (ty td:TE):TE:=fun σ H Q=>ty σ H fun y H1=>td σ H1 fun x H2=>∃ a o,x=.ref a∧DGet H2 a y o∧Q (.bl o.isSome) H2
def tDNotIn (ty td:TE):TE:=fun σ H Q=>ty σ H fun y H1=>td σ H1 fun x H2=>∃ a o,x=.ref a∧DGet H2 a y o∧Q (.bl (!o.isSome)) H2
def sDPut (td ty tv:TE):TS:=fun D σ H=>tv σ H fun v H1=>td σ H1 fun x H2=>ty σ H2 fun y H3=>∃ a H4,x=.ref a∧DPut H3 a y v H4∧D.nx σ H4
section
variable {X:Cx} {o i e value:Expr} {pos pos' tpos:Pos} {td ty tv:TE}
theorem pe_dget (hu:X.A.units+1<cLine) (ho:PE X o td) (hi:PE X i ty) (hs:NoSl i):PE X (.Subscript o i pos) (tDGet td ty):=by
 intro pins s σ H Q I h
 refine subD_of PySem.F.slot_dict_getitem.lookup hs (thn (ho pins s σ H _ I h) fun u s1 ⟨x,H1,I1,rx,q1⟩=>thn (hi pins s1 σ H1 _ I1 q1) fun iv s2 ⟨y,H2,I2,ry,a,v,ex,g,q2⟩=>?_)
 subst ex
 obtain rfl:u=Value.ref a:=rx
 exact ⟨dict_typeIs I2 g,d_getItem hu I2 g ry fun w' s3 I3 rw'=>⟨v,H2,I3,rw',q2⟩⟩
theorem pc_din (hu:X.A.units+1<cLine) (hi:PE X i ty) (ho:PE X o td):PC X .In i o (tDIn ty td):=by
 intro pins s σ H Q I h
 refine thn (hi pins s σ H _ I h) fun iv s1 ⟨y,H1,I1,ry,q1⟩=>thn (ho pins s1 σ H1 _ I1 q1) fun u s2 ⟨x,H2,I2,rx,a,ov,ex,g,q2⟩=>?_
 subst ex
 obtain rfl:u=Value.ref a:=rx
 exact d_in hu I2 g ry fun s3 I3=>⟨.bl ov.isSome,H2,I3,rfl,q2⟩
theorem pc_dnotin (hu:X.A.units+1<cLine) (hi:PE X i ty) (ho:PE X o td):PC X .NotIn i o (tDNotIn ty td):=by
 intro pins s σ H Q I h
 refine thn (hi pins s σ H _ I h) fun iv s1 ⟨y,H1,I1,ry,q1⟩=>thn (ho pins s1 σ H1 _ I1 q1) fun u s2 ⟨x,H2,I2,rx,a,ov,ex,g,q2⟩=>?_
 subst ex
 obtain rfl:u=Value.ref a:=rx
 exact d_notIn hu I2 g ry fun s3 I3=>⟨.bl (!ov.isSome),H2,I3,rfl,q2⟩
theorem ps_dput (hu:X.A.units+1<cLine) (ho:PE X o td) (hi:PE X i ty) (hv:PE X value tv) (hs:swapsWith value (some (.Subscript o i pos')) pos.line X.env=pure false) :
  PS X (.Assign [.Subscript o i pos'] value pos) (sDPut td ty tv):=by
 intro pins s σ H D I h
 refine wpAny_Assign_Subscript (thn (hv pins s σ H _ I h) fun r s1 ⟨v,H1,I1,rv,q1⟩=>thn (ho pins s1 σ H1 _ I1 q1) fun u s2 ⟨x,H2,I2,rx,q2⟩=>thn (hi pins s2 σ H2 _ I2 q2) fun iv s3 ⟨y,H3,I3,ry,a,H4,ex,g,q3⟩=>?_) hs
 subst ex
 obtain rfl:u=Value.ref a:=rx
 exact d_setItem hu I3 g ry rv fun s4 I4=>⟨σ,H4,I4,q3⟩
end
theorem dk_empty {P:Program} {w:World} {H:Hp} (h:Heap) (hb:sysModules<h.objs.size):ObjOk P w H (h.push { cls:=.type "dict",data:=.dict #[] }) h.objs.size (.dK []) :=
 ⟨Nat.zero_le _,beq_eq_false_iff_ne.mpr (Ne.symm (Nat.ne_of_lt hb)),[],.nil,Heap.DictOf.new h⟩
theorem dt_empty {P:Program} {w:World} {H:Hp} (h:Heap) (hb:sysModules<h.objs.size):ObjOk P w H (h.push { cls:=.type "dict",data:=.dict #[] }) h.objs.size (.dT []) :=
 ⟨Nat.zero_le _,beq_eq_false_iff_ne.mpr (Ne.symm (Nat.ne_of_lt hb)),[],.nil,_,#[],0,Heap.get?_push_size _ rfl,⟨rfl,rfl,rfl⟩,rfl,rfl,List.nodup_nil⟩
def tDNewK:TE:=fun _ H Q=>∀ p,H p=none→Q (.ref p) (upd H p (.dK []))
def tDNewT:TE:=fun _ H Q=>∀ p,H p=none→Q (.ref p) (upd H p (.dT []))
section
variable {X:Cx} {pos:Pos}
theorem pe_dnewK:PE X (.Dict [] [] pos) tDNewK:=fun pins s σ H Q I h =>
 wpAny_Dict_empty ⟨.ref s.heap.objs.size,_,I.laid (a:=s.heap.objs.size) (o:=.dK []) (t':=s.toks) (fun _ _ q=>Heap.get?_push_of_some _ q) (Nat.le_refl _) (dk_empty s.heap I.big),rfl,h _ (I.hok.fresh (Nat.le_refl _))⟩
theorem pe_dnewT:PE X (.Dict [] [] pos) tDNewT:=fun pins s σ H Q I h =>
 wpAny_Dict_empty ⟨.ref s.heap.objs.size,_,I.laid (a:=s.heap.objs.size) (o:=.dT []) (t':=s.toks) (fun _ _ q=>Heap.get?_push_of_some _ q) (Nat.le_refl _) (dt_empty s.heap I.big),rfl,h _ (I.hok.fresh (Nat.le_refl _))⟩
end
def tPairs:List (TE×TE)→St→Hp→(List (V×V)→Hp→Prop)→Prop
 | [],_,H,Q=>Q [] H
 | (tk,tv)::r,σ,H,Q=>tk σ H fun x H1=>tv σ H1 fun y H2=>tPairs r σ H2 fun ps H3=>Q ((x,y)::ps) H3
abbrev VV:List (V×V)→List (Value×Value)→Prop:=Paired fun p q=>RelV p.1 q.1∧RelV p.2 q.2
def PPs (X:Cx) (pos:Pos) (keys:List (Option Expr)) (values:List Expr) (trs:List (TE×TE)):Prop :=
 ∀ (pins:List (Addr×Obj)) (s:Shared) (σ:St) (H:Hp) (Q:List (V×V)→Hp→Prop),Inv X pins σ H s→tPairs trs σ H Q →
  wpAny (model X.prog X.w) X.A (evalPairs (pairTrees keys values X.env pos)) (fun vs s'=>∃ ps H',Inv X pins σ H' s'∧VV ps vs∧Q ps H') X.xe s
theorem pps_nil {X:Cx} {pos:Pos}:PPs X pos [] [] []:=fun pins s σ H Q I h=>pairTrees_nil_walk ⟨[],H,I,.nil,h⟩
theorem pps_cons {X:Cx} {pos:Pos} {k v:Expr} {ks:List (Option Expr)} {vs:List Expr} {tk tv:TE} {trs:List (TE×TE)} (hk:PE X k tk) (hv:PE X v tv) (hr:PPs X pos ks vs trs) :
  PPs X pos (some k::ks) (v::vs) ((tk,tv)::trs):=fun pins s σ H Q I h =>
 pairTrees_cons_walk (thn (hk pins s σ H _ I h) fun u s1 ⟨x,H1,I1,rx,q1⟩=>thn (hv pins s1 σ H1 _ I1 q1) fun w2 s2 ⟨y,H2,I2,ry,q2⟩ =>
  thn (hr pins s2 σ H2 _ I2 q2) fun ws s3 ⟨ps,H3,I3,rel,q3⟩=>⟨(x,y)::ps,H3,I3,.cons ⟨rx,ry⟩ rel,q3⟩)
def mergeK (kvs more:List (Key×V)):List (Key×V):=more.foldl (fun acc kv=>putK acc kv.1 kv.2) kvs
theorem KV.merge:∀ {more:List (Key×V)} {rs:List (Key×Value)} {kvs:List (Key×V)} {vs:List (Key×Value)},KV more rs→KV kvs vs→KV (mergeK kvs more) (merged vs rs):=by
 intro more rs kvs vs r
 unfold KV at r
 induction r generalizing kvs vs with
 | nil=>intro q; exact q
 | @cons p q ps qs h t ih =>
  intro r0
  have e:KV (putK kvs p.1 p.2) (stored vs q.1 q.2):=by
   have:=r0.put p.1 h.2
   rw [← h.1]; exact this
  exact ih e
theorem length_mergeK:∀ (more kvs:List (Key×V)),(mergeK kvs more).length≤kvs.length+more.length
 | [],kvs=>by show kvs.length≤kvs.length+0; omega
 | p::r,kvs=>by
  have h1:=length_mergeK r (putK kvs p.1 p.2)
  have h2:=length_putK kvs p.1 p.2
  show (mergeK (putK kvs p.1 p.2) r).length≤_
  rw [List.length_cons]; omega
theorem carries_of {P:Program} {w:World}:∀ {kvs:List (Key×V)} {ws:List (Value×Value)},VV (kvs.map fun kv=>(kV kv.1,kv.2)) ws→∃ rs,Carries (mixKind P w) ws rs∧KV kvs rs
 | [],_,r=>by rw [List.map_nil] at r; cases r; exact ⟨[],True.intro,.nil⟩
 | p::kvs,_,r=>by
  rw [List.map_cons] at r
  cases r with
  | @cons a b as bs h t =>
   obtain ⟨rs,c,q⟩:=carries_of (P:=P) (w:=w) t
   obtain ⟨b1,b2⟩:=b
   exact ⟨(p.1,b2)::rs,⟨kV_is h.1,rfl,c⟩,.cons ⟨rfl,h.2⟩ q⟩
def tDisp (trs:List (TE×TE)):TE:=fun σ H Q=>∀ p,H p=none→tPairs trs σ (upd H p (.dK [])) fun ps H2=>H2 p=some (.dK [])∧∃ kvs:List (Key×V),ps=kvs.map (fun kv=>(kV kv.1,kv.2))∧kvs.length≤15∧Q (.ref p) (upd H2 p (.dK (mergeK [] kvs)))
theorem pe_disp {X:Cx} {pos:Pos} {keys:List (Option Expr)} {values:List Expr} {trs:List (TE×TE)} (h:PPs X pos keys values trs) (hall:keys.all (·.isSome)=true) (hl:keys.length=values.length) (h0:keys≠[])
  (h15:keys.length≤15):PE X (.Dict keys values pos) (tDisp trs):=by
 intro pins s σ H Q I q
 have hn:=I.hok.fresh (Nat.le_refl s.heap.objs.size)
 have I1:=I.laid (a:=s.heap.objs.size) (o:=.dK []) (h':=s.heap.push { cls:=.type "dict",data:=.dict #[] }) (t':=s.toks) (fun _ _ q=>Heap.get?_push_of_some _ q) (Nat.le_refl _) (dk_empty s.heap I.big)
 refine wpAny_Dict_walk (knd:=mixKind X.prog X.w) hall hl h0 h15 (thn (h pins _ σ _ _ I1 (q _ hn)) fun ws s2 ⟨ps,H2,I2,rel,e,kvs,ep,lk,q2⟩=>?_)
 subst ep
 obtain ⟨rs,c,rk⟩:=carries_of (P:=X.prog) (w:=X.w) rel
 obtain ⟨z,hd,vs0,r0,dd⟩:=dk_of I2.hok e
 cases r0
 refine ⟨rs,c,dd,fun h' dd' hs=>⟨.ref s.heap.objs.size,_,?_,rfl,q2⟩⟩
 have hz:(mergeK [] kvs).length≤sizeLine:=by
  have h1:=length_mergeK kvs []
  rw [List.length_nil] at h1
  rw [sizeLine_eq]; omega
 have he:∃ q,h'.get? s.heap.objs.size=some q:=let ⟨q,_,_,hq,_⟩:=dd'; ⟨q,hq⟩
 exact d_write I2 (by rw [e]; exact True.intro) hs he (dk_new hz hd (rk.merge .nil) dd')
structure M1 (X:Cx) (o:Expr) (m:Str) (apos:Pos) (e:Expr) (cpos:Pos):Prop where
 base:attributeBase o m X.env (eval o X.env)=eval o X.env
 few:((backTo cpos (starEach [e] X.env)).all (fun x=>!x.1)&&(backToKw cpos (keywordEach [] X.env)).all (fun x=>x.1.isSome)
  && decide (([e]:List Expr).length+([]:List Keyword).length+(if ([]:List Keyword).isEmpty then 0 else 1)<30))=true
 line:(apos.endLine==cpos.line)=true
 trees:backTo cpos (starEach [e] X.env)=[(false,eval e X.env)]
structure M2 (X:Cx) (o:Expr) (m:Str) (apos:Pos) (e f:Expr) (cpos:Pos):Prop where
 base:attributeBase o m X.env (eval o X.env)=eval o X.env
 few:((backTo cpos (starEach [e,f] X.env)).all (fun x=>!x.1)&&(backToKw cpos (keywordEach [] X.env)).all (fun x=>x.1.isSome)
  && decide (([e,f]:List Expr).length+([]:List Keyword).length+(if ([]:List Keyword).isEmpty then 0 else 1)<30))=true
 line:(apos.endLine==cpos.line)=true
 trees:backTo cpos (starEach [e,f] X.env)=[(false,eval e X.env),(false,eval f X.env)]
def IsD (H:Hp) (a:Addr):Prop:=(∃ kvs,Rd H a (.dK kvs))∨∃ kvs,Rd H a (.dT kvs)
theorem isD_at {X:Cx} {pins:List (Addr×Obj)} {σ:St} {H:Hp} {s:Shared} {a:Addr} (I:Inv X pins σ H s) (d:IsD H a) :
  s.TypeIs (.ref a) "dict"∧(∀ b,Value.ref a=.ref b→∃ ob,s.heap.get? b=some ob∧ob.dict=none)∧(a==sysModules)=false:=by
 rcases d with ⟨kvs,e⟩ | ⟨kvs,e⟩
 ·obtain ⟨_,hd,vs,_,dd⟩:=dk_rd I.hok e
  refine ⟨dd.typeIs,fun b q=>?_,hd⟩
  cases q
  obtain ⟨ob,_,_,h1,h2,_⟩:=dd
  exact ⟨ob,h1,h2.2.1⟩
 ·obtain ⟨_,hd,xs,_,dd⟩:=dt_rd I.hok e
  refine ⟨dd.typeIs,fun b q=>?_,hd⟩
  cases q
  obtain ⟨ob,_,_,h1,h2,_⟩:=dd
  exact ⟨ob,h1,h2.2.1⟩
section
variable {X:Cx} {pins:List (Addr×Obj)} {σ:St} {H:Hp} {s:Shared} {a:Addr} {y d:V} {u r:Value} {o:Option V} {A:Around} {E:Value→Shared→Prop}
theorem d_get2 {Q:Value→Shared→Prop} (hu:A.units+1<cLine) (I:Inv X pins σ H s) (g:DGet H a y o) (ry:RelV y u) (rd:RelV d r) (h:∀ w' s',Inv X pins σ H s'→RelV (o.getD d) w'→Q w' s') :
  wpAny (model X.prog X.w) A (call (.builtin "dict.get") [.ref a,u,r]) Q E s:=by
 rcases g with ⟨kvs,k,e,ey,l⟩ | ⟨kvs,k,b,e,ey,eb,l⟩
 ·subst ey
  obtain ⟨z,hd,vs,rel,dd⟩:=dk_rd I.hok e
  refine call_meetsIn PySem.F.slot_dict_get dd.typeIs PySem.F.entry_dict_get (PySem.F.args_dict_get_3 _ _ _) (meets_dict_get_default (mixKind X.prog X.w) a (kV_is ry) hd r) ⟨_,dd.mapOf,h _ _ (I.tok _) ?_⟩
  rw [l]
  exact (rel.val k).getD rd
 ·subst ey
  cases (show u=Value.ref b from ry)
  obtain ⟨z,hd,xs,rel,dd⟩:=dt_rd I.hok e
  refine call_meetsIn PySem.F.slot_dict_get dd.typeIs PySem.F.entry_dict_get (PySem.F.args_dict_get_3 _ _ _) (meetsH_dict_get_default (tupleKind (mixKind X.prog X.w)) a b hd r) ⟨tupleKind_room_in1 hu,k,xs,key_of I.hok eb,dd,h _ _ (I.tok _) ?_⟩
  rw [l]
  exact (rel.val k).getD rd
end
def tDGet2 (td ty tx:TE):TE:=fun σ H Q=>td σ H fun x H1=>∃ a,x=.ref a∧IsD H1 a∧ty σ H1 fun y H2=>tx σ H2 fun z H3=>∃ o,DGet H3 a y o∧Q (o.getD z) H3
def tDPop1 (td ty:TE):TE:=fun σ H Q=>td σ H fun x H1=>∃ a,x=.ref a∧IsD H1 a∧ty σ H1 fun y H2=>∃ kvs k v,H2 a=some (.dK kvs)∧y=kV k∧valV kvs k=some v∧Q v (upd H2 a (.dK (dropK kvs k)))
section
variable {X:Cx} {o e f:Expr} {apos cpos:Pos} {td ty tx:TE}
theorem pe_dget2 (hu:X.A.units+1<cLine) (ho:PE X o td) (he:PE X e ty) (hf:PE X f tx) (m:M2 X o "get" apos e f cpos):PE X (.Call (.Attribute o "get" apos) [e,f] [] cpos) (tDGet2 td ty tx):=by
 intro pins s σ H Q I h
 refine wpAny_Call_method m.base m.few m.line PySem.F.plainAttrs_dict PySem.F.slot_dict_get PySem.F.type_dict_get (thn (ho pins s σ H _ I h) fun u s1 ⟨x,H1,I1,rx,a,ex,d,q1⟩=>?_)
 subst ex
 obtain rfl:u=Value.ref a:=rx
 obtain ⟨t1,t2,_⟩:=isD_at I1 d
 refine ⟨t1,t2,?_⟩
 rw [m.trees]
 refine Calls.callWith_builtin rfl (Calls.evalArgs_plain (Calls.spliced_cons (thn (he pins s1 σ H1 _ I1 q1) fun iv s2 ⟨y,H2,I2,ry,q2⟩ =>
  Calls.spliced_cons (thn (hf pins s2 σ H2 _ I2 q2) fun fv s3 ⟨z,H3,I3,rz,ov,g,q3⟩=>Calls.spliced_nil ?_))))
 exact d_get2 hu I3 g ry rz fun w' s4 I4 rw'=>⟨_,H3,I4,rw',q3⟩
theorem pe_dpop1 (ho:PE X o td) (he:PE X e ty) (m:M1 X o "pop" apos e cpos):PE X (.Call (.Attribute o "pop" apos) [e] [] cpos) (tDPop1 td ty):=by
 intro pins s σ H Q I h
 refine wpAny_Call_method m.base m.few m.line PySem.F.plainAttrs_dict PySem.F.slot_dict_pop PySem.F.type_dict_pop (thn (ho pins s σ H _ I h) fun u s1 ⟨x,H1,I1,rx,a,ex,d,q1⟩=>?_)
 subst ex
 obtain rfl:u=Value.ref a:=rx
 obtain ⟨t1,t2,_⟩:=isD_at I1 d
 refine ⟨t1,t2,?_⟩
 rw [m.trees]
 refine Calls.callWith_builtin rfl (Calls.evalArgs_plain (Calls.spliced_cons (thn (he pins s1 σ H1 _ I1 q1) fun iv s2 ⟨y,H2,I2,ry,kvs,k,v,ea,ey,l,q2⟩=>Calls.spliced_nil ?_)))
 subst ey
 exact d_pop I2 ea ry l (.inl rfl) fun w' s3 I3 rw'=>⟨v,_,I3,rw',q2⟩
end
section
variable {X:Cx} {pins:List (Addr×Obj)} {σ:St} {H:Hp} {s:Shared} {a:Addr} {kvs:List (Key×V)} {A:Around} {E:Value→Shared→Prop}
end
section
variable {X:Cx} {pins:List (Addr×Obj)} {σ:St} {H:Hp} {s:Shared} {a:Addr} {y:V} {u:Value} {A:Around} {E:Value→Shared→Prop}
end
end L2
set_option Elab.async false
set_option linter.all false
set_option maxRecDepth 100000
set_option maxHeartbeats 4000000
namespace L2
open PySem PySem.Spec PyProof.Rows
section
variable {X:Cx} {tg:Expr}
end
theorem rd_dnewT {σ:St} {H:Hp} {Q:VK} (h:∀ p,H p=none→Q (.ref p) (upd H p (.dT []))):tDNewT σ H Q:=h
theorem rd_dput {td ty tv:TE} {D:Ends} {σ:St} {H:Hp} (h:tv σ H fun v H1=>td σ H1 fun x H2=>ty σ H2 fun y H3=>∃ a H4,x=.ref a∧DPut H3 a y v H4∧D.nx σ H4):sDPut td ty tv D σ H:=h
theorem rd_din {ty td:TE} {σ:St} {H:Hp} {Q:VK} (h:ty σ H fun y H1=>td σ H1 fun x H2=>∃ a o,x=.ref a∧DGet H2 a y o∧Q (.bl o.isSome) H2):tDIn ty td σ H Q:=h
theorem rd_dnotin {ty td:TE} {σ:St} {H:Hp} {Q:VK} (h:ty σ H fun y H1=>td σ H1 fun x H2=>∃ a o,x=.ref a∧DGet H2 a y o∧Q (.bl (!o.isSome)) H2):tDNotIn ty td σ H Q:=h
end L2
set_option Elab.async false
set_option linter.all false
set_option maxRecDepth 100000
namespace L2
open PySem PySem.Spec PyProof.Rows
section
variable {X:Cx} {pins:List (Addr×Obj)} {σ:St} {H:Hp} {s:Shared} {fp:List Addr} {scope:Scope} {N:List Str} {cap:List (Option Nat)}
end
section
variable {X:Cx} {elt tg iter:Expr} {ifs:List Expr} {scope:Scope} {pos:Pos} {N:List Str} {cap:List (Option Nat)} {wi:TI} {g:TG} {tt:TT} {te:TE}
end
end L2
set_option Elab.async false
set_option linter.all false
set_option maxRecDepth 100000
set_option maxHeartbeats 4000000
namespace L2
open PySem PySem.Spec PyProof.Rows
section
variable {prog:Program} {w:World} {A:Around} {E:Value→Shared→Prop} {s:Shared} {R:Result→Shared→Prop} {I:Addr} {fp wr:List Addr} {G:Array GenState→Array GenState→Prop} {n:Nat} {P:Nat→Value→Prop} {St:Nat→Shared→Prop}
end
section
variable {X:Cx}
end
end L2
set_option linter.all false
set_option Elab.async false
set_option maxHeartbeats 4000000
namespace Ts
open PySem PyProof.Rows
def Le (lt:Keyed→Keyed→Bool) (x y:Keyed):Prop:=lt y x=false
section
variable {M:Model} {A:Around} {E:Value→Shared→Prop} {s:Shared}
end
end Ts
set_option linter.all false
set_option Elab.async false
set_option maxHeartbeats 4000000
namespace Ts
open PySem PyProof.Rows
section
variable {M:Model} {A:Around} {E:Value→Shared→Prop} {s:Shared}
end
end Ts
set_option linter.all false
set_option Elab.async false
set_option maxHeartbeats 4000000
namespace Ts
open PySem PyProof.Rows
section
variable {M:Model} {A:Around} {E:Value→Shared→Prop} {s:Shared}
end
end Ts
set_option linter.all false
set_option Elab.async false
set_option maxHeartbeats 4000000
namespace Ts
open PySem PyProof.Rows
section
variable {M:Model} {A:Around} {E:Value→Shared→Prop} {s:Shared}
end
end Ts
set_option linter.all false
set_option Elab.async false
set_option maxHeartbeats 4000000
namespace Ts
open PySem PyProof.Rows
def seg (xs:Array Keyed) (i n:Nat):List Keyed:=(xs.toList.drop i).take n
section
variable {M:Model} {A:Around} {E:Value→Shared→Prop} {s:Shared}
end
end Ts
set_option linter.all false
set_option Elab.async false
set_option maxHeartbeats 4000000
namespace Ts
open PySem PyProof.Rows
def at' (xs:Array Keyed) (i:Nat):Keyed:=(xs[i]?).getD (.none,.none)
section
variable {M:Model} {A:Around} {E:Value→Shared→Prop} {s:Shared}
end
end Ts
set_option linter.all false
set_option Elab.async false
set_option maxHeartbeats 4000000
namespace Ts
open PySem PyProof.Rows
section
variable {M:Model} {A:Around} {E:Value→Shared→Prop} {s:Shared}
end
end Ts
set_option linter.all false
set_option Elab.async false
set_option maxHeartbeats 4000000
namespace Ts
open PySem PyProof.Rows
def Runs (lt:Keyed→Keyed→Bool) (xs:Array Keyed):Nat→List (Nat×Nat)→Nat→Prop
 | i,[],hi=>i=hi
 | i,(s,n)::ps,hi=>s=i∧1≤n∧(seg xs s n).Pairwise (Le lt)∧Runs lt xs (i+n) ps hi
def kys (p:Array (Nat×Nat×Nat)):List (Nat×Nat):=p.toList.map fun q=>(q.1,q.2.1)
section
variable {M:Model} {A:Around} {E:Value→Shared→Prop} {s:Shared}
structure Inv (κ:SortKind) (lt:Keyed→Keyed→Bool) (a0:Array Keyed) (st:SortSt) (lo:Nat):Prop where
 kind:kindOf st=κ
 failed:failedOf st=none
 perm:(arrOf st).Perm a0
 runs:Runs lt (arrOf st) 0 (kys (pendingOf st)) lo
end
end Ts
set_option linter.all false
set_option Elab.async false
set_option maxHeartbeats 4000000
set_option maxRecDepth 100000
namespace Ts
open PySem PyProof.Rows PySem.W
section
variable {prog:Program} {w:World} {A:Around} {E:Value→Shared→Prop} {s:Shared}
end
section
variable {prog:Program} {w:World} {s:Shared}
end
end Ts
set_option Elab.async false
set_option linter.all false
set_option maxRecDepth 100000
set_option maxHeartbeats 4000000
namespace L2
open PySem PySem.Spec PyProof.Rows
end L2
set_option linter.all false
set_option Elab.async false
set_option maxHeartbeats 4000000
namespace Sm
abbrev Pnt:=Int×Int
def fin:Pnt→Pnt→List Pnt→Pnt×Pnt
 | a,b,[]=>(a,b)
 | _,b,c::l=>fin b c l
section
variable {nb:Pnt→List Pnt}
end
end Sm
set_option linter.all false
set_option Elab.async false
set_option maxHeartbeats 4000000
namespace Sm
section
variable {nb:Pnt→List Pnt}
end
end Sm
set_option Elab.async false
set_option linter.all false
set_option maxRecDepth 100000
set_option maxHeartbeats 4000000
namespace Ts
open PySem PyProof.Rows PySem.W
section
variable {prog:Program} {w:World} {A:Around} {E:Value→Shared→Prop} {s:Shared}
end
end Ts
namespace L2
open PySem PySem.Spec PyProof.Rows
section
variable {K:PySem.W.Frag} {σ:St} {H:Hp} {Q:VK} {te:TE} {tt:TT} {cap:List (Option Nat)} {l:Addr}
end
end L2
set_option Elab.async false
set_option linter.all false
set_option maxRecDepth 100000
set_option maxHeartbeats 4000000
namespace Ts
open PySem PyProof.Rows PySem.W
end Ts
namespace L2
open PySem PySem.Spec PyProof.Rows PySem.W
section
variable {X:Cx} {pins:List (Addr×Obj)} {σ:St} {H H1 H2:Hp} {s0 s s':Shared}
end
end L2
set_option Elab.async false
set_option linter.all false
set_option maxHeartbeats 4000000
namespace Sm
section
variable {nb:Pnt→List Pnt}
end
end Sm
set_option Elab.async false
set_option linter.all false
set_option maxRecDepth 100000
set_option maxHeartbeats 4000000
namespace L2
open PySem PySem.Spec PyProof.Rows PySem.W
section
variable {prog:Program} {w:World} {κ:Type} [DecidableEq κ] {kd:HeapKind prog w κ} {A:Around} {E:Value→Shared→Prop} {s:Shared} {d a:Addr} {xs:List (κ×Addr×Value)} {k:κ} {v:Value}
theorem sdH {Q:Value→Shared→Prop} (hu:kd.room A) (hk:kd.is s.heap k a) (hm:s.heap.DictOfH kd d xs) (hz:xs.length≤sizeLine)
  (h1:∀ p,atKey xs k=some p→Q p.2 { s with toks:=s.toks+kd.draws k })
  (h2:atKey xs k=none→∀ h',h'.DictOfH kd d (storedH xs k a v)→Heap.SameBut d s.heap h'→Q v { s with heap:=h',toks:=s.toks+kd.draws k }) :
  wpAny (model prog w) A (dictSetDefault d (.ref a) v) Q E s:=by
 obtain ⟨o,es,ep,ho,hc,hd,he,hi,hn⟩:=hm
 unfold dictSetDefault
 (try with_reducible refine wpAny_holding ?_); refine wpAny_bind (kd.pyHash hu hk (wpAny_bind (wpAny_dictFind_heap (s:={ s with toks:=s.toks+kd.draws k }) hu hk ho hd he hi hn (fun no=>?_) fun j p hj=>?_)))
 ·have ha:=atKey_none_of_get no
  have hnot:=not_mem_keys_of_get no
  have es':storedH xs k a v=xs++[(k,a,v)]:=storedH_new ha a v
  refine wpAny_bind (wpAny_rule (wpAny_bind (wpAny_updateDictKeys (hz:=by have e:=size_of_entries he; omega) (s:={ s with toks:=s.toks+kd.draws k }) ho hd (wpAny_pure (h2 ha _ ⟨_,_,ep+1,Heap.get?_update_self _ ho (Obj.isFreed_of_dict (Obj.data_mapDictKeys hd _)),hc.mapDictKeys _,Obj.data_mapDictKeys hd _,?_,fun x hx=>?_,?_⟩ (Heap.SameBut.update ..))))))
  ·rw [es']; simp [he,entryOfKey]
  ·rw [es'] at hx
   cases List.mem_append.mp hx with
   | inl z=>exact kd.keeps (hi x z) ho hd (Heap.SameBut.update ..)
   | inr z=>(rw [List.mem_singleton.mp z]; exact kd.keeps hk ho hd (Heap.SameBut.update ..))
  ·rw [es',List.map_append,List.nodup_append]
   exact ⟨hn,by simp,fun x hx y hy z=>hnot (by rw [List.map_singleton,List.mem_singleton] at hy; rw [← (show y=k from hy),← z]; exact hx)⟩
 ·(refine wpAny_bind (wpAny_dictEntries (s:={ s with toks:=s.toks+kd.draws k }) ho hd ?_); rw [entry_at he j,hj])
  exact wpAny_bind (wpAny_rule (wpAny_pure (h1 p (atKey_of_get hn hj))))
theorem sd_meets (hd:(d==sysModules)=false):MeetsIn prog w (Builtin.«dict.setdefault» ⟨[.ref d,.ref a,v],[]⟩) (fun A R s=>kd.room A.in1∧∃ k xs,kd.is s.heap k a∧s.heap.DictOfH kd d xs∧xs.length≤sizeLine ∧
      (∀ p,atKey xs k=some p→R (.ok (.ret p.2)) { s with toks:=s.toks+kd.draws k }) ∧
      (atKey xs k=none→∀ h',h'.DictOfH kd d (storedH xs k a v)→Heap.SameBut d s.heap h'→R (.ok (.ret v)) { s with heap:=h',toks:=s.toks+kd.draws k })) :=
  .of_wp fun A R s ⟨hu,k,xs,hk,hm,hz,h1,h2⟩=>by
    unfold Builtin.«dict.setdefault» Builtin.Dict.keyAndDefault
    (refine wpAny_bind (wpAny_bind (wpAny_notOrdered_dict hm.typeIs ?_)); show wpAny _ _ (pure (d,Value.ref a,some v)) _ _ s; refine wpAny_pure ?_)
    (show wpAny _ _ (if (d==sysModules)=true then _ else (dictSetDefault d (.ref a) v >>= _)) _ _ s; rw [if_neg (by rw [hd]; exact Bool.false_ne_true)])
    exact wpAny_bind (sdH hu hk hm hz (fun p hp=>wpAny_pure ⟨p.2,rfl,h1 p hp⟩) fun hn h' hm' hs'=>wpAny_pure ⟨v,rfl,h2 hn h' hm' hs'⟩)
end
section
variable {X:Cx} {pins:List (Addr×Obj)} {σ:St} {H:Hp} {s:Shared} {a b:Addr} {z:V} {r:Value} {A:Around} {E:Value→Shared→Prop} {kvs:List (List Key×V)} {k:List Key}
theorem d_setd {Q:Value→Shared→Prop} (hu:A.units+1<cLine) (I:Inv X pins σ H s) (e:H a=some (.dT kvs)) (eb:H b=some (.tup (k.map kV))) (hl:kvs.length<sizeLine) (rz:RelV z r)
  (h1:∀ v,valV kvs k=some v→∀ w' s',Inv X pins σ H s'→RelV v w'→Q w' s') (h2:valV kvs k=none→∀ s',Inv X pins σ (upd H a (.dT (putK kvs k z))) s'→Q r s') :
  wpAny (model X.prog X.w) A (call (.builtin "dict.setdefault") [.ref a,.ref b,r]) Q E s:=by
 obtain ⟨zl,hd,xs,rel,dd⟩:=dt_of I.hok e
 have hl':(putK kvs k z).length≤sizeLine:=by have:=length_putK kvs k z; omega
 have rv:=rel.val k
 refine call_meetsIn PySem.F.slot_dict_setdefault dd.typeIs PySem.F.entry_dict_setdefault (PySem.F.args_dict_setdefault_3 _ _ _) (sd_meets (kd:=tupleKind (mixKind X.prog X.w)) hd)
  ⟨tupleKind_room_in1 hu,k,xs,key_of I.hok eb,dd,by rw [← Paired.length rel]; exact zl,fun p hp=>?_,fun hp h' dd' hs=>?_⟩
 ·rw [hp] at rv
  cases hv:valV kvs k with
  | none => rw [hv] at rv; exact absurd rv (by intro z; cases z)
  | some v =>
   rw [hv] at rv
   exact h1 v hv _ _ (I.tok _) rv
 ·rw [hp] at rv
  have hv:valV kvs k=none:=by
   cases hv:valV kvs k with
   | none=>rfl
   | some v=>rw [hv] at rv; exact absurd rv (by intro z; cases z)
  obtain ⟨q,es,ep,hq,h2',h3,h4,_,h5⟩:=dd'
  refine h2 hv _ (d_write I (by rw [e]; exact True.intro) hs ⟨q,hq⟩ ⟨hl',hd,_,(rel.put k eb rz).keeps fun c ys ec=>?_,q,es,ep,hq,h2',h3,h4,h5⟩)
  exact (upd_ne (ne_of ec e (fun z=>nomatch z))).trans ec
end
def tDSetd (td ty tx:TE):TE:=fun σ H Q=>td σ H fun x H1=>∃ a,x=.ref a∧IsD H1 a∧ty σ H1 fun y H2=>tx σ H2 fun z H3=>∃ kvs k b,y=.ref b∧H3 a=some (.dT kvs)∧H3 b=some (.tup (k.map kV))∧kvs.length<sizeLine ∧
 (∀ v,valV kvs k=some v→Q v H3)∧(valV kvs k=none→Q z (upd H3 a (.dT (putK kvs k z))))
theorem pe_dsetd {X:Cx} {o e f:Expr} {apos cpos:Pos} {td ty tx:TE} (hu:X.A.units+1<cLine) (ho:PE X o td) (he:PE X e ty) (hf:PE X f tx) (m:M2 X o "setdefault" apos e f cpos):PE X (.Call (.Attribute o "setdefault" apos) [e,f] [] cpos) (tDSetd td ty tx):=by
 intro pins s σ H Q I h
 refine wpAny_Call_method m.base m.few m.line PySem.F.plainAttrs_dict PySem.F.slot_dict_setdefault PySem.F.type_dict_setdefault (thn (ho pins s σ H _ I h) fun u s1 ⟨x,H1,I1,rx,a,ex,d,q1⟩=>?_)
 subst ex
 obtain rfl:u=Value.ref a:=rx
 obtain ⟨t1,t2,_⟩:=isD_at I1 d
 refine ⟨t1,t2,?_⟩
 rw [m.trees]
 refine Calls.callWith_builtin rfl (Calls.evalArgs_plain (Calls.spliced_cons (thn (he pins s1 σ H1 _ I1 q1) fun iv s2 ⟨y,H2,I2,ry,q2⟩ =>
  Calls.spliced_cons (thn (hf pins s2 σ H2 _ I2 q2) fun fv s3 ⟨z,H3,I3,rz,kvs,k,b,ey,e3,eb,hl,k1,k2⟩=>Calls.spliced_nil ?_))))
 subst ey
 obtain rfl:iv=Value.ref b:=ry
 exact d_setd hu I3 e3 eb hl rz (fun v hv w' s4 I4 rw'=>⟨v,H3,I4,rw',k1 v hv⟩) fun hv s4 I4=>⟨z,_,I4,rz,k2 hv⟩
theorem rd_dsetd {td ty tx:TE} {σ:St} {H:Hp} {Q:VK} (h:td σ H fun x H1=>∃ a,x=.ref a∧IsD H1 a∧ty σ H1 fun y H2=>tx σ H2 fun z H3=>∃ kvs k b,y=.ref b∧H3 a=some (.dT kvs)∧H3 b=some (.tup (k.map kV))∧kvs.length<sizeLine ∧
 (∀ v,valV kvs k=some v→Q v H3)∧(valV kvs k=none→Q z (upd H3 a (.dT (putK kvs k z))))):tDSetd td ty tx σ H Q:=h
end L2
set_option Elab.async false
set_option linter.all false
set_option maxRecDepth 100000
set_option maxHeartbeats 4000000
namespace L2
open PySem PySem.Spec PyProof.Rows PySem.W
section
variable {X:Cx} {pins:List (Addr×Obj)} {σ:St} {H H':Hp} {s:Shared} {h':Heap}
theorem Inv.more {t':Nat} (I:Inv X pins σ H s) (k:∀ b u,s.heap.get? b=some u→h'.get? b=some u) (sm:∀ b o,H b=some o→H' b=some o)
  (new:∀ b o,H' b=some o→H b=some o∨(s.heap.objs.size≤b∧ObjOk X.prog X.w H' h' b o)):Inv X pins σ H' { s with heap:=h',toks:=t' }:=by
 refine I.un ⟨fun b u q _ _ _=>k b u q,fun b u q _ _ _=>⟨u.slots,k b u q⟩,fun b u q n _=>?_,fun b u q _=>⟨u,k b u q⟩,fun b xs q=>sm b _ q,fun b u xs q=>sm b _ q,fun b ps q=>⟨#[],by rw [sm b _ q]; simp⟩⟩ fun b o e=>?_
 ·cases z:H' b with
  | none => rfl
  | some o =>
   rcases new b o z with r | r
   ·rw [n] at r; cases r
   ·exact absurd (Nat.lt_of_lt_of_le (Heap.lt_size q) r.1) (Nat.lt_irrefl _)
 ·rcases new b o e with r | r
  ·exact (I.hok b o r).stay (fun c v _ q=>k c v q) (fun c q=>sm c _ q) fun c xs q=>sm c _ q
  ·exact r.2
end
def ViewAt (T:String) (v d:Addr) (h:Heap):Prop:=∃ o,h.get? v=some o∧o.cls=.type T∧o.data=.fields #[.ref d]
def ViewO (T:String) (v d:Addr):HO:=.ext (ViewAt T v d)
theorem view_ok {P:Program} {w:World} {H:Hp} {h:Heap} {T:String} {d:Addr}:ObjOk P w H (h.push { cls:=.type T,data:=.fields #[.ref d] }) h.objs.size (ViewO T h.objs.size d) :=
 ⟨⟨_,Heap.get?_push_size _ rfl,rfl,rfl⟩,⟨_,Heap.get?_push_size _ rfl⟩,fun h1 h2 ⟨o,e,r⟩ k=>⟨o,k o e,r⟩⟩
def rView (T:String):V→List V→Hp→VK→Prop:=fun x xs H Q=>∃ d kvs,x=.ref d∧xs=[]∧H d=some (.dK kvs)∧∀ v,H v=none→Q (.ref v) (upd H v (ViewO T v d))
section
variable {X:Cx}
theorem mt_values:MtR X "dict.values" (rView "dict_values"):=by
 intro pins s σ H x xs v us Q I rx rs h
 obtain ⟨d,kvs,rfl,rfl,hd,q⟩:=h
 cases (show v=Value.ref d from rx)
 cases rs
 obtain ⟨_,lo,vs,_,dd⟩:=dk_of I.hok hd
 exact call_meetsIn PySem.F.slot_dict_values dd.typeIs PySem.F.entry_dict_values (PySem.F.args_dict_values_1 _) (meets_dict_values (mixKind X.prog X.w) d lo)
  ⟨⟨vs,dd⟩,.ref s.heap.objs.size,_,I.laid (a:=s.heap.objs.size) (o:=ViewO "dict_values" s.heap.objs.size d) (t':=s.toks) (fun b u e=>Heap.get?_push_of_some _ e) (Nat.le_refl _) view_ok,rfl,q _ (I.hok.fresh (Nat.le_refl _))⟩
theorem mt_items:MtR X "dict.items" (rView "dict_items"):=by
 intro pins s σ H x xs v us Q I rx rs h
 obtain ⟨d,kvs,rfl,rfl,hd,q⟩:=h
 cases (show v=Value.ref d from rx)
 cases rs
 obtain ⟨_,lo,vs,_,dd⟩:=dk_of I.hok hd
 exact call_meetsIn PySem.F.slot_dict_items dd.typeIs PySem.F.entry_dict_items (PySem.F.args_dict_items_1 _) (meets_dict_items (mixKind X.prog X.w) d lo)
  ⟨⟨vs,dd⟩,.ref s.heap.objs.size,_,I.laid (a:=s.heap.objs.size) (o:=ViewO "dict_items" s.heap.objs.size d) (t':=s.toks) (fun b u e=>Heap.get?_push_of_some _ e) (Nat.le_refl _) view_ok,rfl,q _ (I.hok.fresh (Nat.le_refl _))⟩
end
theorem kv_vals {κ:Type}:∀ {kvs:List (κ×V)} {vs:List (κ×Value)},KV kvs vs→Vals (kvs.map (·.2)) (vs.map (·.2))
 | _,_,.nil=>.nil
 | _,_,.cons r t=>.cons r.2 (kv_vals t)
theorem kv_get {κ:Type}:∀ {kvs:List (κ×V)} {vs:List (κ×Value)} {i:Nat} {k:κ} {u:Value},KV kvs vs→vs[i]?=some (k,u)→∃ x,kvs[i]?=some (k,x)∧RelV x u
 | _,_,_,_,_,.nil,e=>by simp at e
 | _,_,0,k,u,.cons (a:=p) r t,e=>by
  (simp only [List.getElem?_cons_zero,Option.some.injEq] at e; subst e)
  exact ⟨p.2,congrArg some (Prod.ext r.1 rfl),r.2⟩
 | _,_,i+1,k,u,.cons r t,e=>by
  obtain ⟨x,h1,h2⟩:=kv_get (i:=i) t (by simpa using e)
  exact ⟨x,by simpa using h1,h2⟩
def rListV:List V→Hp→VK→Prop:=fun xs H Q=>∃ v d kvs,xs=[.ref v]∧H v=some (ViewO "dict_values" v d)∧H d=some (.dK kvs)∧∀ l,H l=none→Q (.ref l) (upd H l (.lst (kvs.map (·.2))))
theorem cI_listV {X:Cx} (hc:X.calm=true):CallR X (.type "list") rListV:=by
 intro pins s σ H xs us Q I r h
 obtain ⟨v,d,kvs,rfl,hv,hd,q⟩:=h
 obtain ⟨u,rfl,rx⟩:=vals1 r
 cases rx
 obtain ⟨z,lo,vs,rel,dd⟩:=dk_of I.hok hd
 obtain ⟨ep,at'⟩:=dd.dictAt
 have vw:s.heap.IsValuesView v d:=(show ObjOk X.prog X.w H s.heap v (.ext (ViewAt "dict_values" v d)) from I.hok v _ hv).1
 refine kdl_call (kdl_values (knd:=mixKind X.prog X.w) (kvs:=vs) (ep:=ep)) (I.ok.hd hc) ⟨vw,at'⟩ (by rw [← rel.length]; exact z) fun h' tk acc c kp e it=>?_
 have ea:acc.toList=vs.map (·.2):=kdl_vals_eq acc.toList (by rw [Array.length_toList]; exact it.1) fun j w' hw=>it.2 j w' (by rw [← Array.getElem?_toList]; exact hw)
 refine ⟨.ref s.heap.objs.size,_,I.laid (a:=s.heap.objs.size) (o:=.lst (kvs.map (·.2))) (t':=tk) kp (Nat.le_refl _) ⟨by rw [List.length_map]; exact z,vs.map (·.2),c,kv_vals rel,?_⟩,rfl,q _ (I.hok.fresh (Nat.le_refl _))⟩
 rw [e,← ea,Array.toArray_toList]
theorem rd_listV {H:Hp} {Q:VK} {v d:Addr} {kvs:List (Key×V)} (hv:H v=some (ViewO "dict_values" v d)) (hd:H d=some (.dK kvs)) (q:∀ l,H l=none→Q (.ref l) (upd H l (.lst (kvs.map (·.2))))):rListV [.ref v] H Q:=⟨v,d,kvs,rfl,hv,hd,q⟩
def PwKV (H:Hp) (ys:List V) (kvs:List (Key×V)):Prop:=ys.length=kvs.length∧∀ (i:Nat) y k x,ys[i]?=some y→kvs[i]?=some (k,x)→∃ b,y=.ref b∧H b=some (.tup [kV k,x])
def rListI:List V→Hp→VK→Prop:=fun xs H Q=>∃ v d kvs,xs=[.ref v]∧H v=some (ViewO "dict_items" v d)∧H d=some (.dK kvs)∧∀ l ys H',Same H H'→H l=none→H' l=some (.lst ys)→PwKV H' ys kvs→Q (.ref l) H'
theorem key_rel {P:Program} {w:World} {k:Key} {u:Value} (h:(mixKind P w).is k u=true):RelV (kV k) u:=by
 rcases keyIs_shape (show keyIs k u=true from h) with ⟨i,t,rfl,rfl⟩ | ⟨x,t,rfl,rfl⟩
 ·exact ⟨t,rfl⟩
 ·exact ⟨t,rfl⟩
theorem cI_listI {X:Cx} (hc:X.calm=true):CallR X (.type "list") rListI:=by
  intro pins s σ H xs us Q I r h
  obtain ⟨v,d,kvs,rfl,hv,hd,q⟩:=h
  obtain ⟨u,rfl,rx⟩:=vals1 r
  cases rx
  obtain ⟨z,lo,vs,rel,dd⟩:=dk_of I.hok hd
  obtain ⟨ep,at'⟩:=dd.dictAt
  have vw:s.heap.IsItemsView v d:=(show ObjOk X.prog X.w H s.heap v (.ext (ViewAt "dict_items" v d)) from I.hok v _ hv).1
  have zl:vs.length≤sizeLine:=by rw [← rel.length]; exact z
  refine kdx_call (knd:=mixKind X.prog X.w) (kvs:=vs) (ep:=ep) (I.ok.hd hc) vw at' zl fun h' tk acc c as kp e la G ea=>?_
  -- the abstract heap
  have nd:as.Nodup:=G.rise.imp fun {a b} (z:a<b)=>Nat.ne_of_lt z
  let T:Nat→HO:=fun j=>.tup [kV ((kvs.map (·.1)).getD j (.inl 0)),(kvs.map (·.2)).getD j .non]
  let H':Hp:=fun b=>if b∈as then some (T (as.idxOf b)) else (upd H s.heap.objs.size (.lst (as.map V.ref))) b
  have big:∀ b∈as,s.heap.objs.size<b:=G.above
  have nS:s.heap.objs.size∉as:=fun z=>Nat.lt_irrefl _ (big _ z)
  have sm:Same H H':=fun b o hb=>by
    have lt:b<s.heap.objs.size:=I.hok.lt hb
    show (if b∈as then _ else _)=_
    rw [if_neg (fun z=>absurd (Nat.lt_trans lt (big b z)) (Nat.lt_irrefl _)),upd_ne (Nat.ne_of_lt lt)]; exact hb
  have hl:H' s.heap.objs.size=some (.lst (as.map V.ref)):=by
    show (if _∈as then _ else _)=_
    rw [if_neg nS,upd_same]
  have at2:∀ (j:Nat) (b:Addr) (k:Key) (x:V),as[j]?=some b→kvs[j]?=some (k,x)→H' b=some (.tup [kV k,x]):=fun j b k x hj hk=>by
    have hm:=List.mem_of_getElem? hj
    show (if b∈as then _ else _)=_
    obtain ⟨hlt,hjb⟩:=List.getElem?_eq_some_iff.mp hj
    have ix:as.idxOf b=j:=by rw [← hjb]; exact List.Nodup.idxOf_getElem nd j hlt
    rw [if_pos hm,ix]
    show some (HO.tup [kV ((kvs.map (·.1)).getD j (.inl 0)),(kvs.map (·.2)).getD j .non])=_
    simp only [List.getD_eq_getElem?_getD,List.getElem?_map,hk]
    rfl
  have pw:PwKV H' (as.map V.ref) kvs:=⟨by rw [List.length_map,la,rel.length],fun i y k x hy hk=>by
    rw [List.getElem?_map] at hy
    obtain ⟨b,hb,rfl⟩:=Option.map_eq_some_iff.mp hy
    exact ⟨b,rfl,at2 i b k x hb hk⟩⟩
  have J:Inv X pins σ H' { s with heap:=h',toks:=tk }:=I.more kp sm fun b o hb=>by
    by_cases hm:b∈as
    · right
      refine ⟨Nat.le_of_lt (big b hm),?_⟩
      obtain ⟨j,hj⟩:=List.mem_iff_getElem?.mp hm
      obtain ⟨key,k,xv,h1,h2,h3⟩:=G.pairs j b hj
      obtain ⟨x,e1,e2⟩:=kv_get rel h1
      rw [at2 j b k x hj e1] at hb
      cases hb
      refine ⟨?_,[key,xv],.cons (key_rel h2) (.cons e2 .nil),_,h3,rfl,_,rfl⟩
      show 2≤sizeLine
      decide
    · have hb':upd H s.heap.objs.size (.lst (as.map V.ref)) b=some o:=by
        have:H' b=upd H s.heap.objs.size (.lst (as.map V.ref)) b:=if_neg hm
        rw [← this]; exact hb
      by_cases hs:b=s.heap.objs.size
      · right
        subst hs
        rw [upd_same] at hb'
        cases hb'
        refine ⟨Nat.le_refl _,by rw [List.length_map,la]; exact zl,acc.toList,c,?_,by rw [e,Array.toArray_toList]⟩
        rw [ea]
        have rr:∀ l:List Addr,Vals (l.map V.ref) (l.map Value.ref):=fun l=>by
          induction l with
          | nil=>exact .nil
          | cons a l ih=>exact .cons rfl ih
        exact rr as
      · left
        rw [upd_ne hs] at hb'
        exact hb'
  exact ⟨.ref s.heap.objs.size,H',J,rfl,q _ _ H' sm (I.hok.fresh (Nat.le_refl _)) hl pw⟩
theorem rd_listI {H:Hp} {Q:VK} {v d:Addr} {kvs:List (Key×V)} (hv:H v=some (ViewO "dict_items" v d)) (hd:H d=some (.dK kvs)) (q:∀ l ys H',Same H H'→H l=none→H' l=some (.lst ys)→PwKV H' ys kvs→Q (.ref l) H'):rListI [.ref v] H Q:=⟨v,d,kvs,rfl,hv,hd,q⟩
theorem rd_viewv {H:Hp} {Q:VK} {T:String} {d:Addr} {kvs:List (Key×V)} (hd:H d=some (.dK kvs)) (q:∀ v,H v=none→Q (.ref v) (upd H v (ViewO T v d))):rView T (.ref d) [] H Q:=⟨d,kvs,rfl,rfl,hd,q⟩
theorem rd_bmD {K:PySem.W.Frag} {H:Hp} {d:Addr} {kvs:List (Key×V)} {q:Prop} (hd:H d=some (.dK kvs)) (hq:q):rBM K "dict" (.ref d) H q:=⟨.inr (.inr (.inl ⟨rfl,.inl ⟨kvs,hd⟩⟩)),hq⟩
def rInD:R2:=fun x y H Q=>∃ (ds:List PyData) (d:PyData),Rep H (.list ds) y∧Rep H d x∧PyData.canLayAll0 ds=true∧d.canLay0=true∧d.depth≤60∧Q (.bl (ds.any fun y=>PyData.eqv y d)) H
theorem op_inD {X:Cx} (hu:X.A.units+64<cLine):OpR X (compareOp .In) rInD:=by
 intro pins s σ H x y v u Q I rx ry h
 obtain ⟨ds,d,h1,h2,s1,s2,s3,q⟩:=h
 obtain ⟨as,r1⟩:=h1.reads I ry
 obtain ⟨bs,r2⟩:=h2.reads I rx
 exact SeqAt.in_list_reads r1 r2 s1 s2 (by have:=Nat.min_le_right (PyData.depthAll ds) d.depth; omega) ⟨.bl _,H,I,rfl,q⟩
end L2
set_option Elab.async false
set_option linter.all false
set_option maxRecDepth 100000
set_option maxHeartbeats 4000000
namespace L2
open PySem PySem.Spec PyProof.Rows PySem.W
def RawAt (d:Addr) (es:Array DictEntry) (ep:Nat) (h:Heap):Prop:=∃ o,h.get? d=some o∧o.ExactDict∧o.data=.dict es ep
section
variable {prog:Program} {w:World} {A:Around} {E:Value→Shared→Prop} {s:Shared} {d it:Addr} {es:Array DictEntry} {ep i n:Nat}
theorem RawAt.ty (r:RawAt d es ep s.heap):s.TypeIs (.ref d) "dict":=let ⟨o,e,x,_⟩:=r; ⟨o,e,x.1⟩
theorem RawAt.lt {h:Heap} (r:RawAt d es ep h):d<h.objs.size:=let ⟨_,e,_⟩:=r; Heap.lt_size e
theorem RawAt.mv {h h':Heap} (r:RawAt d es ep h) (k:∀ o,h.get? d=some o→h'.get? d=some o):RawAt d es ep h':=let ⟨o,e,x⟩:=r; ⟨o,k o e,x⟩
theorem raw_iter {Q:Value→Shared→Prop} (lo:(d==sysModules)=false) (r:RawAt d es ep s.heap)
  (q:Q (.ref s.heap.objs.size) { s with heap:=s.heap.push { cls:=.type "dict_keyiterator",data:=.fields #[.ref d,.int 0 0,.int es.size 0,.int ep 0] } }):wpAny (model prog w) A (pyIter (.ref d)) Q E s:=by
 obtain ⟨ob,eo,xo,dto⟩:=id r
 refine wpAny_pyIter_slot r.ty F.slot_dict_iter (wpAny_call_entry F.slot_dict_iter r.ty F.entry_dict_iter ?g1 (F.args_dict_iter_1 _))
 case g1 =>
  unfold Builtin.«dict.__iter__» Builtin.Dict.dictSlotNone
  have sh:Builtin.Dict.showsAll d=pure ():=by unfold Builtin.Dict.showsAll; rw [lo]; rfl
  refine wpAny_bind (wpAny_bind (wpAny_notOrdered_dict r.ty (show wpAny _ _ (pure (Value.ref d)) _ _ s from wpAny_pure (show wpAny _ _ (Builtin.Dict.showsAll d >>= _) _ _ s from ?g2))))
  case g2 =>
   rw [sh]
   refine wpAny_bind (wpAny_pure (wpAny_bind (wpAny_dictEntries eo dto (wpAny_bind (wpAny_dictEpoch eo dto (wpAny_bind (wpAny_newObj_type (wpAny_pure ⟨_,rfl,"dict_keyiterator",_,⟨_,Heap.get?_push_size _ rfl,rfl⟩,F.slot_dict_keyiterator_next.lookup,?g3⟩))))))))
   case g3=>simpa [rawInt] using q
theorem own_no:Builtin.Dict_items.ownsTuple "dict_keyiterator"=false:=by decide
theorem raw_item {e:DictEntry} {Q:Option Value→Shared→Prop} (hit:s.heap.IsKeyIter it d i es.size ep) (r:RawAt d es ep s.heap) (hx:es[i]?=some e)
  (q:∀ h',h'.IsKeyIter it d (i+1) es.size ep→Heap.SameBut it s.heap h'→Q (some e.key) { s with heap:=h' }):wpAny (model prog w) A (pyNext (.ref it)) Q E s:=by
 obtain ⟨oi,ei,ci,di⟩:=id hit
 obtain ⟨ob,eo,xo,dto⟩:=id r
 obtain ⟨hlt,hxe⟩:=Array.getElem?_eq_some_iff.mp hx
 have nn:¬ ((i:Int)<0):=Int.not_lt.mpr (Int.natCast_nonneg i)
 have hn:(s.heap.update it (Obj.mapFields (·.setIfInBounds 1 (rawInt ((i:Int)+1))))).IsKeyIter it d (i+1) es.size ep :=
  ⟨_,Heap.get?_update_self _ ei (Obj.isFreed_of_fields (Obj.data_mapFields di _)),(Obj.cls_mapFields ..).trans ci,(Obj.data_mapFields di _).trans (by simp [rawInt])⟩
 unfold pyNext
 refine wpAny_bind (wpAny_attempt (wpAny_callSpecial?_slot (name:=Str.ofString "__next__") hit.typeIs F.slot_dict_keyiterator_next (wpAny_call_entry F.slot_dict_keyiterator_next hit.typeIs F.entry_dict_keyiterator_next ?g1 (F.args_dict_keyiterator_next_1 _))))
 case g1 =>
  refine wpAny_bind (wpAny_pure (wpAny_bind (wpAny_bind (wpAny_bind (wpAny_typeNameOfWhole_keyiter hit.typeIs (wpAny_pure (wpAny_bind (wpAny_fieldsOf ei di ?g2))))))))
  case g2 =>
   simp only [own_no,Bool.false_eq_true,if_false]
   (show wpAny _ _ (if (Value.ref d==Value.none)=true then _ else _) _ _ s; rw [show (Value.ref d==Value.none)=false from rfl,if_neg Bool.false_ne_true])
   refine wpAny_bind (wpAny_pure (wpAny_bind (wpAny_dictEntries eo dto ?g3)))
   case g3 =>
    rw [if_neg (by simp)]
    refine wpAny_bind (wpAny_pure (wpAny_bind (wpAny_dictEpoch eo dto ?g4)))
    case g4 =>
     rw [if_neg (by simp)]
     refine wpAny_pure ?g5
     case g5 =>
      simp only [nn,if_false,Int.toNat_natCast,hx]
      refine wpAny_bind (wpAny_bind (wpAny_typeNameOfWhole_keyiter hit.typeIs (wpAny_pure (wpAny_bind (wpAny_isOneOf_keyiter hit.typeIs (show wpAny _ _ (setField (.ref it) 1 (rawInt ((i:Int)+1)) >>= _) _ _ s from wpAny_bind (wpAny_setField ei di (by simp) (wpAny_bind (wpAny_holding (wpAny_bind (wpAny_isOneOf_keyiter hn.typeIs ?g6)))))))))))
      case g6 =>
       show wpAny _ _ (pure e.key) _ _ _
       exact wpAny_pure (wpAny_pure ⟨_,rfl,wpAny_pure (q _ hn (Heap.SameBut.update ..))⟩)
theorem raw_end {Q:Option Value→Shared→Prop} (hh:A.handled=none) (hit:s.heap.IsKeyIter it d es.size es.size ep) (r:RawAt d es ep s.heap)
  (q:∀ h',Heap.ExtBut it s.heap h'→Q none { s with heap:=h' }):wpAny (model prog w) A (pyNext (.ref it)) Q E s:=by
 obtain ⟨oi,ei,ci,di⟩:=id hit
 obtain ⟨ob,eo,xo,dto⟩:=id r
 have nn:¬ ((es.size:Int)<0):=Int.not_lt.mpr (Int.natCast_nonneg _)
 have hx:es[es.size]?=none:=Array.getElem?_eq_none (Nat.le_refl _)
 unfold pyNext
 refine wpAny_bind (wpAny_attempt (wpAny_callSpecial?_slot (name:=Str.ofString "__next__") hit.typeIs F.slot_dict_keyiterator_next (wpAny_call_entry F.slot_dict_keyiterator_next hit.typeIs F.entry_dict_keyiterator_next ?g1 (F.args_dict_keyiterator_next_1 _))))
 case g1 =>
  refine wpAny_bind (wpAny_pure (wpAny_bind (wpAny_bind (wpAny_bind (wpAny_typeNameOfWhole_keyiter hit.typeIs (wpAny_pure (wpAny_bind (wpAny_fieldsOf ei di ?g2))))))))
  case g2 =>
   simp only [own_no,Bool.false_eq_true,if_false]
   (show wpAny _ _ (if (Value.ref d==Value.none)=true then _ else _) _ _ s; rw [show (Value.ref d==Value.none)=false from rfl,if_neg Bool.false_ne_true])
   refine wpAny_bind (wpAny_pure (wpAny_bind (wpAny_dictEntries eo dto ?g3)))
   case g3 =>
    rw [if_neg (by simp)]
    refine wpAny_bind (wpAny_pure (wpAny_bind (wpAny_dictEpoch eo dto ?g4)))
    case g4 =>
     rw [if_neg (by simp)]
     refine wpAny_pure ?g5
     case g5 =>
      simp only [nn,if_false,Int.toNat_natCast,hx]
      refine wpAny_bind (wpAny_bind (wpAny_typeNameOfWhole_keyiter hit.typeIs (wpAny_pure (show wpAny _ _ (setField (.ref it) 0 .none >>= _) _ _ s from wpAny_bind (wpAny_setField ei di (by simp) (show wpAny _ _ (newExc (.type "StopIteration") [] >>= _) _ _ _ from wpAny_bind ?g6))))))
      case g6 =>
       simp only [newExc,newTuple]
       refine wpAny_bind (wpAny_newObj_type (wpAny_bind (m:=firstArgMember _ _) (wpAny_of_eq (a:=Value.none) (by first | rfl | (simp only [firstArgMember]; rfl)) (wpAny_newObj_type ?g7 (by size_fits)))) (by size_fits))
       case g7 =>
        simp only [raiseNew]
        refine wpAny_bind (wpAny_handled ?g8)
        case g8 =>
         (rw [show A.in1.handled=none from hh]; refine wpAny_bind (wpAny_pure (wpAny_throw ?g9)))
         case g9=>exact wpAny_bind (wpAny_isInstance (T:="StopIteration") (b:=true) ⟨_,Heap.get?_push_size _ rfl,rfl⟩ isSubtype_stop (wpAny_pure (q _ (((Heap.SameBut.update ..).extBut.push _).push _))))
theorem raw_src (lo:(d==sysModules)=false):KdlSrc prog w "dict" d d es.size (fun i v=>∃ e,es[i]?=some e∧v=e.key) (RawAt d es ep) where
 type:=fun _ r=>r.ty
 there:=fun _ r=>⟨r.lt,r.lt⟩
 keep:=fun _ _ r k=>r.mv fun o e=>k d (.inl rfl) o e
 notList:=by decide
 notTuple:=by decide
 hint:=fun _ _ _ _ r q=>kdl_hint_dict r.ty q
 iter:=fun A s hh r=>by
  have ne:d≠s.heap.objs.size:=Nat.ne_of_lt r.lt
  refine ⟨_,fun i h=>h.IsKeyIter s.heap.objs.size d i es.size ep∧RawAt d es ep h,fun E Q q=>raw_iter lo r q,⟨fun b hb=>by simp at hb; simp [hb],fun i h h' st k=>⟨st.1.at fun o e=>k _ (by simp) o e,st.2.mv fun o e=>k d (by simp) o e⟩,fun i s1 Q E hi st q=>?_,fun s1 Q E st q=>?_,fun i s1 Q E st q=>wpAny_pyIter_keyiter st.1 q⟩,⟨_,Heap.get?_push_size _ rfl,rfl,rfl⟩,r.mv fun o e=>Heap.get?_push_of_some _ e⟩
  ·have hx:es[i]?=some es[i]:=Array.getElem?_eq_getElem hi
   exact raw_item st.1 st.2 hx fun h' hit' sb=>q _ h' s1.toks ⟨_,hx,rfl⟩ ⟨hit',st.2.mv fun o e=>sb.extBut d o ne e⟩ fun b o hb e=>sb.extBut b o (fun z=>hb (by simp [z])) e
  ·exact raw_end hh st.1 st.2 fun h' eb=>q h' s1.toks fun b o hb e=>eb b o (fun z=>hb (by simp [z])) e
end
def PwK (H:Hp) (ys:List V) (ks:List (List Key)):Prop:=ys.length=ks.length∧∀ (i:Nat) y k,ys[i]?=some y→ks[i]?=some k→∃ b,y=.ref b∧H b=some (.tup (k.map kV))
def rListD:List V→Hp→VK→Prop:=fun xs H Q=>∃ d kvs,xs=[.ref d]∧H d=some (.dT kvs)∧∀ l ys,H l=none→PwK H ys (kvs.map (·.1))→Q (.ref l) (upd H l (.lst ys))
theorem cI_listD {X:Cx} (hc:X.calm=true):CallR X (.type "list") rListD:=by
 intro pins s σ H xs us Q I r h
 obtain ⟨d,kvs,rfl,hd,q⟩:=h
 obtain ⟨u,rfl,rx⟩:=vals1 r
 cases rx
 obtain ⟨z,lo,zs,rel,o,es,ep,eo,xo,dto,he,nd⟩:=I.hok d _ hd
 have sz:es.size=kvs.length:=by rw [← Array.length_toList,he,List.length_map,← Paired.length rel]
 refine kdl_call (raw_src (es:=es) (ep:=ep) lo) (I.ok.hd hc) ⟨o,eo,xo,dto⟩ (by rw [sz]; exact z) fun h' tk acc c kp e it=>?_
 have key:∀ (i:Nat) (v:Value),acc.toList[i]?=some v→∃ x,zs[i]?=some x∧v=.ref x.2.1:=fun i v hv=>by
  obtain ⟨en,h1,h2⟩:=it.2 i v (by rw [← Array.getElem?_toList]; exact hv)
  rw [← Array.getElem?_toList,he,List.getElem?_map] at h1
  obtain ⟨x,h3,rfl⟩:=Option.map_eq_some_iff.mp h1
  exact ⟨x,h3,h2⟩
 have la:acc.toList.length=zs.length:=by rw [Array.length_toList,it.1,← Array.length_toList,he,List.length_map]
 have ea:acc.toList=(zs.map fun x=>Value.ref x.2.1):=List.ext_getElem? fun i=>by
  cases hv:acc.toList[i]? with
  | none =>
   rw [List.getElem?_eq_none_iff] at hv
   rw [List.getElem?_eq_none (by rw [List.length_map]; omega)]
  | some v =>
   obtain ⟨x,h1,h2⟩:=key i v hv
   rw [List.getElem?_map,h1,h2]; rfl
 have rr:∀ l:List (List Key×Addr×Value),Vals (l.map fun x=>V.ref x.2.1) (l.map fun x=>Value.ref x.2.1):=fun l=>by
  induction l with
  | nil => exact .nil
  | cons a l ih => exact .cons rfl ih
 have pw:PwK H (zs.map fun x=>V.ref x.2.1) (kvs.map (·.1)):=by
  refine ⟨by rw [List.length_map,List.length_map,Paired.length rel],fun i y k hy hk=>?_⟩
  rw [List.getElem?_map] at hy hk
  obtain ⟨x,h1,rfl⟩:=Option.map_eq_some_iff.mp hy
  obtain ⟨p,h2,rfl⟩:=Option.map_eq_some_iff.mp hk
  have g:∀ {kvs:List (List Key×V)} {zs:List (List Key×Addr×Value)} {i:Nat} {p:List Key×V} {x:List Key×Addr×Value},Paired (fun (p:List Key×V) (q:List Key×Addr×Value)=>p.1=q.1∧H q.2.1=some (.tup (p.1.map kV))∧RelV p.2 q.2.2) kvs zs→kvs[i]?=some p→zs[i]?=some x→H x.2.1=some (.tup (p.1.map kV)):=by
   intro kvs zs i p x rel
   induction rel generalizing i with
   | nil=>intro h; simp at h
   | cons r t ih =>
    intro h1 h2
    cases i with
    | zero =>
     simp only [List.getElem?_cons_zero,Option.some.injEq] at h1 h2
     subst h1 h2
     exact r.2.1
    | succ i=>exact ih (by simpa using h1) (by simpa using h2)
  exact ⟨x.2.1,rfl,g rel h2 h1⟩
 refine ⟨.ref s.heap.objs.size,_,I.laid (a:=s.heap.objs.size) (o:=.lst (zs.map fun x=>V.ref x.2.1)) (t':=tk) kp (Nat.le_refl _) ⟨by rw [List.length_map,← Paired.length rel]; exact z,_,c,rr zs,?_⟩,rfl,q _ _ (I.hok.fresh (Nat.le_refl _)) pw⟩
 rw [e,← ea,Array.toArray_toList]
theorem rd_listD {H:Hp} {Q:VK} {d:Addr} {kvs:List (List Key×V)} (hd:H d=some (.dT kvs)) (q:∀ l ys,H l=none→PwK H ys (kvs.map (·.1))→Q (.ref l) (upd H l (.lst ys))):rListD [.ref d] H Q:=⟨d,kvs,rfl,hd,q⟩
end L2
set_option Elab.async false
set_option linter.all false
set_option maxRecDepth 100000
set_option maxHeartbeats 4000000
namespace L2
open PySem PySem.Spec PyProof.Rows PySem.W
def tDisp1 (tk tv:TE):TE:=fun σ H Q=>∀ p,H p=none→tk σ (upd H p (.dT [])) fun x H1=>tv σ H1 fun y H2=>∃ b ks z,[(x,y)]=[(V.ref b,z)]∧H2 b=some (.tup (ks.map kV))∧H2 p=some (.dT [])∧Q (.ref p) (upd H2 p (.dT [(ks,z)]))
theorem pe_disp1 {X:Cx} {pos:Pos} {k v:Expr} {tk tv:TE} (hu:X.A.units+1<cLine) (hk:PE X k tk) (hv:PE X v tv):PE X (.Dict [some k] [v] pos) (tDisp1 tk tv):=by
 intro pins s σ H Q I q
 have hn:=I.hok.fresh (Nat.le_refl s.heap.objs.size)
 have I1:=I.laid (a:=s.heap.objs.size) (o:=.dT []) (h':=s.heap.push { cls:=.type "dict",data:=.dict #[] }) (t':=s.toks) (fun _ _ q=>Heap.get?_push_of_some _ q) (Nat.le_refl _) (dt_empty s.heap I.big)
 have pp:=pps_cons (pos:=pos) hk hv pps_nil pins _ σ _ (fun ps H2=>∃ b ks y,ps=[(.ref b,y)]∧H2 b=some (.tup (ks.map kV))∧H2 s.heap.objs.size=some (.dT [])∧Q (.ref s.heap.objs.size) (upd H2 s.heap.objs.size (.dT [(ks,y)]))) I1
 refine wpAny_Dict_any rfl rfl (fun z=>nomatch z) (Nat.le_add_left 1 14) (thn (pp ?_) fun ws s2 ⟨ps,H2,I2,rel,b,ks,y,ep,eb,ed,q2⟩=>?_)
 ·exact q _ hn
 ·subst ep
  cases rel with
  | @cons _ u _ _ r t =>
   cases t
   obtain ⟨u1,u2⟩:=u
   obtain ⟨r1,r2⟩:=r
   cases (show u1=Value.ref b from r1)
   obtain ⟨z,lo,xs,rl,dd⟩:=dt_of I2.hok ed
   cases rl
   have hu':(tupleKind (mixKind X.prog X.w)).room X.A:=(by show X.A.units<cLine; omega)
   unfold storeAll
   rw [List.forIn_cons]
   refine wpAny_bind (wpAny_bind (wpAny_dictSet_heap (hsz:=Nat.zero_le _) hu' (key_of I2.hok eb) dd fun h' dd' hs=>wpAny_pure ?_))
   dsimp only
   rw [List.forIn_nil]
   refine wpAny_pure ?_
   obtain ⟨q',es,ep,hq,h2',h3,h4,_,h5⟩:=dd'
   refine ⟨.ref s.heap.objs.size,_,d_write (ob:=.dT [(ks,y)]) I2 (by rw [ed]; exact True.intro) hs ⟨q',hq⟩ ⟨by show 1≤sizeLine; decide,lo,storedH [] ks b u2,?_,q',es,ep,hq,h2',h3,h4,h5⟩,rfl,q2⟩
   exact .cons ⟨rfl,(upd_ne (ne_of eb ed (fun z=>nomatch z))).trans eb,r2⟩ .nil
theorem rd_disp1 {tk tv:TE} {σ:St} {H:Hp} {Q:VK} (h:∀ p,H p=none→tk σ (upd H p (.dT [])) fun x H1=>tv σ H1 fun y H2=>∃ b ks z,[(x,y)]=[(V.ref b,z)]∧H2 b=some (.tup (ks.map kV))∧H2 p=some (.dT [])∧Q (.ref p) (upd H2 p (.dT [(ks,z)]))):tDisp1 tk tv σ H Q:=h
end L2
set_option linter.all false
set_option Elab.async false
set_option maxHeartbeats 4000000
namespace Fm
abbrev Strip:=List L2.Key
abbrev Tie:=Strip×Strip×Int
inductive Con (F:List Tie):Strip→Strip→Prop
 | refl (a:Strip):Con F a a
 | fwd {a b c:Strip} {w:Int}:Con F a b→(b,c,w)∈F→Con F a c
 | bwd {a b c:Strip} {w:Int}:Con F a b→(c,b,w)∈F→Con F a c
section
variable {F:List Tie} {v:Strip→Int} {G:Strip→Strip×Int} {D:List Strip}
theorem Con.trans {a b c:Strip} (h:Con F a b) (k:Con F b c):Con F a c:=by
 induction k with
 | refl=>exact h
 | fwd _ e ih=>exact .fwd ih e
 | bwd _ e ih=>exact .bwd ih e
theorem Con.one {a b:Strip} {w:Int} (e:(a,b,w)∈F):Con F a b:=.fwd (.refl a) e
theorem Con.symm {a b:Strip} (h:Con F a b):Con F b a:=by
 induction h with
 | refl=>exact .refl _
 | fwd _ e ih=>exact (Con.bwd (.refl _) e).trans ih
 | bwd _ e ih=>exact (Con.one e).trans ih
theorem Con.mono {F':List Tie} (s:∀ e∈F,e∈F') {a b:Strip} (h:Con F a b):Con F' a b:=by
 induction h with
 | refl=>exact .refl _
 | fwd _ e ih=>exact .fwd ih (s _ e)
 | bwd _ e ih=>exact .bwd ih (s _ e)
theorem con_nil {a b:Strip}:Con [] a b↔a=b:=by
 constructor
 ·intro h
  induction h with
  | refl => rfl
  | fwd _ e _ => cases e
  | bwd _ e _ => cases e
 ·rintro rfl; exact .refl _
theorem con_snoc {e:Tie} {a b:Strip}:Con (F++[e]) a b↔Con F a b∨(Con F a e.1∧Con F e.2.1 b)∨(Con F a e.2.1∧Con F e.1 b):=by
 have up:∀ {a b},Con F a b→Con (F++[e]) a b:=fun h=>h.mono fun x hx=>List.mem_append_left _ hx
 have me:(e.1,e.2.1,e.2.2)∈F++[e]:=List.mem_append_right _ List.mem_cons_self
 constructor
 ·intro h
  induction h with
  | refl => exact .inl (.refl _)
  | @fwd b c w _ hm ih =>
   rcases List.mem_append.mp hm with hm | hm
   ·rcases ih with h | ⟨h1,h2⟩ | ⟨h1,h2⟩
    ·exact .inl (.fwd h hm)
    ·exact .inr (.inl ⟨h1,.fwd h2 hm⟩)
    ·exact .inr (.inr ⟨h1,.fwd h2 hm⟩)
   ·cases List.mem_singleton.mp hm
    rcases ih with h | ⟨h1,h2⟩ | ⟨h1,h2⟩
    ·exact .inr (.inl ⟨h,.refl _⟩)
    ·exact .inr (.inl ⟨h1,.refl _⟩)
    ·exact .inl h1
  | @bwd b c w _ hm ih =>
   rcases List.mem_append.mp hm with hm | hm
   ·rcases ih with h | ⟨h1,h2⟩ | ⟨h1,h2⟩
    ·exact .inl (.bwd h hm)
    ·exact .inr (.inl ⟨h1,.bwd h2 hm⟩)
    ·exact .inr (.inr ⟨h1,.bwd h2 hm⟩)
   ·cases List.mem_singleton.mp hm
    rcases ih with h | ⟨h1,h2⟩ | ⟨h1,h2⟩
    ·exact .inr (.inr ⟨h,.refl _⟩)
    ·exact .inl h1
    ·exact .inr (.inr ⟨h1,.refl _⟩)
 ·rintro (h | ⟨h1,h2⟩ | ⟨h1,h2⟩)
  ·exact up h
  ·exact ((up h1).trans (.one me)).trans (up h2)
  ·exact ((up h1).trans (Con.one me).symm).trans (up h2)
def Sat (v:Strip→Int) (F:List Tie):Prop:=∀ e∈F,e.2.2=(v e.1+v e.2.1)%2
structure GrOk (D:List Strip) (F:List Tie) (v:Strip→Int) (G:Strip→Strip×Int):Prop where
 lead:∀ s∈D,∀ t∈D,((G s).1=(G t).1↔Con F s t)
 wt:∀ s∈D,∀ t∈D,Con F s t→((G s).2+(G t).2)%2=(v s+v t)%2
def lone:Strip→Strip×Int:=fun s=>(s,0)
theorem GrOk.lone:GrOk D [] v Fm.lone:=⟨fun s _ t _=>con_nil.symm,fun s _ t _ h=>by rw [con_nil.mp h]; show (0+0:Int)%2=_; omega⟩
def tieG (G:Strip→Strip×Int) (e:Tie):Strip→Strip×Int:=fun s =>
 if (G e.1).1=(G e.2.1).1 then G s else if (G s).1=(G e.2.1).1 then ((G e.1).1,((G s).2+((G e.1).2+(G e.2.1).2+e.2.2)%2)%2) else G s
theorem GrOk.tie (h:GrOk D F v G) {e:Tie} (h1:e.1∈D) (h2:e.2.1∈D) (hw:e.2.2=(v e.1+v e.2.1)%2):GrOk D (F++[e]) v (tieG G e):=by
 by_cases c:(G e.1).1=(G e.2.1).1
 ·have cc:=(h.lead _ h1 _ h2).mp c
  have eq:∀ {a b},Con (F++[e]) a b↔Con F a b:=fun {a b}=>by
   rw [con_snoc]
   constructor
   ·rintro (h | ⟨h1,h2⟩ | ⟨h1,h2⟩)
    ·exact h
    ·exact (h1.trans cc).trans h2
    ·exact (h1.trans cc.symm).trans h2
   ·exact .inl
  have tg:tieG G e=G:=funext fun s=>if_pos c
  rw [tg]
  exact ⟨fun s hs t ht=>(h.lead s hs t ht).trans eq.symm,fun s hs t ht hc=>h.wt s hs t ht (eq.mp hc)⟩
 ·have nc:¬ Con F e.1 e.2.1:=fun z=>c ((h.lead _ h1 _ h2).mpr z)
  have tg:∀ s,tieG G e s=if (G s).1=(G e.2.1).1 then ((G e.1).1,((G s).2+((G e.1).2+(G e.2.1).2+e.2.2)%2)%2) else G s:=fun s=>if_neg c
  have cl:∀ s∈D,((G s).1=(G e.2.1).1↔Con F s e.2.1):=fun s hs=>h.lead s hs _ h2
  refine ⟨fun s hs t ht=>?_,fun s hs t ht hc=>?_⟩
  ·rw [tg,tg,con_snoc]
   by_cases a:(G s).1=(G e.2.1).1
   ·have a':=(cl s hs).mp a
    rw [if_pos a]
    by_cases b:(G t).1=(G e.2.1).1
    ·have b':=(cl t ht).mp b
     rw [if_pos b]
     exact ⟨fun _=>.inl (a'.trans b'.symm),fun _=>rfl⟩
    ·rw [if_neg b]
     have b':¬ Con F t e.2.1:=fun z=>b ((cl t ht).mpr z)
     have l1:=h.lead _ h1 t ht
     constructor
     ·intro z; exact .inr (.inr ⟨a',l1.mp z⟩)
     ·rintro (z | ⟨z1,z2⟩ | ⟨z1,z2⟩)
      ·exact absurd (z.symm.trans a') b'
      ·exact absurd (z2.symm) b'
      ·exact l1.mpr z2
   ·have a':¬ Con F s e.2.1:=fun z=>a ((cl s hs).mpr z)
    rw [if_neg a]
    by_cases b:(G t).1=(G e.2.1).1
    ·have b':=(cl t ht).mp b
     rw [if_pos b]
     have l1:=h.lead s hs _ h1
     constructor
     ·intro z; exact .inr (.inl ⟨l1.mp z,b'.symm⟩)
     ·rintro (z | ⟨z1,z2⟩ | ⟨z1,z2⟩)
      ·exact absurd (z.trans b') a'
      ·exact l1.mpr z1
      ·exact absurd z1 a'
    ·rw [if_neg b]
     have b':¬ Con F t e.2.1:=fun z=>b ((cl t ht).mpr z)
     have l1:=h.lead s hs t ht
     constructor
     ·intro z; exact .inl (l1.mp z)
     ·rintro (z | ⟨z1,z2⟩ | ⟨z1,z2⟩)
      ·exact l1.mpr z
      ·exact absurd z2.symm b'
      ·exact absurd z1 a'
  ·rw [tg,tg]
   have w1:=fun s hs (z:Con F s e.1)=>h.wt s hs _ h1 z
   have w2:=fun s hs (z:Con F s e.2.1)=>h.wt s hs _ h2 z
   have key:∀ s∈D,∀ t∈D,Con F s e.2.1→Con F t e.1→(((G s).2+((G e.1).2+(G e.2.1).2+e.2.2)%2)%2+(G t).2)%2=(v s+v t)%2:=fun s hs t ht z1 z2=>by
    have:=w2 s hs z1
    have:=w1 t ht z2
    omega
   rcases con_snoc.mp hc with z | ⟨z1,z2⟩ | ⟨z1,z2⟩
   ·have w0:=h.wt s hs t ht z
    by_cases a:(G s).1=(G e.2.1).1
    ·have b:(G t).1=(G e.2.1).1:=(cl t ht).mpr (z.symm.trans ((cl s hs).mp a))
     rw [if_pos a,if_pos b]
     dsimp only
     omega
    ·have b:¬ (G t).1=(G e.2.1).1:=fun b=>a ((cl s hs).mpr (z.trans ((cl t ht).mp b)))
     rw [if_neg a,if_neg b]; exact w0
   ·have a:¬ (G s).1=(G e.2.1).1:=fun a=>nc (z1.symm.trans ((cl s hs).mp a))
    have b:(G t).1=(G e.2.1).1:=(cl t ht).mpr z2.symm
    rw [if_neg a,if_pos b]
    have:=key t ht s hs z2.symm z1
    dsimp only
    rw [Int.add_comm,Int.add_comm (v s)]; exact this
   ·have a:(G s).1=(G e.2.1).1:=(cl s hs).mpr z1
    have b:¬ (G t).1=(G e.2.1).1:=fun b=>nc (z2.trans ((cl t ht).mp b))
    rw [if_pos a,if_neg b]
    exact key s hs t ht z1 z2.symm
def tiesG (F:List Tie) (G:Strip→Strip×Int):Strip→Strip×Int:=F.foldl tieG G
theorem GrOk.ties:∀ {F' F:List Tie} {G:Strip→Strip×Int},GrOk D F v G→(∀ e∈F',e.1∈D∧e.2.1∈D)→Sat v F'→GrOk D (F++F') v (tiesG F' G)
 | [],F,G,h,_,_=>by rw [List.append_nil]; exact h
 | e::F',F,G,h,hd,hs=>by
  have:=GrOk.ties (F':=F') (F:=F++[e]) (h.tie (hd e List.mem_cons_self).1 (hd e List.mem_cons_self).2 (hs e List.mem_cons_self)) (fun x hx=>hd x (List.mem_cons_of_mem _ hx)) fun x hx=>hs x (List.mem_cons_of_mem _ hx)
  rw [List.append_assoc] at this
  exact this
theorem GrOk.of (hd:∀ e∈F,e.1∈D∧e.2.1∈D) (hs:Sat v F):GrOk D F v (tiesG F Fm.lone):=by
 have:=(GrOk.lone (D:=D) (v:=v)).ties hd hs
 rwa [List.nil_append] at this
theorem closed_con {a:Strip} {K:List Strip} (h:a∈K) (cl:∀ e∈F,e.1∈K↔e.2.1∈K) {b:Strip} (hc:Con F a b):b∈K:=by
 induction hc with
 | refl=>exact h
 | fwd _ e ih=>exact (cl _ e).mp ih
 | bwd _ e ih=>exact (cl _ e).mpr ih
end
end Fm
set_option linter.all false
namespace Fm
variable {E:Strip→Strip→Int→Prop}
structure Tree (E:Strip→Strip→Int→Prop) (root:Strip) (ms:List Strip) (ps:List (Nat×Int)):Prop where
 hd:ms[0]?=some root
 nd:ms.Nodup
 len:ps.length=ms.length
 par:∀ (j:Nat) s p n,0<j→ms[j]?=some s→ps[j]?=some (p,n)→p<j∧∃ s',ms[p]?=some s'∧E s s' n
theorem Tree.one {root:Strip}:Tree E root [root] [(0,0)] :=
 ⟨rfl,by simp,rfl,fun j s p n h e=>by
  cases j with
  | zero => exact absurd h (Nat.lt_irrefl _)
  | succ j => simp at e⟩
theorem Tree.snoc {root:Strip} {ms:List Strip} {ps:List (Nat×Int)} {s s':Strip} {p:Nat} {n:Int} (h:Tree E root ms ps) (hs:s∉ms) (hp:ms[p]?=some s') (e:E s s' n):Tree E root (ms++[s]) (ps++[(p,n)]):=by
 have lp:p<ms.length:=(List.getElem?_eq_some_iff.mp hp).1
 refine ⟨?_,?_,by rw [List.length_append,List.length_append,h.len]; rfl,fun j u q m h0 h1 h2=>?_⟩
 ·rw [List.getElem?_append_left (by omega)]; exact h.hd
 ·rw [List.nodup_append]
  exact ⟨h.nd,by simp,fun a ha b hb z=>hs (by rw [← List.mem_singleton.mp hb,← z]; exact ha)⟩
 ·by_cases hj:j<ms.length
  ·rw [List.getElem?_append_left hj] at h1
   rw [List.getElem?_append_left (by rw [h.len]; exact hj)] at h2
   obtain ⟨a,b,c,d⟩:=h.par j u q m h0 h1 h2
   exact ⟨a,b,by rw [List.getElem?_append_left (by omega)]; exact c,d⟩
  ·rw [List.getElem?_append_right (by omega)] at h1
   rw [List.getElem?_append_right (by rw [h.len]; omega),h.len] at h2
   have:j - ms.length=0:=by
    have hh:=(List.getElem?_eq_some_iff.mp h1).1
    rw [List.length_singleton] at hh
    omega
   rw [this] at h1 h2
   cases h1; cases h2
   exact ⟨by omega,s',by rw [List.getElem?_append_left lp]; exact hp,e⟩
inductive Way (E:Strip→Strip→Int→Prop) (root:Strip):Strip→List Int→Prop
 | here:Way E root root []
 | on {s s':Strip} {n:Int} {ns:List Int}:E s s' n→Way E root s' ns→Way E root s (n::ns)
inductive Back (ps:List (Nat×Int)):Nat→List Int→Prop
 | zero:Back ps 0 []
 | succ {j p:Nat} {n:Int} {ns:List Int}:0<j→ps[j]?=some (p,n)→p<j→Back ps p ns→Back ps j (n::ns)
theorem Back.way {root:Strip} {ms:List Strip} {ps:List (Nat×Int)} (h:Tree E root ms ps) {j:Nat} {ns:List Int} (b:Back ps j ns):∀ {s:Strip},ms[j]?=some s→Way E root s ns:=by
 induction b with
 | zero=>intro s hs; rw [h.hd] at hs; cases hs; exact .here
 | succ h0 hp lt _ ih =>
  intro s hs
  obtain ⟨_,s',hs',e⟩:=h.par _ _ _ _ h0 hs hp
  exact .on e (ih hs')
def OneEdge (E:Strip→Strip→Int→Prop):Prop:=∀ s s' u u' n,E s s' n→E u u' n→s=u∨s=u'
theorem Back.nodup {root:Strip} {ms:List Strip} {ps:List (Nat×Int)} (oe:OneEdge E) (h:Tree E root ms ps) {j:Nat} {ns:List Int} (b:Back ps j ns) (hj:j<ms.length):ns.Nodup∧∀ n∈ns,∃ i p,0<i∧i≤j∧ps[i]?=some (p,n):=by
 induction b with
 | zero=>exact ⟨List.nodup_nil,fun n hn=>nomatch hn⟩
 | @succ j p n ns h0 hp lt _ ih =>
  obtain ⟨nd,all⟩:=ih (by omega)
  refine ⟨List.nodup_cons.mpr ⟨fun hm=>?_,nd⟩,fun m hm=>?_⟩
  ·obtain ⟨i,q,i0,il,hi⟩:=all n hm
   have hil:i<ms.length:=by omega
   obtain ⟨_,s',hs',e1⟩:=h.par j _ p n h0 (List.getElem?_eq_getElem hj) hp
   obtain ⟨ql,u',hu',e2⟩:=h.par i _ q n i0 (List.getElem?_eq_getElem hil) hi
   rcases oe _ _ _ _ _ e1 e2 with z | z
   ·have:=(List.getElem_inj h.nd).mp z
    omega
   ·obtain ⟨hq,rfl⟩:=List.getElem?_eq_some_iff.mp hu'
    have:=(List.getElem_inj h.nd).mp z
    omega
  ·rcases List.mem_cons.mp hm with rfl | hm
   ·exact ⟨j,p,h0,Nat.le_refl _,hp⟩
   ·obtain ⟨i,q,i0,il,hi⟩:=all m hm
    exact ⟨i,q,i0,by omega,hi⟩
theorem Tree.back {root:Strip} {ms:List Strip} {ps:List (Nat×Int)} (h:Tree E root ms ps):∀ j,j<ms.length→∃ ns,Back ps j ns:=by
 intro j
 induction j using Nat.strongRecOn with
 | _ j ih =>
  intro hj
  by_cases h0:j=0
  ·subst h0; exact ⟨[],.zero⟩
  ·have hp:j<ps.length:=by rw [h.len]; exact hj
   obtain ⟨lt,_⟩:=h.par j _ _ _ (by omega) (List.getElem?_eq_getElem hj) (List.getElem?_eq_getElem hp)
   obtain ⟨ns,b⟩:=ih _ lt (by omega)
   exact ⟨_,.succ (by omega) (List.getElem?_eq_getElem hp) lt b⟩
end Fm
set_option Elab.async false
set_option linter.all false
set_option maxRecDepth 100000
set_option maxHeartbeats 4000000
namespace L2
open PySem PySem.Spec PyProof.Rows PySem.W
def rDGet (x y:V) (H:Hp) (Q:VK):Prop:=∃ a v,x=.ref a∧DGet H a y (some v)∧Q v H
theorem rd_dget {td ty:TE} {σ:St} {H:Hp} {Q:VK} (h:td σ H fun x H1=>ty σ H1 fun y H2=>rDGet x y H2 Q):tDGet td ty σ H Q:=h
theorem rd_dgetT {H:Hp} {Q:VK} {a b:Addr} {kvs:List (List Key×V)} {k:List Key} {v:V} (hd:H a=some (.dT kvs)) (hb:H b=some (.tup (k.map kV))) (e:valV kvs k=some v) (q:Q v H):rDGet (.ref a) (.ref b) H Q :=
 ⟨a,v,rfl,e ▸ DGet.t hd hb,q⟩
theorem rd_dgetS {H:Hp} {Q:VK} {a:Addr} {kvs:List (Key×V)} {i:Str} {v:V} (hd:H a=some (.dK kvs)) (e:valV kvs (.inr i)=some v) (q:Q v H):rDGet (.ref a) (.str i) H Q :=
 ⟨a,v,rfl,e ▸ DGet.k (k:=.inr i) hd,q⟩
theorem rd_dnewK {σ:St} {H:Hp} {Q:VK} (h:∀ p,H p=none→Q (.ref p) (upd H p (.dK []))):tDNewK σ H Q:=h
def rIsD (x:V) (H:Hp) (q:Addr→Prop):Prop:=∃ a,x=.ref a∧IsD H a∧q a
theorem rd_isDT {H:Hp} {a:Addr} {kvs:List (List Key×V)} {q:Addr→Prop} (h:H a=some (.dT kvs)) (k:q a):rIsD (.ref a) H q:=⟨a,rfl,.inr ⟨kvs,.inl h⟩,k⟩
theorem rd_isDK {H:Hp} {a:Addr} {kvs:List (Key×V)} {q:Addr→Prop} (h:H a=some (.dK kvs)) (k:q a):rIsD (.ref a) H q:=⟨a,rfl,.inl ⟨kvs,.inl h⟩,k⟩
theorem rd_dget2 {td ty tx:TE} {σ:St} {H:Hp} {Q:VK} (h:td σ H fun x H1=>rIsD x H1 fun a=>ty σ H1 fun y H2=>tx σ H2 fun z H3=>∃ o,DGet H3 a y o∧Q (o.getD z) H3):tDGet2 td ty tx σ H Q:=h
theorem rd_dpop1 {td ty:TE} {σ:St} {H:Hp} {Q:VK} (h:td σ H fun x H1=>rIsD x H1 fun a=>ty σ H1 fun y H2=>∃ kvs k v,H2 a=some (.dK kvs)∧y=kV k∧valV kvs k=some v∧Q v (upd H2 a (.dK (dropK kvs k)))):tDPop1 td ty σ H Q:=h
theorem rd_par {i j:Nat} {ta:TA} {D:Ends} {σ:St} {H:Hp} (h:ta σ H fun vs H1=>∃ v w,vs=[v,w]∧D.nx ((σ.set i (some v)).set j (some w)) H1):tPar i j ta D σ H:=h
theorem rd_disp2 {σ:St} {H:Hp} {Q:VK} {a b c d:Str} (ne:¬ c=a) (h:∀ p H',H p=none→Same H H'→H' p=some (.dK [(.inr a,.str b),(.inr c,.str d)])→Q (.ref p) H'):tDisp [(tC (.str a),tC (.str b)),(tC (.str c),tC (.str d))] σ H Q:=by
 intro p hp
 refine ⟨upd_same,[(.inr a,.str b),(.inr c,.str d)],rfl,Nat.le_add_left 2 13,?_⟩
 rw [upd_upd]
 have e:mergeK [] [((Sum.inr a:Key),V.str b),(Sum.inr c,V.str d)]=[(Sum.inr a,V.str b),(Sum.inr c,V.str d)]:=by
  show putK (putK [] (Sum.inr a:Key) (.str b)) (.inr c) (.str d)=_
  rw [putK_new (kvs:=[]) (k:=(.inr a:Key)) (.str b) rfl,List.nil_append,putK_new]
  ·rfl
  ·rw [valV_neg (by intro z; injection z with z; exact ne z.symm)]; rfl
 rw [e]
 exact h p _ hp (Same.new hp) upd_same
def keyD:Key→PyData
 | .inl i=>.int i
 | .inr x=>.str x
theorem keyD_eqv (a b:Key):PyData.eqv (keyD a) (keyD b)=decide (a=b):=by
 cases a<;>cases b<;>simp only [keyD,PyData.eqv]
 ·rw [key_ll]
 ·rw [key_lr]
 ·rw [key_rl]
 ·rw [key_rr]; exact (Bool.beq_eq_decide_eq _ _)
theorem keyDs_eqv:∀ a b:List Key,PyData.eqvAll (a.map keyD) (b.map keyD)=decide (a=b)
 | [],[]=>rfl
 | [],_::_=>rfl
 | _::_,[]=>rfl
 | x::a,y::b=>by
  rw [List.map_cons,List.map_cons,PyData.eqvAll,keyD_eqv,keyDs_eqv a b]
  by_cases h1:x=y<;>by_cases h2:a=b<;>simp [h1,h2]
def KOk (a:List Key):Prop:=PyData.canLayAll0 (a.map keyD)=true
theorem keyD_dep (a:Key):(keyD a).depth=0:=by cases a<;>rfl
theorem keyDs_dep:∀ a:List Key,PyData.depthAll (a.map keyD)≤1
 | []=>Nat.zero_le _
 | x::a=>by
  have h1:=keyD_dep x
  have h2:=keyDs_dep a
  rw [List.map_cons,PyData.depthAll]; omega
theorem keyDs_shp {a:List Key} (h:KOk a):SeqAt.shaped (.tuple (a.map keyD))=true:=by
 have:=keyDs_dep a
 unfold SeqAt.shaped
 rw [Bool.and_eq_true]
 refine ⟨h,decide_eq_true ?_⟩
 rw [PyData.depth]; omega
theorem keyDs_repL {H:Hp}:∀ a:List Key,RepL H (a.map keyD) (a.map kV)
 | []=>by simp only [List.map_nil,RepL]
 | x::a=>by
  simp only [List.map_cons,RepL]
  refine ⟨_,_,rfl,?_,keyDs_repL a⟩
  cases x<;>simp only [keyD,kV,Rep]
theorem keyDs_rep {H:Hp} {p:Addr} {a:List Key} (h:H p=some (.tup (a.map kV))):Rep H (.tuple (a.map keyD)) (.ref p):=by
 simp only [Rep]
 exact ⟨p,_,rfl,h,keyDs_repL a⟩
theorem rd_eqK {H:Hp} {Q:VK} {p q:Addr} {a b:List Key} (ka:KOk a) (kb:KOk b) (hp:H p=some (.tup (a.map kV))) (hq:H q=some (.tup (b.map kV))) (k:Q (.bl (decide (a=b))) H):rEqD false (.ref p) (.ref q) H Q :=
 ⟨_,_,keyDs_rep hp,keyDs_rep hq,keyDs_shp ka,keyDs_shp kb,by rw [if_neg (by decide),PyData.eqv,keyDs_eqv]; exact k⟩
def sx (i:Int):List Key:=[.inr "x",.inl i]
def sy (i:Int):List Key:=[.inr "y",.inl i]
def IsStrip (a:List Key):Prop:=∃ i,a=sx i∨a=sy i
theorem IsStrip.ok {a:List Key} (h:IsStrip a):KOk a:=by
 obtain ⟨i,rfl | rfl⟩:=h
 ·show PyData.canLayAll0 [.str "x",.int i]=true
  simp only [PyData.canLayAll0,PyData.canLay0]; decide +kernel
 ·show PyData.canLayAll0 [.str "y",.int i]=true
  simp only [PyData.canLayAll0,PyData.canLay0]; decide +kernel
theorem sx_inj {i j:Int} (h:sx i=sx j):i=j:=by unfold sx at h; injection h with _ h; injection h with h; injection h
theorem sy_inj {i j:Int} (h:sy i=sy j):i=j:=by unfold sy at h; injection h with _ h; injection h with h; injection h
theorem sxy_ne {i j:Int}:sx i≠sy j:=by
 intro h
 unfold sx sy at h
 injection h with h; injection h with h
 exact absurd h (by decide +kernel)
theorem putK_keys {κ:Type} [DecidableEq κ] {kvs:List (κ×V)} {k:κ} {v:V} (h:k∈kvs.map (·.1)):(putK kvs k v).map (·.1)=kvs.map (·.1):=by
 unfold putK
 have:(kvs.any fun kv=>decide (kv.1=k))=true:=by
  obtain ⟨p,hp,e⟩:=List.mem_map.mp h
  exact List.any_eq_true.mpr ⟨p,hp,decide_eq_true e⟩
 rw [if_pos this,List.map_map]
 apply List.map_congr_left
 intro p _
 by_cases e:p.1=k<;>simp [e]
theorem valV_mem {κ:Type} [DecidableEq κ] {kvs:List (κ×V)} {k:κ}:(valV kvs k).isSome=true↔k∈kvs.map (·.1):=by
 rw [← valV_any,List.any_eq_true]
 constructor
 ·rintro ⟨p,hp,e⟩; exact List.mem_map.mpr ⟨p,hp,of_decide_eq_true e⟩
 ·intro h
  obtain ⟨p,hp,e⟩:=List.mem_map.mp h
  exact ⟨p,hp,decide_eq_true e⟩
theorem valV_none {κ:Type} [DecidableEq κ] {kvs:List (κ×V)} {k:κ} (h:k∉kvs.map (·.1)):valV kvs k=none:=by
 cases e:valV kvs k with
 | none=>rfl
 | some v=>exact absurd (valV_mem.mp (by rw [e]; rfl)) h
def ButL (S:List Addr) (H H':Hp):Prop:=∀ b o,H b=some o→b∉S→H' b=some o
theorem ButL.refl (S:List Addr) (H:Hp):ButL S H H:=fun _ _ e _=>e
theorem Same.butL {H H':Hp} (s:Same H H') (S:List Addr):ButL S H H':=fun b o e _=>s b o e
theorem ButL.trans {S:List Addr} {H H1 H2:Hp} (a:ButL S H H1) (b:ButL S H1 H2):ButL S H H2:=fun c o e n=>b c o (a c o e n) n
theorem ButL.upd {S:List Addr} {H H1:Hp} {p:Addr} {o:HO} (a:ButL S H H1) (h:p∈S):ButL S H (L2.upd H1 p o):=fun c o' e n=>by
 rw [upd_ne (fun z=>n (by rw [z]; exact h))]; exact a c o' e n
theorem ButL.new {S:List Addr} {H H1:Hp} {p:Addr} {o:HO} (a:ButL S H H1) (h:H1 p=none):ButL S H (L2.upd H1 p o):=fun c o' e n=>Same.new h c o' (a c o' e n)
end L2
set_option Elab.async false
set_option linter.all false
set_option maxRecDepth 100000
set_option maxHeartbeats 4000000
namespace L2
open PySem PySem.Spec PyProof.Rows
def ETof2 (K:PySem.W.Frag) (S1 S2:Addr) (i:Nat) (ts1 ts2:TS) (D:Ends):St→XK:=fun σ cls xo H1=>∃ C,cls=.ref C∧((PySem.W.exmOne K (.ref C) (.ref S1)=some true∧∀ e,H1 e=none→ts1 (Dh i D) (σ.set i (some (.ref e))) (upd H1 e (ExcX e C xo))) ∨
 (PySem.W.exmOne K (.ref C) (.ref S1)=some false∧PySem.W.exmOne K (.ref C) (.ref S2)=some true∧∀ e,H1 e=none→ts2 (Dh i D) (σ.set i (some (.ref e))) (upd H1 e (ExcX e C xo))))
def tTry2 (K:PySem.W.Frag) (S1 S2:Addr) (i:Nat) (tb:(St→XK)→TS) (ts1 ts2:TS):TS:=fun D σ H=>tb (ETof2 K S1 S2 i ts1 ts2 D) D σ H
theorem ps_try2 {X:Cx} {i:Nat} {n x1 x2:Str} {S1 S2:Addr} {body suite1 suite2:List Stmt} {b1 b2:Stmt} {np1 np2 hpos1 hpos2 pos:Pos} {tb:(St→XK)→TS} {ts1 ts2:TS} (hN:X.N.Nodup) (hi:X.N[i]?=some n) (hk:X.env.kindOf n=some .local)
  (hg1:Gl X x1) (hm1:X.mg x1=some (.ref S1)) (hg2:Gl X x2) (hm2:X.mg x2=some (.ref S2)) (hb:∀ pins ET,PSs (X.tryIn pins (XT X pins ET)) body (tb ET)) (hh1:∀ e,PSs (X.suite e) (b1::suite1) ts1) (hh2:∀ e,PSs (X.suite e) (b2::suite2) ts2)
  (hs:X.stack=X.env::X.outer:=by rfl) (hf:X.env.frame=some X.env.locals:=by rfl) (hd1:(x1==("__debug__":Str))=false:=by decide) (hd2:(x2==("__debug__":Str))=false:=by decide) :
  PS X (.Try body [.ExceptHandler (some (.Name x1 np1)) (some n) (b1::suite1) hpos1,.ExceptHandler (some (.Name x2 np2)) (some n) (b2::suite2) hpos2] [] [] pos) (tTry2 X.K S1 S2 i tb ts1 ts2):=by
 intro pins s σ H D I h
 refine wpAny_Try_except (wpAny_mono (hb pins (ETof2 X.K S1 S2 i ts1 ts2 D) [] s σ H D (I.tryIn _) h) (fun f s1 q=>?_) (fun y s1 q=>?_))
 ·have q:=q.tryOut
  cases f with
  | next =>
   obtain ⟨σ',H',I',q'⟩:=q
   exact pss_nil pins s1 σ' H' D I' q'
  | brk => exact q
  | cont => exact q
  | ret u => exact q
 ·obtain ⟨σ1,e,C,xo,H1,rfl,I1,ex,hp,C',hC,kk⟩:=q
  cases hC
  obtain ⟨⟨oe,ws,T,oT,tl,g1,g2,g3,g4,g5,g6,g7,g8,g9⟩,ne,hHe,hHT,dc⟩:=ex
  have hHT:=hHT oe ws T g1 g3 g4
  obtain ⟨a0,h0⟩:∃ a0,ws[0]?=some a0:=by
   have hsz:1<ws.size:=(Array.getElem?_eq_some_iff.mp g4).1
   exact ⟨ws[0],by simp [show 0<ws.size by omega]⟩
  have ff:=I1.stack
  have hl:=PySem.W.funFrames_hide (as:=e::T::frs X.stack) ff (stack_in fun b hb=>List.mem_cons_of_mem _ (List.mem_cons_of_mem _ hb))
  have fl:Heap.FlyingW (PySem.W.hideAll s1.heap (e::T::frs X.stack)) (X.env::X.outer) e (.ref C) a0 s1.heap :=
   ⟨fun b o z=>PySem.W.of_hideAll _ z,PySem.W.hideAll_none _ List.mem_cons_self,hs ▸ hl,⟨oe,ws,T,oT,tl,g1,⟨g2,h0⟩,g3,g4,PySem.W.hideAll_none _ (List.mem_cons_of_mem _ List.mem_cons_self),g6,g7,g8,g9⟩⟩
  have stay:∀ h',Heap.StaysIn (PySem.W.hideAll s1.heap (e::T::frs X.stack)) h'→s1.heap.UpToSlots h'→Inv X pins σ1 H1 { s1 with heap:=h' }:=fun h' st sm=>by
   refine I1.held (es:=[e,T]) hs hf (fun b hb=>?_) (fun b o z nf nm=>st b o (PySem.W.hideAll_get _ z ?_)) fun b o z hb=>?_
   ·simp only [List.mem_cons,List.not_mem_nil,or_false] at hb
    rcases hb with rfl | rfl
    ·exact ⟨hHe,ne,fun p hq=>(hp p hq).1,oe,ws,g1,g3⟩
    ·exact ⟨hHT,g5,fun p hq=>(hp p hq).2 oe ws _ g1 g3 g4,oT,tl,g7,g8⟩
   ·intro m
    rcases List.mem_cons.mp m with r | m
    ·exact nm (by simp [r])
    ·rcases List.mem_cons.mp m with r | r
     ·exact nm (by simp [r])
     ·exact nf r
   ·obtain ⟨_,o',z',hd'⟩:=ff.mem hb
    rw [z] at z'; cases z'
    exact sm b o z hd'
  refine wpAny_mono (DS.any (ds_noteFrame _ _) (wpAny_looks_onW (Q:=fun _ s2=>∃ h4,s2={ s1 with heap:=h4 }∧Heap.HeldW (PySem.W.hideAll s1.heap (e::T::frs X.stack)) (X.env::X.outer) e (.ref C) a0 X.env.locals h4∧s1.heap.UpToSlots h4) (I1.ok.frames.trans (congrArg some hs)) hf fl fun h4 held sm4=>⟨h4,rfl,held,sm4⟩) ⟨oe,g1,rfl⟩) (fun _ s2 ⟨⟨h4,e4,held,sm4⟩,d4⟩=>?_) fun _ _ z=>z
  subst e4
  refine wpAny_mono (DS.any (ds_setFlight _ _) (wpAny_landsW (s:={ s1 with heap:=h4 }) (Q:=fun _ s2=>∃ h5,s2={ s1 with heap:=h5 }∧Heap.FlyingW (PySem.W.hideAll s1.heap (e::T::frs X.stack)) (X.env::X.outer) e (.ref C) a0 h5∧h4.UpToSlots h5) held fun h5 fl5 sm5=>⟨h5,rfl,fl5,sm5⟩) d4) (fun _ s2 ⟨⟨h5,e5,fl5,sm5⟩,d5⟩=>?_) fun _ _ z=>z
  subst e5
  have I5:=stay h5 fl5.1 (sm4.trans sm5)
  have LT:PySem.W.Looks (model X.prog X.w) h5 (typeOf (.ref e)) (.ref C):=ExcAt.looks fl5.there
  rcases kk with ⟨hx',k⟩ | ⟨hx0,hx',k⟩
  ·refine wpAny_handleBy_cons (codeAny_handlers_test (ld_glob (X:=X.suite e) I5.suite hg1 hm1 ?_ hd1)) (by intro q; cases q)
   refine (PySem.W.exm_one (h:=h5) I5.kIn LT hx').here ?_
   refine codeAny_handlers_suite_as ?_
   refine wpAny_mono (DS.any (ds_setFlight _ _) (lands_againW (s:={ s1 with heap:=h5 }) (Q:=fun _ s2=>∃ h6,s2={ s1 with heap:=h6 }∧Heap.FlyingW (PySem.W.hideAll s1.heap (e::T::frs X.stack)) (X.env::X.outer) e (.ref C) a0 h6∧h5.UpToSlots h6) fl5 fun h6 fl6 sm6=>⟨h6,rfl,fl6,sm6⟩) d5) (fun _ s2 ⟨⟨h6,e6,fl6,sm6⟩,d6⟩=>?_) fun _ _ z=>z
   subst e6
   have I6:=stay h6 fl6.1 ((sm4.trans sm5).trans sm6)
   obtain ⟨oe6,ws6,z1,z2,z3,_⟩:=fl6.first
   have dc6:∀ dx,xo=some dx→oe6.dict=some dx:=fun dx z=>by
    obtain ⟨o,y1,y2⟩:=dc dx z
    rw [g1] at y1; cases y1
    obtain ⟨o,y3,y4⟩:=d6
    rw [show ({ s1 with heap:=h6 }:Shared).heap=h6 from rfl,z1] at y3; cases y3
    rw [y4,y2]
   have I7:Inv X pins σ1 (upd H1 e (ExcX e C xo)) { s1 with heap:=h6 }:=I6.track hHe ne (fun p hq=>(hp p hq).1) ⟨oe6,ws6,z1,z3⟩ ⟨oe6,ws6,z1,z2,z3,dc6⟩ fun ha hb ⟨o,vs,p1,p2⟩ kk=>⟨o,vs,kk o p1,p2⟩
   refine store_ok (X:=X.suite e) (v:=.ref e) I7.suite hN hi (.inl hk) rfl (fun s8 I8=>?_) (.inr hk)
   refine wpAny_mono (hh1 e pins s8 _ _ (Dh i D) I8 (k e hHe)) (fun f s9 q=>?_) fun _ _ z=>False.elim z
   show wpAny _ _ _ _ _ _
   cases f with
   | next =>
    obtain ⟨σ',H',I',q'⟩:=q
    exact gone_ok (I'.unsuite I.ok) hN hi hk fun s' J=>⟨_,H',J,q'⟩
   | brk =>
    obtain ⟨σ',H',I',q'⟩:=q
    exact gone_ok (I'.unsuite I.ok) hN hi hk fun s' J=>⟨_,H',J,q'⟩
   | cont =>
    obtain ⟨σ',H',I',q'⟩:=q
    exact gone_ok (I'.unsuite I.ok) hN hi hk fun s' J=>⟨_,H',J,q'⟩
   | ret u =>
    obtain ⟨v,σ',H',I',r,q'⟩:=q
    exact gone_ok (I'.unsuite I.ok) hN hi hk fun s' J=>⟨v,_,H',J,r,q'⟩
  ·refine wpAny_handleBy_cons (codeAny_handlers_test (ld_glob (X:=X.suite e) I5.suite hg1 hm1 ?_ hd1)) (by intro q; cases q)
   refine (PySem.W.exm_one (h:=h5) I5.kIn LT hx0).here ?_
   refine wpAny_handleBy_cons (codeAny_handlers_test (ld_glob (X:=X.suite e) I5.suite hg2 hm2 ?_ hd2)) (by intro q; cases q)
   refine (PySem.W.exm_one (h:=h5) I5.kIn LT hx').here ?_
   refine codeAny_handlers_suite_as ?_
   refine wpAny_mono (DS.any (ds_setFlight _ _) (lands_againW (s:={ s1 with heap:=h5 }) (Q:=fun _ s2=>∃ h6,s2={ s1 with heap:=h6 }∧Heap.FlyingW (PySem.W.hideAll s1.heap (e::T::frs X.stack)) (X.env::X.outer) e (.ref C) a0 h6∧h5.UpToSlots h6) fl5 fun h6 fl6 sm6=>⟨h6,rfl,fl6,sm6⟩) d5) (fun _ s2 ⟨⟨h6,e6,fl6,sm6⟩,d6⟩=>?_) fun _ _ z=>z
   subst e6
   have I6:=stay h6 fl6.1 ((sm4.trans sm5).trans sm6)
   obtain ⟨oe6,ws6,z1,z2,z3,_⟩:=fl6.first
   have dc6:∀ dx,xo=some dx→oe6.dict=some dx:=fun dx z=>by
    obtain ⟨o,y1,y2⟩:=dc dx z
    rw [g1] at y1; cases y1
    obtain ⟨o,y3,y4⟩:=d6
    rw [show ({ s1 with heap:=h6 }:Shared).heap=h6 from rfl,z1] at y3; cases y3
    rw [y4,y2]
   have I7:Inv X pins σ1 (upd H1 e (ExcX e C xo)) { s1 with heap:=h6 }:=I6.track hHe ne (fun p hq=>(hp p hq).1) ⟨oe6,ws6,z1,z3⟩ ⟨oe6,ws6,z1,z2,z3,dc6⟩ fun ha hb ⟨o,vs,p1,p2⟩ kk=>⟨o,vs,kk o p1,p2⟩
   refine store_ok (X:=X.suite e) (v:=.ref e) I7.suite hN hi (.inl hk) rfl (fun s8 I8=>?_) (.inr hk)
   refine wpAny_mono (hh2 e pins s8 _ _ (Dh i D) I8 (k e hHe)) (fun f s9 q=>?_) fun _ _ z=>False.elim z
   show wpAny _ _ _ _ _ _
   cases f with
   | next =>
    obtain ⟨σ',H',I',q'⟩:=q
    exact gone_ok (I'.unsuite I.ok) hN hi hk fun s' J=>⟨_,H',J,q'⟩
   | brk =>
    obtain ⟨σ',H',I',q'⟩:=q
    exact gone_ok (I'.unsuite I.ok) hN hi hk fun s' J=>⟨_,H',J,q'⟩
   | cont =>
    obtain ⟨σ',H',I',q'⟩:=q
    exact gone_ok (I'.unsuite I.ok) hN hi hk fun s' J=>⟨_,H',J,q'⟩
   | ret u =>
    obtain ⟨v,σ',H',I',r,q'⟩:=q
    exact gone_ok (I'.unsuite I.ok) hN hi hk fun s' J=>⟨v,_,H',J,r,q'⟩
theorem rd_try2 {K:PySem.W.Frag} {S1 S2:Addr} {i:Nat} {tb:(St→XK)→TS} {ts1 ts2:TS} {D:Ends} {σ:St} {H:Hp} (h:tb (ETof2 K S1 S2 i ts1 ts2 D) D σ H):tTry2 K S1 S2 i tb ts1 ts2 D σ H:=h
theorem exm_no {K:PySem.W.Frag} {A S:Addr} (bs:PySem.W.subIn K (.ref S) (.type "BaseException")=some true) (mo:PySem.W.mroIn K S (.type "object")=some true) (ty:PySem.W.typeIn K (.ref S)=some (.type "type"))
  (sb:PySem.W.subIn K (.ref A) (.ref S)=some false):PySem.W.exmOne K (.ref A) (.ref S)=some false:=by
 obtain ⟨cd,hc,_⟩:=Option.bind_eq_some_iff.mp mo
 simp only [PySem.W.exmOne,PySem.W.kitCls]
 simp [bs,hc,ty,sb]
end L2
set_option Elab.async false
set_option linter.all false
set_option maxRecDepth 100000
set_option maxHeartbeats 4000000
namespace L2
open PySem PySem.Spec PyProof.Rows PySem.W
def FzAt (P:Program) (w:World) (d:Addr) (kvs:List (Key×V)) (vs:List (Key×Value)) (ep:Nat) (h:Heap):Prop:=kvs.length≤sizeLine∧(d==sysModules)=false∧KV kvs vs∧h.DictAt (mixKind P w) d vs ep
def FzO (P:Program) (w:World) (d:Addr) (kvs:List (Key×V)) (vs:List (Key×Value)) (ep:Nat):HO:=.ext (FzAt P w d kvs vs ep)
def IsFz (P:Program) (w:World) (d:Addr) (kvs:List (Key×V)) (F:HO):Prop:=∃ vs ep,F=FzO P w d kvs vs ep
theorem IsFz.ext {P:Program} {w:World} {d:Addr} {kvs:List (Key×V)} {F:HO} (h:IsFz P w d kvs F):∃ φ,F=.ext φ:=let ⟨_,_,e⟩:=h; ⟨_,e⟩
section
variable {X:Cx} {pins:List (Addr×Obj)} {σ:St} {H:Hp} {s:Shared} {d:Addr} {kvs:List (Key×V)} {vs:List (Key×Value)} {ep:Nat}
theorem Inv.freeze (I:Inv X pins σ H s) (hd:H d=some (.dK kvs)):∃ vs ep,Inv X pins σ (upd H d (FzO X.prog X.w d kvs vs ep)) s∧s.heap.DictAt (mixKind X.prog X.w) d vs ep:=by
 obtain ⟨z,lo,vs,rel,dd⟩:=dk_of I.hok hd
 obtain ⟨ep,at'⟩:=dd.dictAt
 obtain ⟨o,es,ho,r⟩:=id at'
 exact ⟨vs,ep,I.write (e:=d) (t':=s.toks) (h':=s.heap) (by rw [hd]; trivial) (.inl rfl) (fun _ _ _ q=>q) ⟨o,ho⟩ ⟨⟨z,lo,rel,at'⟩,⟨o,ho⟩,fun h1 h2 ⟨a1,a2,a3,a4⟩ k=>⟨a1,a2,a3,a4.at' k⟩⟩,at'⟩
theorem Inv.thaw {F:HO} (I:Inv X pins σ H s) (hF:IsFz X.prog X.w d kvs F) (hd:H d=some F):Inv X pins σ (upd H d (.dK kvs)) s:=by
 obtain ⟨vs,ep,rfl⟩:=hF
 obtain ⟨⟨z,lo,rel,at'⟩,⟨o,ho⟩,_⟩:=(show ObjOk X.prog X.w H s.heap d (.ext (FzAt X.prog X.w d kvs vs ep)) from I.hok d _ hd)
 exact I.write (e:=d) (t':=s.toks) (h':=s.heap) (by rw [hd]; trivial) (.inl rfl) (fun _ _ _ q=>q) ⟨o,ho⟩ ⟨z,lo,vs,rel,at'.dictOf⟩
end
def Thaw (P:Program) (w:World) (H1 H2:Hp):Prop:=∃ d kvs F,IsFz P w d kvs F∧H1 d=some F∧H2=upd H1 d (.dK kvs)
def tThawS (P:Program) (w:World) (ts:TS):TS:=fun D σ H=>ts { D with nx:=fun σ1 H1=>∃ H2,Thaw P w H1 H2∧D.nx σ1 H2 } σ H
theorem ps_thaw {X:Cx} {st:Stmt} {ts:TS} (h:PS X st ts):PS X st (tThawS X.prog X.w ts):=by
 intro pins s σ H D I q
 refine wpAny_mono (h pins s σ H _ I q) (fun f s1 q1=>?_) fun _ _ z=>z
 cases f with
 | next =>
  obtain ⟨σ',H',I',H2,⟨d,kvs,F,hF,hd,rfl⟩,q2⟩:=q1
  exact ⟨σ',_,I'.thaw hF hd,q2⟩
 | brk=>exact q1
 | cont=>exact q1
 | ret u=>exact q1
theorem rd_thawS {P:Program} {w:World} {ts:TS} {D:Ends} {σ:St} {H:Hp} (h:ts { D with nx:=fun σ1 H1=>∃ H2,Thaw P w H1 H2∧D.nx σ1 H2 } σ H):tThawS P w ts D σ H:=h
def Iti (d:Addr) (F:HO) (kvs:List (Key×V)):It :=
 ⟨fun i H=>H d=some F∧i<kvs.length,fun i H x H'=>∃ b k v,kvs[i]?=some (k,v)∧x=.ref b∧H b=none∧H'=upd H b (.tup [kV k,v]),fun i H=>H d=some F∧kvs.length≤i⟩
theorem turn_items {P:Program} {w:World} {K:PySem.W.Frag} {elts:List Expr} {kt:Nat} {pt:Pos} (d it:Addr) (kvs:List (Key×V)) (vs:List (Key×Value)) (ep:Nat) :
    Turn P w K (.Tuple elts kt pt) (Iti d (FzO P w d kvs vs ep) kvs) [it] it (fun i h=>∃ ok ov,IsItemIter h it d i vs.length ep ok ov) where
  mem:=by simp
  obj:=fun i h st b hb=>by
    have e:b=it:=by simpa using hb
    subst e
    obtain ⟨ok,ov,e⟩:=st
    exact ⟨_,e,fun v z=>by cases z⟩
  keep:=fun i h h' ⟨ok,ov,e⟩ k=>⟨ok,ov,k it (by simp) _ e⟩
  item:=by
    intro X hP hw hK hc i pins s σ H E I hf st hg
    subst hP hw hK
    obtain ⟨hd,hi⟩:=hg
    obtain ⟨ok,ov,st⟩:=st
    obtain ⟨⟨z,lo,rel,at'⟩,_,_⟩:=(show ObjOk X.prog X.w H s.heap d (.ext (FzAt X.prog X.w d kvs vs ep)) from I.hok d _ hd)
    have hl:i<vs.length:=by rw [← rel.length]; exact hi
    obtain ⟨⟨k,u⟩,hu⟩:∃ q,vs[i]?=some q:=⟨_,List.getElem?_eq_getElem hl⟩
    obtain ⟨x,hx,ru⟩:=kv_get rel hu
    have lti:it<s.heap.objs.size:=Heap.lt_size st
    refine wpAny_pyNext_items_item st at' hu fun key h' hkey ho hT hsz hk=>?_
    refine ⟨_,rfl,wpAny_letOwnedTupleGo_items (s:={ s with heap:=h' }) ho fun h2 he2 hs=>?_⟩
    have kk:∀ c o,c∉[it]→s.heap.get? c=some o→h2.get? c=some o:=fun c o hc e=>by
      rw [List.mem_singleton] at hc
      exact hs.extBut c o hc (hk c o hc e)
    have qT:=hs.extBut _ _ (Ne.symm (Nat.ne_of_lt lti)) hT
    have I1:Inv X pins σ (upd H s.heap.objs.size (.tup [kV k,x])) { s with heap:=h2 }:=I.turnedL (t':=s.toks) (ch:=[it]) kk hf (fun c hc=>by
        rw [List.mem_singleton] at hc
        subst hc
        exact ⟨_,he2⟩) (Nat.le_refl _) ⟨by show 2≤sizeLine; decide,[key,u],.cons (key_rel hkey) (.cons ru .nil),_,qT,rfl,_,rfl⟩
    refine ⟨.ref s.heap.objs.size,_,I1,rfl,⟨_,k,x,hx,rfl,I.hok.fresh (Nat.le_refl _),rfl⟩,⟨_,_,he2⟩,fun c hc=>?_⟩
    have ec:=List.mem_singleton.mp hc
    subst ec
    rw [upd_ne (Nat.ne_of_lt lti)]
    exact (hf c hc).1
  done:=by
    intro X hP hw hK hc i pins s σ H E I hf st hg
    subst hP hw hK
    obtain ⟨hd,hi⟩:=hg
    obtain ⟨ok,ov,st⟩:=st
    obtain ⟨⟨z,lo,rel,at'⟩,_,_⟩:=(show ObjOk X.prog X.w H s.heap d (.ext (FzAt X.prog X.w d kvs vs ep)) from I.hok d _ hd)
    obtain ⟨f0,f1,f2,f3,f4,f5⟩:=hf it (by simp)
    exact wpAny_pyNext_items_end (I.ok.hd hc) st at' (List.getElem?_eq_none (by rw [← rel.length]; exact hi)) fun h' eb=>⟨rfl,I.turned (t':=s.toks) (fun b o hb e=>eb b o hb e) f0 f1 f3 f4 f5⟩
  self:=fun _ _ _ _ _ ⟨_,_,st⟩ h=>kcp_self st h
def iItems (P:Program) (w:World) (tl:TE):TI:=fun σ H R=>tl σ H fun x H1=>∃ v d kvs,x=.ref v∧H1 v=some (ViewO "dict_items" v d)∧H1 d=some (.dK kvs)∧∀ F,IsFz P w d kvs F→R (Iti d F kvs) (upd H1 d F)
theorem pi_items {X:Cx} {elts:List Expr} {kt:Nat} {pt:Pos} {l:Expr} {tl:TE} (hl:PE X l tl):PI X (.Tuple elts kt pt) l (iItems X.prog X.w tl):=by
 intro pins s σ H R I h
 refine thn (hl pins s σ H _ I h) fun v s1 ⟨x,H1,I1,r1,q1⟩=>?_
 obtain ⟨vw,d,kvs,e,hv,hd,q⟩:=q1
 subst e
 cases r1
 obtain ⟨vs,ep,I2,at'⟩:=I1.freeze hd
 have vv:s1.heap.IsItemsView vw d:=(show ObjOk X.prog X.w H1 s1.heap vw (.ext (ViewAt "dict_items" vw d)) from I1.hok vw _ hv).1
 refine wpAny_pyIter_items vv at' ?_
 refine ⟨s1.heap.objs.size,[s1.heap.objs.size],_,_,_,rfl,I2.kept (t':=s1.toks) fun b o e=>Heap.get?_push_of_some _ e,turn_items d _ kvs vs ep,⟨_,_,Heap.get?_push_size _ rfl⟩,fun b hb=>?_,q _ ⟨vs,ep,rfl⟩⟩
 have e:b=s1.heap.objs.size:=by simpa using hb
 subst e
 exact I2.fpOk (Nat.le_refl _) (I2.hok.fresh (Nat.le_refl _))
theorem rd_iitems {P:Program} {w:World} {tl:TE} {σ:St} {H:Hp} {R:It→Hp→Prop} (h:tl σ H fun x H1=>∃ v d kvs,x=.ref v∧H1 v=some (ViewO "dict_items" v d)∧H1 d=some (.dK kvs)∧∀ F,IsFz P w d kvs F→R (Iti d F kvs) (upd H1 d F)):iItems P w tl σ H R:=h
theorem forW_items {σ:St} {H:Hp} {d:Addr} {F:HO} {kvs:List (Key×V)} {g:TG} {tb:TS} {D:Ends} (Pv:Nat→St→Hp→Prop) (h0:Pv 0 σ H) (hl:∀ i σ H,i≤kvs.length→Pv i σ H→H d=some F)
  (hs:∀ i k v b σ H,kvs[i]?=some (k,v)→Pv i σ H→H b=none→g (.ref b) σ (upd H b (.tup [kV k,v])) fun σ2 H2=>tb { D with nx:=Pv (i+1),ct:=Pv (i+1),bk:=D.nx } σ2 H2) (hd:∀ σ H,Pv kvs.length σ H→D.nx σ H):ForW (Iti d F kvs) g tb D σ H:=by
 refine ⟨fun i m σ H=>m=kvs.length - i∧i≤kvs.length∧Pv i σ H,⟨kvs.length,by simp,Nat.zero_le _,h0⟩,?_⟩
 rintro i m σ H ⟨rfl,hi,p⟩
 have q:=hl i σ H hi p
 by_cases hlt:i<kvs.length
 ·refine .inr ⟨⟨q,hlt⟩,Pv (i+1),fun σ' H' p'=>⟨kvs.length - (i+1),by omega,rfl,hlt,p'⟩,fun x H' y=>?_⟩
  obtain ⟨b,k,v,hk,rfl,hb,rfl⟩:=y
  exact hs i k v b σ _ hk p hb
 ·have e:i=kvs.length:=by omega
  subst e
  exact .inl ⟨⟨q,Nat.le_refl _⟩,hd σ H p⟩
end L2
namespace L2
open PySem PySem.Spec PyProof.Rows PySem.W
theorem op_catTK {X:Cx} (K:PySem.W.Frag) (h:X.K=K):OpR X (binaryOp .Add) (rCatT K):=h ▸ op_catT
theorem rd_catT {K:PySem.W.Frag} {H:Hp} {Q:VK} {a b:Addr} {xs ys:List V} (ha:H a=some (.tup xs)) (hb:H b=some (.tup ys)) (nx:xs≠[]) (ny:ys≠[]) (hz:xs.length+ys.length≤sizeLine)
  (q:∀ p,H p=none→Q (.ref p) (upd H p (.tup (xs++ys)))):rCatT K (.ref a) (.ref b) H Q:=⟨a,b,xs,ys,rfl,rfl,SqT.of ha,SqT.of hb,nx,hz,fun z=>absurd z ny,fun _=>q⟩
end L2
namespace L2
open PySem PySem.Spec PyProof.Rows PySem.W
section
variable {K:PySem.W.Frag} {H:Hp} {Q:VK}
theorem rd_slS {a:Addr} {xs:List V} {lo hi:Option Int} (h:H a=some (.lst xs)) (q:∀ p H1,Same H H1→H p=none→H1 p=some (.lst (cutV xs lo hi))→Q (.ref p) H1):rSlL K (.ref a) lo hi H Q:=rd_slL h fun p n=>q p _ (Same.new n) n upd_same
theorem rd_catS {a b:Addr} {xs zs:List V} (ha:H a=some (.lst xs)) (hb:H b=some (.lst zs)) (z:xs.length+zs.length≤sizeLine) (q:∀ p H1,Same H H1→H p=none→H1 p=some (.lst (xs++zs))→Q (.ref p) H1):rCat (.ref a) (.ref b) H Q:=rd_cat ha hb z fun p n=>q p _ (Same.new n) n upd_same
end
end L2
set_option Elab.async false
set_option linter.all false
set_option maxRecDepth 100000
set_option maxHeartbeats 4000000
namespace L2
open PySem PySem.Spec PyProof.Rows PySem.W
section
variable {K:PySem.W.Frag} {σ:St} {H:Hp} {Q:VK} {te:TE} {tt:TT} {cap:List (Option Nat)} {l:Addr}
end
end L2
namespace L2
open PySem PySem.Spec PyProof.Rows PySem.W
end L2
set_option Elab.async false
set_option linter.all false
set_option maxRecDepth 100000
set_option maxHeartbeats 4000000
namespace L2
open PySem PySem.Spec PyProof.Rows PySem.W
end L2
set_option Elab.async false
set_option linter.all false
set_option maxRecDepth 100000
set_option maxHeartbeats 4000000
namespace PySem
end PySem
set_option Elab.async false
set_option linter.all false
set_option maxRecDepth 100000
set_option maxHeartbeats 4000000
namespace PyProof.Rows
open PySem PySem.Spec
section
variable {prog:Program} {w:World} {A:Around} {R:Result→Shared→Prop} {I:Addr} {fp wr:List Addr} {G:Array GenState→Array GenState→Prop} {n:Nat} {P:Nat→Value→Prop} {St:Nat→Shared→Prop} {K:Type} [DecidableEq K] {knd:PySem.KeyKind prog w K}
end
end PyProof.Rows
set_option Elab.async false
set_option linter.all false
set_option maxRecDepth 100000
set_option maxHeartbeats 4000000
namespace PySem
open PySem.Spec PyProof.Rows
section
variable {prog:Program} {w:World} {K:Type} [DecidableEq K] {knd:KeyKind prog w K} {A:Around} {E:Value→Shared→Prop} {s:Shared}
end
end PySem
set_option Elab.async false
set_option linter.all false
set_option maxRecDepth 100000
set_option maxHeartbeats 4000000
namespace L2
open PySem PySem.Spec PyProof.Rows PySem.W
section
variable {X:Cx} {pins:List (Addr×Obj)} {σ:St} {H:Hp} {s:Shared}
end
end L2
set_option Elab.async false
set_option linter.all false
set_option maxRecDepth 100000
set_option maxHeartbeats 4000000
namespace L2
open PySem PySem.Spec PyProof.Rows
theorem rd_andS {t u:TT} {σ:St} {H:Hp} {QB:Bool→Hp→Prop} (c d:Bool) (ht:∀ Q':Bool→Hp→Prop,(∀ H1,Same H H1→Q' c H1)→t σ H Q') (hu:c=true→∀ (H1:Hp) (Q':Bool→Hp→Prop),Same H H1→(∀ H2,Same H1 H2→Q' d H2)→u σ H1 Q') (q:∀ H1,Same H H1→QB (c&&d) H1):tAnd t u σ H QB:=by
 refine ht _ fun H1 s1=>?_
 cases c with
 | false=>exact q H1 s1
 | true=>exact hu rfl H1 _ s1 fun H2 s2=>q H2 (s1.trans s2)
end L2
set_option Elab.async false
set_option linter.all false
set_option maxRecDepth 100000
namespace L2
open PySem PySem.Spec PyProof.Rows
section
variable {K:PySem.W.Frag} {x qual:Str} {st:Stmt} {f:Addr} {fd:FuncData}
theorem Fun.b1 {p0:Str} (F:Fun K x qual st f fd) (h:∀ (kV doc pm:Value) (an:Option Addr) (cdv ct a0:Value),bindArgs (PySem.W.fnOf x qual (defArgs st) (defBody st) (defScope st) .none kV doc pm an cdv ct) ⟨[a0],[]⟩=pure [(p0,a0)]):Binds K fd [p0] [] :=
 F.binds fun kV doc pm an cdv ct us hl=>by obtain ⟨a0,rfl⟩:=len1 hl; exact h kV doc pm an cdv ct a0
theorem Fun.b2 {p0 p1:Str} (F:Fun K x qual st f fd) (h:∀ (kV doc pm:Value) (an:Option Addr) (cdv ct a0 a1:Value),bindArgs (PySem.W.fnOf x qual (defArgs st) (defBody st) (defScope st) .none kV doc pm an cdv ct) ⟨[a0,a1],[]⟩=pure [(p0,a0),(p1,a1)]):Binds K fd [p0,p1] [] :=
 F.binds fun kV doc pm an cdv ct us hl=>by obtain ⟨a0,a1,rfl⟩:=len2 hl; exact h kV doc pm an cdv ct a0 a1
theorem Fun.b3 {p0 p1 p2:Str} (F:Fun K x qual st f fd) (h:∀ (kV doc pm:Value) (an:Option Addr) (cdv ct a0 a1 a2:Value),bindArgs (PySem.W.fnOf x qual (defArgs st) (defBody st) (defScope st) .none kV doc pm an cdv ct) ⟨[a0,a1,a2],[]⟩=pure [(p0,a0),(p1,a1),(p2,a2)]):Binds K fd [p0,p1,p2] [] :=
 F.binds fun kV doc pm an cdv ct us hl=>by obtain ⟨a0,a1,a2,rfl⟩:=len3 hl; exact h kV doc pm an cdv ct a0 a1 a2
theorem Fun.b4 {p0 p1 p2 p3:Str} (F:Fun K x qual st f fd) (h:∀ (kV doc pm:Value) (an:Option Addr) (cdv ct a0 a1 a2 a3:Value),bindArgs (PySem.W.fnOf x qual (defArgs st) (defBody st) (defScope st) .none kV doc pm an cdv ct) ⟨[a0,a1,a2,a3],[]⟩=pure [(p0,a0),(p1,a1),(p2,a2),(p3,a3)]):Binds K fd [p0,p1,p2,p3] [] :=
 F.binds fun kV doc pm an cdv ct us hl=>by obtain ⟨a0,a1,a2,a3,rfl⟩:=len4 hl; exact h kV doc pm an cdv ct a0 a1 a2 a3
theorem Fun.bl {p:Str} (F:Fun K x qual st f fd) (h:∀ (kV doc pm:Value) (an:Option Addr) (cdv ct a:Value),bindArgs (PySem.W.fnOf x qual (defArgs st) (defBody st) (defScope st) .none kV doc pm an cdv ct) ⟨[a],[]⟩=pure [(p,a)]) (s:Shared) (v:Value):BindsTo s fd ⟨[v],[]⟩ [(p,v)]:=by
 obtain ⟨_,_,kV,doc,pm,an,cdv,ct,_,rfl,_,_⟩:=F.ex
 exact .of_eq (h kV doc pm an cdv ct v)
end
theorem FnScope.by {N P:List Str} {sc:Scope} (h1:sc.kind=.function:=by rfl) (h2:sc.isCoroutine=false:=by rfl) (h3:sc.isGenerator=false:=by rfl) (h4:N.Nodup:=by decide +kernel) (h5:N.take P.length=P:=by rfl) (h6:∀ x∈P,sc.names.lookup x=some .local∨sc.names.lookup x=some .cell:=by decide +kernel) (h7:∀ y∈sc.names,y.2≠.free:=by decide +kernel):FnScope N P sc:=⟨h1,h2,h3,h4,h5,h6,h7⟩
end L2
set_option Elab.async false
set_option linter.all false
set_option maxRecDepth 100000
set_option maxHeartbeats 4000000
namespace L2
open PySem PySem.Spec PyProof.Rows PySem.W Builtin Builtin.ObjectAttr Builtin.Getset_descriptor
def exiK (K:PySem.W.Frag) (C:Addr) (line:List Value) (nid:String):Bool :=
 match K.lookup C with
 | some ⟨.type "type",_,.cls k,ss⟩ =>
  match k.mro,ss.toList with
  | .ref D :: up, [_, _, _, _, some (.builtin m), _] => (D == C) && (m == nid) && !k.hasDel && k.hasDict && tailIn K line up
  | _, _ => false
 | _=>false
theorem exi_of {K:PySem.W.Frag} {C:Addr} {line:List Value} {nid:String} (q:exiK K C line nid=true):∃ (nm qn:Str) (N:Addr) (bs up:List Value) (sn:List Str) (sub:List Value) (ab:Bool) (col:Option Bool) (dd:Option Addr) (k0 k1 k2 k3 k5:Option Value),
  K.lookup C=some (excClassObj nm qn C N bs up true sn sub ab col dd k0 k1 k2 k3 k5 nid)∧tailIn K line up=true:=by
 unfold exiK at q
 split at q
 case h_2=>cases q
 case h_1 dd k ss ho =>
  split at q
  case h_2=>cases q
  case h_1 D up k0 k1 k2 k3 m k5 hm hs =>
   simp only [Bool.and_eq_true,beq_iff_eq,Bool.not_eq_true'] at q
   obtain ⟨⟨⟨⟨e1,e2⟩,e3⟩,e4⟩,e5⟩:=q
   subst e1 e2
   obtain ⟨nm,bs,mro,ns,qn,hd,sn,sub,ab,col,del⟩:=k
   simp only at hm e3 e4
   subst hm e3 e4
   obtain ⟨l⟩:=ss
   simp only at hs
   subst hs
   exact ⟨nm,qn,ns,bs,up,sn,sub,ab,col,dd,k0,k1,k2,k3,k5,ho,e5⟩
section
variable {prog:Program} {w:World} {A:Around} {E:Value→Shared→Prop} {K:PySem.W.Frag} {h:Heap} {g:Array GenState} {d:Drawn} {t:Nat} {os:OsState} {C fI:Addr} {line:List Value} {B nid iid:String} {rest:List Value}
abbrev xObj (C t:Addr):Obj:={ cls:=.ref C,data:=.fields #[.ref t,.none,.none,.none,.bool false,.none] }
abbrev xTup (rest:List Value):Obj:={ cls:=.type "tuple",data:=.seq rest.toArray }
theorem xcall {Q:Value→Shared→Prop} (X:K.In h) (q:exiK K C line nid=true) (F:ExcBaseFacts B nid iid line) (hi:findIn K (.ref C) "__init__"=some (some (.ref fI))) (hf:typeIn K (.ref fI)=some (.type "function")) (hz:rest.length≤sizeLine)
  (k:∀ h' e,Heap.MadeExcOf h h' e (.ref C) rest→wpAny (model prog w) (A.under (.builtin "type.__call__" ⟨.ref C::rest,[]⟩)) (call (.ref fI) (.ref e::rest)) (fun r s'=>r=.none∧Q (.ref e) s') E ⟨h',g,d,t,os⟩) :
  wpAny (model prog w) A (call (.ref C) rest) Q E ⟨h,g,d,t,os⟩:=by
 obtain ⟨nm,qn,N,bs,up,sn,sub,ab,col,dd,k0,k1,k2,k3,k5,hl,tl⟩:=exi_of q
 have cl:=X _ _ hl
 have T:=tail_of_in X tl
 have c1:=tc_lookup
 have c2:=tc_bind (.ref C)
 have ty:(⟨h,g,d,t,os⟩:Shared).TypeIs (.ref C) "type":=⟨_,cl,rfl⟩
 refine wpAny_call (codeAny_of_tree ?_)
 show wpAny _ _ (callAny (.ref C) _) _ _ _
 repeat (any_goals (first | assumption | with_reducible refine wpAny_loadPart_at cl ?_ | wp_step))
 refine ⟨rfl,?_⟩
 refine codeAny_call_builtin_at (Code.quiet_builtin _ (by decide +kernel)) entry_typeCall (wpAny_check_type_call_sub cl ?_)
 show wpAny _ (A.under (.builtin "type.__call__" ⟨.ref C::rest,[]⟩)) (Builtin.«type.__call__» ⟨.ref C::rest,[]⟩) _ _ _
 repeat (first | with_reducible refine wpAny_loadPart_at cl ?_ | with_reducible refine wpAny_madeBy_exc cl ?_ | wp_step)
 refine codeAny_call_builtin_code (Code.quiet_builtin _ F.quiet) (wpAny_check_new_subT F T cl ?_)
 refine codeAny_exc_new_subT F T cl ?_ hz
 show wpAny _ _ _ _ _ _
 have kp:∀ b o,h.get? b=some o→((h.push (xTup rest)).push (xObj C h.objs.size)).get? b=some o:=fun b o e=>Heap.get?_push_of_some _ (Heap.get?_push_of_some _ e)
 have X1:K.In ((h.push (xTup rest)).push (xObj C h.objs.size)):=X.keeps kp
 have ge:((h.push (xTup rest)).push (xObj C h.objs.size)).get? (h.objs.size+1)=some (xObj C h.objs.size):=by
  have:=Heap.get?_push_size (h.push (xTup rest)) (o:=xObj C h.objs.size) rfl
  rwa [Heap.size_push] at this
 have gt:((h.push (xTup rest)).push (xObj C h.objs.size)).get? h.objs.size=some (xTup rest):=Heap.get?_push_of_some _ (Heap.get?_push_size h rfl)
 have own:(Value.ref C::up).contains (.ref C)=true:=by simp
 unfold isInstance
 have cl1:=kp _ _ cl
 repeat (first | with_reducible refine wpAny_loadPart_at ge ?_ | (with_reducible refine wpAny_isSubtype_exc cl1 ?_; rw [own]) | wp_step)
 show wpAny _ _ (typeLookup (.ref C) _) _ _ _
 refine (looks_findIn X1 hi).at ?_
 refine wpAny_holding (wpAny_bind ((bind_fn X1 (.ref (h.objs.size+1)) hf).at ?_))
 refine wpAny_bind (wpAny_mono (k _ (h.objs.size+1) ⟨kp,Heap.get?_none_of_le (Nat.le_succ _),h.objs.size,ge,Heap.get?_none_of_le (Nat.le_refl _),gt⟩) (fun r s' hr=>?_) fun _ _ z=>z)
 obtain ⟨rfl,hQ⟩:=hr
 wp_walk
 exact hQ
end
def ExcMAt (e C:Addr) (xo:Option Addr) (h:Heap):Prop:=∃ o a0,h.get? e=some o∧o.cls=.ref C∧o.data=.fields #[a0,.none,.none,.none,.bool false,.none]∧o.dict=xo
def ExcM (e C:Addr) (xo:Option Addr):HO:=.ext (ExcMAt e C xo)
def XdAt (d:Addr) (fs:List (Str×V)) (h:Heap):Prop:=∃ mA,h.Ns1 d mA∧(∀ f,RelO (fs.lookup f) (mA f))∧PySem.Within mA (fs.map (·.1))
def XdO (d:Addr) (fs:List (Str×V)):HO:=.ext (XdAt d fs)
theorem ExcMAt.stay {e C:Addr} {xo:Option Addr}:∀ h1 h2:Heap,ExcMAt e C xo h1→(∀ o,h1.get? e=some o→h2.get? e=some o)→ExcMAt e C xo h2:=fun _ _ ⟨o,a0,h1,h2⟩ k=>⟨o,a0,k o h1,h2⟩
theorem XdAt.stay {d:Addr} {fs:List (Str×V)}:∀ h1 h2:Heap,XdAt d fs h1→(∀ o,h1.get? d=some o→h2.get? d=some o)→XdAt d fs h2:=fun _ _ ⟨mA,⟨o,es,ep,ho,r⟩,q⟩ k=>⟨mA,⟨o,es,ep,k o ho,r⟩,q⟩
theorem ExcMAt.at {e C:Addr} {xo:Option Addr} {h:Heap} (p:ExcMAt e C xo h):ExcAt e C h:=let ⟨o,_,h1,h2,_⟩:=p; ⟨o,h1,h2⟩
theorem refuse_up {h:Heap} {line up:List Value} {self:Value} (T:OwnTail h line up) (p:refuseLoop self "__setattr__" line=pure ()):refuseLoop self "__setattr__" up=pure ():=by
 induction T with
 | base=>exact p
 | _=>rw [refuseLoop_ref]; assumption
structure ExI (K:PySem.W.Frag) (C:Addr):Prop where
 ex:exiK K C [.type "ValueError",.type "Exception",.type "BaseException",.type "object"] "ValueError.__new__"=true
 sa:findIn K (.ref C) "__setattr__"=some (some (.builtin "object.__setattr__"))
 mo:mroIn K C (.type "object")=some true
section
variable {prog:Program} {w:World} {A:Around} {E:Value→Shared→Prop} {K:PySem.W.Frag} {s:Shared} {C x:Addr} {name:Str} {v:Value}
theorem ExI.cls (e:ExI K C):∃ cd up,clsIn K C=some cd∧cd.mro=.ref C::up∧cd.hasDict=true∧tailIn K [.type "ValueError",.type "Exception",.type "BaseException",.type "object"] up=true:=by
 obtain ⟨nm,qn,N,bs,up,sn,sub,ab,col,dd,k0,k1,k2,k3,k5,hl,tl⟩:=exi_of e.ex
 have z:∃ cd,clsIn K C=some cd∧cd.mro=.ref C::up∧cd.hasDict=true:=by
  unfold clsIn
  rw [hl]
  exact ⟨_,rfl,rfl,rfl⟩
 obtain ⟨cd,z1,z2,z3⟩:=z
 exact ⟨cd,up,z1,z2,z3,tl⟩
theorem osx {R:Result→Shared→Prop} {tk:Tok} (X:K.In s.heap) (ei:ExI K C) (LT:Looks (model prog w) s.heap (typeOf (.ref x)) (.ref C)) (hn:findIn K (.ref C) name=some none)
  (h:wpAny (model prog w) A.in1 (storeInOwnDict (.ref x) (.ref C) (.str name tk) name v false) (fun fin s'=>match fin with | .done f=>R (.ok f) s' | .again c'=>c'.quiet=true∧codeAny (model prog w) A c' R s') (fun e s'=>R (.error e) s') s) :
  codeAny (model prog w) A (.call (.builtin "object.__setattr__") ⟨[.ref x,.str name tk,v],[]⟩) R s:=by
 have SF:=PySem.F.store_object
 obtain ⟨cd,up,hc,hm,hd,tl⟩:=ei.cls
 have sub:Looks (model prog w) s.heap (isInstance (.ref x) (.type "object")) true:=LT.andThen (looks_mroIn X ei.mo)
 have mr:Looks (model prog w) s.heap (mroOf (.ref C)) cd.mro:=(looks_clsIn X hc).andThen .now
 refine codeAny_call_builtin SF.slot.plain SF.entry (@check_slot (model prog w) _ _ s "object.__setattr__" "object" "__setattr__" (.ref x) [.str name tk,v] [] _ SF.kind SF.split sub (SF.args (.ref x) (.str name tk) v) ?_)
 rw [osa_eq,refuse_eq]
 refine wpAny_bind (wpAny_bind (LT.here (wpAny_bind (mr.here ?_))))
 rw [hm,refuseLoop_ref,refuse_up (tail_of_in X tl) (PySem.F.store_ValueError.passes (.ref x))]
 exact wpAny_pure (wpAny_bind (LT.here (wpAny_bind ((looks_findIn X hn).here (wpAny_bind (wpAny_pure h))))))
theorem setx {Q:Unit→Shared→Prop} (X:K.In s.heap) (ei:ExI K C) (LT:Looks (model prog w) s.heap (typeOf (.ref x)) (.ref C)) (hn:findIn K (.ref C) name=some none)
  (h:wpAny (model prog w) A.in1 (storeInOwnDict (.ref x) (.ref C) (.str name s.toks) name v false) (fun fin s'=>match fin with | .done (.ret _)=>Q () s' | _=>False) E { s with toks:=s.toks+1 }) :
  wpAny (model prog w) A (setAttr (.ref x) name v) Q E s:=by
 have c:=osx (A:=A) (R:=fun r s'=>match r with | .ok (.ret _)=>Q () s' | .ok _=>False | .error e=>E e s') (s:={ s with toks:=s.toks+1 }) (tk:=s.toks) (v:=v) X ei LT hn (wpAny_mono h (fun fin s' z=>by
  cases fin with
  | done f => cases f <;> exact z
  | again c => exact z.elim) fun _ _ z => z)
 refine wpAny_bind (wpAny_mkText (wpAny_bind (wpAny_bind (wpAny_bind (LT _ _ _ _ (fun _ _ e=>e) (looks_findIn X ei.sa _ _ _ _ (fun _ _ e=>e) (wpAny_holding ?_)))))))
 rw [PySem.F.store_object.slot.bind]
 refine wpAny_bind (wpAny_pure (wpAny_bind (wpAny_call (codeAny_mono c fun r s' z=>?_))))
 rcases r with e | (v | _ | _ | _)<;>first | exact z | exact wpAny_pure (wpAny_pure z)
end
section
variable {prog:Program} {w:World} {A:Around} {E:Value→Shared→Prop} {K:PySem.W.Frag} {s:Shared} {C x:Addr} {name:Str} {v:Value} {tk:Tok} {o:Obj} {vs:Array Value}
theorem storex_new {Q:Fin→Shared→Prop} (X:K.In s.heap) (ei:ExI K C) (hx:s.heap.get? x=some o) (hc:o.cls=.ref C) (hd:o.data=.fields vs) (hn:o.dict=none)
  (k:∀ h' t',h'.get? x=some { o with dict:=some s.heap.objs.size }→h'.Ns1 s.heap.objs.size (fun y=>if y=name then some v else none)→(∀ b u,b≠x→s.heap.get? b=some u→h'.get? b=some u)→Q (.done (.ret .none)) { s with heap:=h',toks:=t' }) :
  wpAny (model prog w) A (storeInOwnDict (.ref x) (.ref C) (.str name tk) name v false) Q E s:=by
 obtain ⟨cd,up,hcd,_,hh,_⟩:=ei.cls
 obtain ⟨oc,od,odt,osl⟩:=o
 dsimp only at hc hd hn
 subst hc hd hn
 have ne:s.heap.objs.size≠x:=Nat.ne_of_gt (Heap.lt_size hx)
 refine wpAny_bind (wpAny_pure (wpAny_bind (wpAny_bind (wpAny_loadPart hx (wpAny_bind ((looks_clsIn X hcd).here ?_))))))
 rw [hh]
 show wpAny _ _ (do let d ← alloc { cls:=.type "dict",data:=.dict #[] }; update x fun o=>{ o with dict:=some d }; dictMade (.ref C) x d) _ _ _
 refine wpAny_bind (wpAny_alloc' (wpAny_bind (wpAny_update' (Heap.get?_push_of_some _ hx) ?_)))
 refine wpAny_pure (a:=some s.heap.objs.size) (wpAny_bind (wpAny_pure (wpAny_bind ?_)))
 have gd:((s.heap.push { cls:=.type "dict",data:=.dict #[] }).update x fun o=>{ o with dict:=some s.heap.objs.size }).get? s.heap.objs.size=some { cls:=.type "dict",data:=.dict #[] }:=by
  rw [Heap.get?_update_other _ _ (Ne.symm ne)]
  exact Heap.get?_push_size s.heap rfl
 have nd:((s.heap.push { cls:=.type "dict",data:=.dict #[] }).update x fun o=>{ o with dict:=some s.heap.objs.size }).Ns s.heap.objs.size (fun _=>none):=⟨_,#[],_,gd,rfl,(fun e he=>absurd he (by simp)),fun _=>rfl⟩
 refine wpAny_nsSet1 (Heap.Ns1.of_empty nd) fun h' hn' hs=>?_
 obtain ⟨oD,esD,epD,hoD,hdD,hcD⟩:=hn'.count (PySem.Within.cons name v PySem.Within.nil)
 refine wpAny_bind (wpAny_lookBehind hoD (by rw [hdD]; exact pastItsLine_dict (Nat.le_trans hcD (by rw [List.length_cons,List.length_nil,sizeLine_eq]; omega))) ?_)
 refine wpAny_pure (k h' _ ?_ hn' fun b u hb hu=>?_)
 ·refine (hs.2 x (Ne.symm ne)).trans (Heap.get?_update_self _ (Heap.get?_push_of_some _ hx) rfl)
 ·exact (hs.2 b (Nat.ne_of_lt (Heap.lt_size hu))).trans ((Heap.get?_update_other _ _ (Ne.symm hb)).trans (Heap.get?_push_of_some _ hu))
theorem storex_more {Q:Fin→Shared→Prop} {dx:Addr} {mA:Str→Option Value} {ns:List Str} (X:K.In s.heap) (ei:ExI K C) (hx:s.heap.get? x=some o) (hc:o.cls=.ref C) (hd:o.data=.fields vs) (hn:o.dict=some dx) (hns:s.heap.Ns1 dx mA) (hw:PySem.Within mA ns) (hz:ns.length<1000)
  (k:∀ h' t',h'.Ns1 dx (fun y=>if y=name then some v else mA y)→(∀ b u,b≠dx→s.heap.get? b=some u→h'.get? b=some u)→Q (.done (.ret .none)) { s with heap:=h',toks:=t' }) :
  wpAny (model prog w) A (storeInOwnDict (.ref x) (.ref C) (.str name tk) name v false) Q E s:=by
 obtain ⟨cd,up,hcd,_,hh,_⟩:=ei.cls
 obtain ⟨oc,od,odt,osl⟩:=o
 dsimp only at hc hd hn
 subst hc hd hn
 refine wpAny_bind (wpAny_pure (wpAny_bind (wpAny_bind (wpAny_loadPart hx (wpAny_bind ((looks_clsIn X hcd).here ?_))))))
 rw [hh]
 refine wpAny_pure (a:=some dx) (wpAny_bind (wpAny_pure (wpAny_bind ?_)))
 refine wpAny_nsSet1 hns fun h' hn' hs=>?_
 obtain ⟨oD,esD,epD,hoD,hdD,hcD⟩:=hn'.count (PySem.Within.cons name v hw)
 refine wpAny_bind (wpAny_lookBehind hoD (by rw [hdD]; exact pastItsLine_dict (Nat.le_trans hcD (by rw [List.length_cons,sizeLine_eq]; omega))) ?_)
 exact wpAny_pure (k h' _ hn' fun b u hb hu=>(hs.2 b hb).trans hu)
end
section
variable {X:Cx} {pins:List (Addr×Obj)} {σ:St} {H:Hp} {s:Shared} {e C dx:Addr} {fs:List (Str×V)} {f:Str} {y:V} {u:Value} {A:Around} {E:Value→Shared→Prop} {Q:Unit→Shared→Prop}
theorem setx_new (I:Inv X pins σ H s) (he:H e=some (ExcM e C none)) (ei:ExI X.K C) (hn:findIn X.K (.ref C) f=some none) (ry:RelV y u)
  (k:∀ d s',H d=none→d≠e→Inv X pins σ (upd (upd H d (XdO d [(f,y)])) e (ExcM e C (some d))) s'→Q () s'):wpAny (model X.prog X.w) A (setAttr (.ref e) f u) Q E s:=by
 have p:ExcMAt e C none s.heap:=(show ObjOk X.prog X.w H s.heap e (.ext (ExcMAt e C none)) from I.hok e _ he).1
 obtain ⟨o,a0,hx,hc,hd,hdn⟩:=id p
 refine setx I.kIn ei (ExcAt.looks p.at) hn (storex_new (s:={ s with toks:=s.toks+1 }) I.kIn ei hx hc hd hdn fun h' t' g1 g2 g3=>?_)
 have ne:s.heap.objs.size≠e:=Nat.ne_of_gt (Heap.lt_size hx)
 refine k s.heap.objs.size _ (I.hok.fresh (Nat.le_refl _)) ne ?_
 have xd:XdAt s.heap.objs.size [(f,y)] h':=by
  refine ⟨_,g2,fun n=>?_,fun n hn=>?_⟩
  ·show RelO (List.lookup n [(f,y)]) (if n=f then some u else none)
   rw [List.lookup_cons]
   by_cases z:n=f
   ·subst z; simp only [beq_self_eq_true,if_true]; exact ry
   ·rw [if_neg z,show (n==f)=false from beq_eq_false_iff_ne.mpr z]; exact True.intro
  ·by_cases z:n=f
   ·subst z; simp
   ·exact absurd (if_neg z) hn
 obtain ⟨od,es,ep,hod,_⟩:=id g2
 have fr:od.isFreed=false:=(Heap.get?_some_iff.mp hod).2
 have gd:(s.heap.push od).get? s.heap.objs.size=some od:=Heap.get?_push_size s.heap fr
 have I1:Inv X pins σ (upd H s.heap.objs.size (XdO s.heap.objs.size [(f,y)])) { s with heap:=s.heap.push od,toks:=t' } :=
  I.laid (fun b v z=>Heap.get?_push_of_some _ z) (Nat.le_refl _) ⟨XdAt.stay _ _ xd fun o z=>by rw [hod] at z; cases z; exact gd,⟨_,gd⟩,XdAt.stay⟩
 refine I1.write (x:=e) (e:=e) (o:=ExcM e C (some s.heap.objs.size)) (h':=h') (t':=t') (by rw [upd_ne (Ne.symm ne),he]; exact True.intro) (.inl rfl) (fun b v hb z=>?_) ⟨_,g1⟩ ⟨⟨_,a0,g1,hc,hd,rfl⟩,⟨_,g1⟩,ExcMAt.stay⟩
 by_cases q:b=s.heap.objs.size
 ·subst q
  rw [show ({ s with heap:=s.heap.push od,toks:=t' }:Shared).heap=s.heap.push od from rfl,gd] at z
  cases z
  exact hod
 ·have z':(s.heap.push od).get? b=some v:=z
  rcases Heap.get?_push_cases z' with ⟨r,_⟩ | r
  ·exact absurd r q
  ·exact g3 b v hb r
theorem setx_more (I:Inv X pins σ H s) (he:H e=some (ExcM e C (some dx))) (hD:H dx=some (XdO dx fs)) (ei:ExI X.K C) (hn:findIn X.K (.ref C) f=some none) (hl:fs.length<1000) (ry:RelV y u)
  (k:∀ s',Inv X pins σ (upd H dx (XdO dx (putF f y fs))) s'→Q () s'):wpAny (model X.prog X.w) A (setAttr (.ref e) f u) Q E s:=by
 have p:ExcMAt e C (some dx) s.heap:=(show ObjOk X.prog X.w H s.heap e (.ext (ExcMAt e C (some dx))) from I.hok e _ he).1
 obtain ⟨o,a0,hx,hc,hd,hdn⟩:=id p
 obtain ⟨mA,ns,rel,wi⟩:XdAt dx fs s.heap:=(show ObjOk X.prog X.w H s.heap dx (.ext (XdAt dx fs)) from I.hok dx _ hD).1
 refine setx I.kIn ei (ExcAt.looks p.at) hn (storex_more (s:={ s with toks:=s.toks+1 }) I.kIn ei hx hc hd hdn ns wi (by rw [List.length_map]; exact hl) fun h' t' g2 g3=>?_)
 have hd':∃ o,h'.get? dx=some o:=let ⟨o,_,_,z,_⟩:=g2; ⟨o,z⟩
 refine k _ (I.write (x:=dx) (e:=dx) (by rw [hD]; exact True.intro) (.inl rfl) g3 hd' ⟨⟨_,g2,fun n=>?_,fun n hn=>?_⟩,hd',XdAt.stay⟩)
 ·show RelO ((putF f y fs).lookup n) (if n=f then some u else mA n)
  rw [lookup_putF]
  by_cases q:n=f
  ·rw [if_pos q,if_pos q]; exact ry
  ·rw [if_neg q,if_neg q]; exact rel n
 ·by_cases q:n=f
  ·rw [q]; exact (keys_putF f y fs).1
  ·refine (keys_putF f y fs).2 n (wi n fun z=>hn ?_)
   show (if n=f then some u else mA n)=none
   rw [if_neg q]; exact z
end
theorem upd_id {H:Hp} {a:Addr} {o:HO} (h:H a=some o):upd H a o=H:=by
 funext b
 unfold upd
 by_cases z:b=a
 ·rw [if_pos z,z,h]
 ·rw [if_neg z]
section
variable {X:Cx} {pins:List (Addr×Obj)} {σ:St} {H:Hp} {s:Shared} {e C:Addr} {xo:Option Addr} {u:Value} {A:Around} {E:Value→Shared→Prop} {Q:Value→Shared→Prop}
theorem xinit (I:Inv X pins σ H s) (he:H e=some (ExcM e C xo)) (ei:ExI X.K C)
  (k:∀ s',Inv X pins σ H s'→Q .none s'):wpAny (model X.prog X.w) A (call (.builtin "ValueError.__init__") [.ref e,u]) Q E s:=by
 have p:ExcMAt e C xo s.heap:=(show ObjOk X.prog X.w H s.heap e (.ext (ExcMAt e C xo)) from I.hok e _ he).1
 obtain ⟨o,a0,hx,hc,hd,hdn⟩:=id p
 obtain ⟨nm,qn,N,bs,up,sn,sub,ab,col,dd,k0,k1,k2,k3,k5,hl,tl⟩:=exi_of ei.ex
 have cl:=I.kIn _ _ hl
 have T:=tail_of_in I.kIn tl
 have F:=PySem.F.excBase_ValueError
 obtain ⟨hh,g,d,t,os⟩:=s
 refine wpAny_call (codeAny_call_builtin F.init.plain F.initEntry (wpAny_check_init_subT F T cl hx hc ?_))
 obtain ⟨oc,od,odt,osl⟩:=o
 dsimp only at hc hd hdn
 subst hc hd hdn
 wp_walk
 have fin:Q Value.none ⟨(hh.push { cls:=.type "tuple",data:=.seq #[u] }).update e (Obj.mapFields fun x=>x.setIfInBounds 0 (.ref hh.objs.size)),g,d,t,os⟩:=by
  have g1:=Heap.get?_update_self (Obj.mapFields fun x=>x.setIfInBounds 0 (.ref hh.objs.size)) (Heap.get?_push_of_some { cls:=.type "tuple",data:=.seq #[u] } hx) rfl
  refine k _ ?_
  have J:=I.write (x:=e) (e:=e) (o:=ExcM e C od) (h':=(hh.push { cls:=.type "tuple",data:=.seq #[u] }).update e (Obj.mapFields fun x=>x.setIfInBounds 0 (.ref hh.objs.size))) (t':=t) (by rw [he]; exact True.intro) (.inl rfl) (fun b v hb z=>?_) ⟨_,g1⟩ ⟨⟨_,.ref hh.objs.size,g1,rfl,rfl,rfl⟩,⟨_,g1⟩,ExcMAt.stay⟩
  ·rw [upd_id he] at J
   exact J
  ·rw [Heap.get?_update_other _ _ (Ne.symm hb)]
   exact Heap.get?_push_of_some _ z
 show wpAny _ _ (match a0 with | .ref a=>letGo [a0] | _=>pure ()) _ _ _
 cases a0<;>first | (refine wpAny_pure (wpAny_pure ?_); exact fin) | (wp_walk; exact fin)
end
structure BaseI (K:PySem.W.Frag) (S:Addr):Prop where
 ga:specialIn K (.ref S) "__getattribute__"=some (some (.builtin "type.__getattribute__"))
 rd:readsIn K S (.type "type")=true
 at_:findCls K (.ref S) (.type "type") "__init__"=some (.val (.builtin "ValueError.__init__"))
def tInitX (K:PySem.W.Frag) (t:TA):TE:=fun σ H Q=>t σ H fun vs H1=>∃ (e C:Addr) (xo:Option Addr) (y:V),vs=[.ref e,y]∧H1 e=some (ExcM e C xo)∧ExI K C∧Q .non H1
theorem rd_initX {K:PySem.W.Frag} {t:TA} {σ:St} {H:Hp} {Q:VK} (h:t σ H fun vs H1=>∃ (e C:Addr) (xo:Option Addr) (y:V),vs=[.ref e,y]∧H1 e=some (ExcM e C xo)∧ExI K C∧Q .non H1):tInitX K t σ H Q:=h
section
variable {X:Cx} {S:Addr} {x:Str} {p pos apos:Pos} {e o:Expr} {es:List Expr} {t:TA}
theorem pe_initX {pl:Sem Bool} (hg:Gl X x) (hm:X.mg x=some (.ref S)) (c:BaseI X.K S) (ha:PA X (e::es) t)
  (hdb:(x==("__debug__":Str))=false:=by decide)
  (hst:starEach (e::es) X.env=(false,eval e X.env)::starEach es X.env:=by rfl) (hpl:(backTo pos (starEach es X.env)).any (·.1)=false:=by rfl)
  (ht:eval (.Call (.Attribute (.Name x p) "__init__" apos) (e::es) [] pos) X.env=(do
   let ov ← eval (.Name x p) X.env
   standAt apos.atName
   let (f,first) ← holding [ov] (getMethod ov "__init__" pl)
   callWith pos f first (backTo pos (starEach (e::es) X.env)) (backToKw pos (keywordEach [] X.env))):=by rfl) :
  PE X (.Call (.Attribute (.Name x p) "__init__" apos) (e::es) [] pos) (tInitX X.K t):=by
 intro pins s σ H Q I h
 refine PySem.W.methodCall_KW (pl:=pl) (thn ((pe_glob (v:=.ref S) hg hm rfl hdb) pins s σ H (fun x H1=>x=.ref S∧H1=H) I ⟨rfl,rfl⟩) fun u s1 ⟨x,H1,I1,rx,ex,eh⟩=>?_) ht
 subst ex; subst eh
 obtain rfl:u=Value.ref S:=rx
 refine PySem.W.method_cls I1.kIn c.ga (PySem.W.cls_value I1.kIn c.rd c.at_ rfl ?_)
 have I2:=I1.tok (s1.toks+1)
 have hA:=ha pos pins _ σ H1 _ I2 h
 rw [hst] at hA ⊢
 refine Calls.callWith_builtin (by show (false||(backTo pos (starEach es X.env)).any (·.1))=false; rw [hpl]<;>rfl) (Calls.evalArgs_plain ?_)
 refine thn hA fun us s2 ⟨vs,H2,I3,r,q2⟩=>?_
 obtain ⟨ee,C,xo,y,rfl,he,ei,q⟩:=q2
 obtain ⟨u1,u2,rfl,r1,r2⟩:=r.two
 cases (show u1=Value.ref ee from r1)
 exact xinit I3 he ei fun s' I'=>⟨.non,H2,I',rfl,q⟩
end
def sFldX (K:PySem.W.Frag) (ta tv:TE) (f:Str):TS:=fun D σ H=>tv σ H fun y H1=>ta σ H1 fun x H2=>∃ (e C:Addr),x=.ref e∧ExI K C∧findIn K (.ref C) f=some none ∧
  ((H2 e=some (ExcM e C none)∧∀ d,H2 d=none→d≠e→D.nx σ (upd (upd H2 d (XdO d [(f,y)])) e (ExcM e C (some d)))) ∨
   ∃ dx fs,H2 e=some (ExcM e C (some dx))∧H2 dx=some (XdO dx fs)∧fs.length<1000∧D.nx σ (upd H2 dx (XdO dx (putF f y fs))))
theorem rd_fldXs {K:PySem.W.Frag} {ta tv:TE} {f:Str} {D:Ends} {σ:St} {H:Hp} (h:tv σ H fun y H1=>ta σ H1 fun x H2=>∃ (e C:Addr),x=.ref e∧ExI K C∧findIn K (.ref C) f=some none ∧
  ((H2 e=some (ExcM e C none)∧∀ d,H2 d=none→d≠e→D.nx σ (upd (upd H2 d (XdO d [(f,y)])) e (ExcM e C (some d)))) ∨
   ∃ dx fs,H2 e=some (ExcM e C (some dx))∧H2 dx=some (XdO dx fs)∧fs.length<1000∧D.nx σ (upd H2 dx (XdO dx (putF f y fs))))):sFldX K ta tv f D σ H:=h
theorem ps_fldX {X:Cx} {ta tv:TE} {f:Str} {o value:Expr} {pos pos':Pos} (ha:PE X o ta) (hv:PE X value tv) (hs:swapsWith value (some (.Attribute o f pos')) pos.line X.env=pure false):PS X (.Assign [.Attribute o f pos'] value pos) (sFldX X.K ta tv f):=by
 intro pins s σ H D I h
 refine plainObj_wpAny_Assign_Attribute (thn (hv pins s σ H _ I h) fun u s1 ⟨y,H1,I1,ry,q⟩=>thn (ha pins s1 σ H1 _ I1 q) fun ov s2 ⟨x,H2,I2,rx,e,C,ex,ei,n,q2⟩=>?_) hs
 subst ex
 obtain rfl:ov=Value.ref e:=rx
 rcases q2 with ⟨he,k⟩ | ⟨dx,fs,he,hD,hl,k⟩
 ·exact setx_new I2 he ei n ry fun d s3 hd hne I3=>⟨σ,_,I3,k d hd hne⟩
 ·exact setx_more I2 he hD ei n hl ry fun s3 I3=>⟨σ,_,I3,k⟩
section
variable {prog:Program} {w:World} {A:Around} {E:Value→Shared→Prop} {s:Shared} {K:PySem.W.Frag} {x C:Addr} {name:Str} {v:Value}
theorem exc_get {Q:Value→Shared→Prop} {expr:Bool} (X:K.In s.heap) (xi:ExcIn K C) (LT:Looks (model prog w) s.heap (typeOf (.ref x)) (.ref C)) (L4:Looks (model prog w) s.heap (find (.ref x) (.ref C) name) (.value v)) (hv:handedIn v=true)
  (h:Q v { s with toks:=s.toks+1 }):wpAny (model prog w) A (getAttr (.ref x) name expr) Q E s:=by
 obtain ⟨hh,g,d,t,os⟩:=s
 have L1:=looks_findIn (M:=model prog w) X xi.ga
 have L2:=looks_findIn (M:=model prog w) X xi.gt
 have L3:=looks_mroIn (M:=model prog w) X xi.mb
 have f3:=(F.attrBase_ValueError).ga.bind (.ref x)
 unfold getAttr getAttrBy
 refine wpAny_bind (wpAny_mkText (wpAny_holding (wpAny_bind (LT.at (wpAny_bind (L1.at ?_))))))
 show wpAny _ _ (getAttrByItsOwn _ _ _ _ _ _) _ _ _
 unfold getAttrByItsOwn hookBefore
 refine wpAny_bind (L2.at ?_)
 refine wpAny_bind (wpAny_attempt (wpAny_holding ?_))
 have ce:callGetattribute (.ref x) (.str name t) (.builtin "BaseException.__getattribute__") expr=boundAndCalled (.builtin "BaseException.__getattribute__") (.ref x) (.str name t):=by cases expr<;>rfl
 rw [ce]
 unfold boundAndCalled
 rw [f3]
 refine wpAny_bind (wpAny_pure (wpAny_call ?_))
 have hk:builtinKind "BaseException.__getattribute__"=some .slot:=(by decide +kernel)
 have hsplit:splitId "BaseException.__getattribute__"=some ("BaseException","__getattribute__"):=by decide +kernel
 refine codeAny_call_builtin (F.attrBase_ValueError).ga.plain F.entry_bexc_ga ?_
 have ha:=F.args_bexc_ga (.ref x) (.str name t)
 simp only [checkBuiltinCall,hk,hsplit]; refine wpAny_bind ?_
 unfold isInstance
 refine wpAny_bind (LT.at (L3.at ?_))
 simp only [Bool.not_true,Bool.false_eq_true,if_false]; refine wpAny_of_eq (a:=()) ha ?_
 unfold Builtin.«object.__getattribute__»
 repeat (first | lk)
 show wpAny _ _ (handedOut v) _ _ _
 rw [handedOut_of hv]
 exact wpAny_pure h
end
def tFldX (K:PySem.W.Frag) (ta:TE) (f:Str):TE:=fun σ H Q=>ta σ H fun x H1=>∃ e C dx fs v,x=.ref e∧H1 e=some (ExcX e C (some dx))∧H1 dx=some (XdO dx fs)∧ExcIn K C∧ExI K C∧findIn K (.ref C) f=some none∧fs.lookup f=some v∧Q v H1
def rFldX (K:PySem.W.Frag) (f:Str) (x:V) (H1:Hp) (Q:VK):Prop:=∃ e C dx fs v,x=.ref e∧H1 e=some (ExcX e C (some dx))∧H1 dx=some (XdO dx fs)∧ExcIn K C∧ExI K C∧findIn K (.ref C) f=some none∧fs.lookup f=some v∧Q v H1
theorem rd_fldX {K:PySem.W.Frag} {ta:TE} {f:Str} {σ:St} {H:Hp} {Q:VK} (h:ta σ H fun x H1=>rFldX K f x H1 Q):tFldX K ta f σ H Q:=h
theorem pe_fldX {X:Cx} {ta:TE} {f:Str} {e:Expr} {pos:Pos} (he:PE X e ta) (hb:attributeBase e f X.env (eval e X.env)=eval e X.env):PE X (.Attribute e f pos) (tFldX X.K ta f):=by
 intro pins s σ H Q I h
 refine attr_of hb (thn (he pins s σ H _ I h) fun u s1 ⟨x,H1,I1,rx,e,C,dx,fs,v,ex,h1,h2,xi,ei,n,l,q⟩=>?_)
 subst ex
 obtain rfl:u=Value.ref e:=rx
 obtain ⟨o,vs,g1,g2,g3,g4⟩:ExcAtX e C (some dx) s1.heap:=(show ObjOk X.prog X.w H1 s1.heap e (.ext (ExcAtX e C (some dx))) from I1.hok e _ h1).1
 obtain ⟨mA,ns,rel,_⟩:XdAt dx fs s1.heap:=(show ObjOk X.prog X.w H1 s1.heap dx (.ext (XdAt dx fs)) from I1.hok dx _ h2).1
 obtain ⟨u,hu,ru⟩:=RelO.some_of (v:=v) (o:=mA f) (by rw [← l]; exact rel f)
 obtain ⟨od,ho,hl⟩:=lookIn_ns ns
 obtain ⟨cd,up,hcd,_,hh,_⟩:=ei.cls
 have IA:InstAt s1.heap e o C (some od):=⟨g1,g2,by unfold notCls; rw [g3],by rw [g4 dx rfl]; exact ho⟩
 have hd:hasDictIn X.K C=true:=by unfold hasDictIn; rw [hcd]; exact hh
 exact exc_get I1.kIn xi (ExcAt.looks ⟨o,g1,g2⟩) (looks_find I1.kIn IA (findObj_own hd n rfl (by rw [hl,hu]))) (handed_of ru) ⟨v,H1,I1.tok _,ru,q⟩
def del (H:Hp) (e:Addr):Hp:=fun b=>if b=e then none else H b
theorem del_ne {H:Hp} {e b:Addr} (h:b≠e):del H e b=H b:=by unfold del; rw [if_neg h]
theorem del_same {H:Hp} {e:Addr}:del H e e=none:=by unfold del; rw [if_pos rfl]
theorem Inv.untrack {X:Cx} {pins:List (Addr×Obj)} {σ:St} {H:Hp} {s:Shared} {e:Addr} {φ:Heap→Prop} (I:Inv X pins σ H s) (he:H e=some (.ext φ)):Inv X pins σ (del H e) s:=by
 have nt:∀ b u,H b=some u→(∀ ψ,u≠.ext ψ)→del H e b=some u:=fun b u z n=>by
  rw [del_ne (fun q=>by subst q; rw [he] at z; cases z; exact n φ rfl)]; exact z
 refine ⟨I.ok,I.os,I.bare,⟨I.base.keep,I.base.slot,fun b o z n hx=>?_,I.base.there,fun b xs z=>?_,fun b o u z=>?_,fun b ps z=>?_⟩,I.loc,I.cell,?_,fun x c z=>?_,fun p hp=>?_,fun b u z=>?_,I.len⟩
 ·by_cases q:b=e
  ·rw [q,del_same]
  ·rw [del_ne q]; exact I.base.free b o z n hx
 ·exact nt b _ (I.base.tups b xs z) (by intro ψ q; cases q)
 ·exact nt b _ (I.base.frzs b o u z) (by intro ψ q; cases q)
 ·obtain ⟨m,q⟩:=I.base.tbls b ps z
  exact ⟨m,nt b _ q (by intro ψ q; cases q)⟩
 ·by_cases q:X.env.locals=e
  ·rw [q,del_same]
  ·rw [del_ne q]; exact I.free
 ·by_cases q:c=e
  ·rw [q,del_same]
  ·rw [del_ne q]; exact I.freeC x c z
 ·obtain ⟨a,n,r⟩:=I.pin p hp
  refine ⟨a,?_,r⟩
  by_cases q:p.1=e
  ·rw [q,del_same]
  ·rw [del_ne q]; exact n
 ·have hb:b≠e:=fun q=>by rw [q,del_same] at z; cases z
  rw [del_ne hb] at z
  exact (I.hok b u z).stay (fun _ _ _ w=>w) (fun c w=>nt c _ w (by intro ψ q; cases q)) fun c xs w=>nt c _ w (by intro ψ q; cases q)
section
variable {M:Model} {A:Around} {E:Value→Shared→Prop} {env:Env} {K:PySem.W.Frag} {C:Addr}
theorem raise_x {s:Shared} {x:Sem Value} {Q:Flow→Shared→Prop} (ei:ExI K C) (hh:A.handled=none)
  (h:wpAny M A x (fun v s₁=>∃ e oe a0,v=.ref e∧K.In s₁.heap∧s₁.heap.get? e=some oe∧oe.cls=.ref C∧oe.data=.fields #[a0,.none,.none,.none,.bool false,.none]∧E (.ref e) s₁) E s):wpAny M A (raiseStmt env (some x) none) Q E s:=by
 obtain ⟨nm,qn,N,bs,up,sn,sub,ab,col,dd,k0,k1,k2,k3,k5,hl,tl⟩:=exi_of ei.ex
 unfold raiseStmt
 refine wpAny_bind (wpAny_mono h (fun v s₁ h₁=>?_) fun _ _ x=>x)
 obtain ⟨e,oe,a0,rfl,X,he,hc,hd,hE⟩:=h₁
 have cl:=X _ _ hl
 have hb:(Value.ref C::up).contains (.type "BaseException")=true:=by rw [List.contains_cons,(tail_of_in X tl).hasType PySem.F.excBase_ValueError.hasBase,Bool.or_true]
 obtain ⟨oc,od,odt,osl⟩:=oe
 dsimp only at hc hd
 subst hc hd
 obtain ⟨hp,g,d,tk,os⟩:=s₁
 repeat (first | with_reducible refine wpAny_loadPart_at he ?_ | with_reducible refine wpAny_loadPart_at cl ?_ | (with_reducible refine wpAny_isSubtype_exc cl ?_; rw [hb]) | wp_step)
 exact wpAny_raiseNew_none hh hE
end
structure MkX (K:PySem.W.Frag) (C f:Addr):Prop where
 ei:ExI K C
 init:findIn K (.ref C) "__init__"=some (some (.ref f))
 fn:typeIn K (.ref f)=some (.type "function")
 kp:keepIn K (.ref C)=true
def tRaiseI (C:Addr) (sp:Sp) (E:XK) (t:TA):TS:=fun _ σ H=>t σ H fun vs H1=>vs.length≤sizeLine∧∀ e,H1 e=none →
 sp (.ref e::vs) (upd H1 e (ExcM e C none)) (fun v H2=>v=.non∧∃ xo,H2 e=some (ExcM e C xo)∧E (.ref C) xo (del H2 e)) E0
theorem rd_raiseI {C:Addr} {sp:Sp} {E:XK} {t:TA} {D:Ends} {σ:St} {H:Hp} (h:t σ H fun vs H1=>vs.length≤sizeLine∧∀ e,H1 e=none →
 sp (.ref e::vs) (upd H1 e (ExcM e C none)) (fun v H2=>v=.non∧∃ xo,H2 e=some (ExcM e C xo)∧E (.ref C) xo (del H2 e)) E0):tRaiseI C sp E t D σ H:=h
theorem ps_raiseI {X:Cx} {E:XK} {x:Str} {C f:Addr} {fd:FuncData} {ps:List Str} {sp:Sp} {k:Nat} {np cpos pos:Pos} {e:Expr} {es:List Expr} {t:TA} (M:MkX X.K C f) (F:FnOk X.prog X.w X.K X.mg X.base CX0 k f fd ps sp) (hr:Room (k+1) X.A)
  (hg:Gl X x) (hm:X.mg x=some (.ref C)) (hb:Binds X.K fd ps []) (hc:X.calm=true) (hex:X.ex=[])
  (hx:∀ (pins:List (Addr×Obj)) (σ:St) (H:Hp) (s:Shared) (e:Addr) (xo:Option Addr) (oe:Obj) (vs:Array Value),Inv X pins σ H s→s.heap.get? e=some oe→oe.cls=.ref C→oe.data=.fields vs→vs[1]?=some .none→X.s₀.heap.get? e=none→H e=none→(∀ dx,xo=some dx→oe.dict=some dx)→E (.ref C) xo H→X.xe (.ref e) s)
  (ha:PA X (e::es) t) (hd:(x==("__debug__":Str))=false:=by decide) (he:starEach (e::es) X.env=(false,eval e X.env)::starEach es X.env:=by rfl) (hpl:(backTo cpos (starEach es X.env)).any (·.1)=false:=by rfl) :
  PS X (.Raise (some (.Call (.Name x np) (e::es) [] cpos)) none pos) (tRaiseI C sp E t):=by
 intro pins s σ H D I h
 rw [arm_exec_Raise]
 refine wpAny_bind (wpAny_standAt (raise_x (K:=X.K) (C:=C) M.ei (I.ok.hd hc) (wpAny_bind (wpAny_mono (wpAny_Call_Name_kw (ld_glob I hg hm ?_ hd)) (fun v s3 h3=>wpAny_bind (wpAny_standAt (wpAny_pure h3))) fun _ _ z=>z))))
 refine PySem.W.callWith_K (h₀:=X.base) I.ok.mod.kin M.kp (thn (ha cpos pins s σ H _ I h) fun us s1 ⟨vs,H1,I1,r,hz,q⟩=>⟨I1.kIn,?_⟩) he hpl
 obtain ⟨h1,g1,d1,t1,os1⟩:=s1
 rw [List.nil_append]
 refine xcall I1.kIn M.ei.ex PySem.F.excBase_ValueError M.init M.fn (by rw [← r.length]; exact hz) fun h' a mk=>?_
 have nH:H1 a=none:=I1.hok.none_of mk.new
 have n0:X.s₀.heap.get? a=none:=by
  cases z:X.s₀.heap.get? a with
  | none => rfl
  | some o => obtain ⟨o', z'⟩ := I1.base.there a o z (by rw [hex]; intro q; cases q); rw [show h1.get? a = none from mk.new] at z'; cases z'
 obtain ⟨tp,ga,_,_⟩:=mk.there
 have I2:Inv X pins σ (upd H1 a (ExcM a C none)) ⟨h',g1,d1,t1,os1⟩:=by
  refine (I1.kept (t':=t1) mk.keeps).track nH n0 (fun p hp z=>?_) ⟨_,_,ga,rfl⟩ ⟨_,_,ga,rfl,rfl,rfl⟩ ExcMAt.stay
  have hp':=(I1.pin p hp).1
  rw [z,show h1.get? a=none from mk.new] at hp'
  cases hp'
 have hq:=q a nH
 have r2:Vals (V.ref a::vs) (Value.ref a::us):=.cons rfl r
 have hl:(Value.ref a::us++[]).length=ps.length:=by
  rw [List.append_nil]
  have e:=r2.length
  rw [F.len _ _ _ _ hq] at e
  exact e.symm
 refine wpAny_call (codeAny_mono (F.run _ X.stack _ _ ⟨Value.ref a::us,[]⟩ (Value.ref a::us) _ _ E0 (hr.make C us []) (I2.env0.make C us []) (by have:=hb _ (Value.ref a::us) I2.kIn hl; rw [List.append_nil] at this; exact this) r2 hq) fun r s' hq'=>?_)
 cases r with
 | error e=>exact False.elim hq'
 | ok fl =>
  cases fl with
  | ret u =>
   obtain ⟨v,H',I3,rv,ev,xo,hM,hE⟩:=I2.after hq'
   subst ev
   refine ⟨rv,?_⟩
   obtain ⟨o,a0,y1,y2,y3,y4⟩:ExcMAt a C xo s'.heap:=(show ObjOk X.prog X.w H' s'.heap a (.ext (ExcMAt a C xo)) from I3.hok a _ hM).1
   exact ⟨a,o,a0,rfl,I3.kIn,y1,y2,y3,hx pins σ _ s' a xo o _ (I3.untrack hM) y1 y2 y3 rfl n0 del_same (fun dx z=>y4.trans z) hE⟩
  | next => exact False.elim hq'
  | brk => exact False.elim hq'
  | cont => exact False.elim hq'
end L2
set_option Elab.async false
set_option linter.all false
set_option maxRecDepth 100000
set_option maxHeartbeats 4000000
namespace L2
open PySem PySem.Spec PyProof.Rows PySem.W
theorem exi_mk {K:PySem.W.Frag} {C S:Addr} {line:List Value} {nid:String} {dd:Option Addr} {k:ClassData} {ss:Array (Option Value)} {k0 k1 k2 k3 k5:Option Value}
  (hl:K.lookup C=some ⟨.type "type",dd,.cls k,ss⟩) (hm:k.mro=.ref C::.ref S::line) (hs:ss.toList=[k0,k1,k2,k3,some (.builtin nid),k5]) (hdel:k.hasDel=false) (hd:k.hasDict=true) (xs:excIn K S line nid=true):exiK K C line nid=true:=by
 have tl:tailIn K line (.ref S::line)=true:=by
  have tt:tailIn K line line=true:=by
   cases line with
   | nil=>rfl
   | cons v r=>unfold tailIn; rw [show ((v::r)==(v::r))=true from beq_self_eq_true _]; rfl
  unfold tailIn
  unfold excIn at xs
  split at xs
  case h_2=>cases xs
  case h_1 dd' cd sl ho =>
   split at xs
   case h_2=>cases xs
   case h_1 =>
    simp only [Bool.and_eq_true] at xs
    dsimp only
    rw [ho]
    simp only [Bool.or_eq_true,Bool.and_eq_true]
    exact .inr ⟨⟨xs.1.2,xs.2⟩,tt⟩
 unfold exiK
 simp only [hl,hm,hs]
 simp only [hdel,hd,tl,beq_self_eq_true,Bool.not_false,Bool.and_self]
theorem pe_bmK {X:Cx} (K:PySem.W.Frag) (hK:X.K=K) {T:String} {name:Str} {id:String} {r:V→List V→Hp→VK→Prop} {o e:Expr} {es:List Expr} {to:TE} {t:TA} {apos cpos:Pos} (pa:PlainAttrs T) (slot:Slot T name id) (hty:typeOf (.builtin id)=pure (.type "method_descriptor")) (hm:MtR X id r) (ho:PE X o to) (ha:PA X (e::es) t)
  (hbase:attributeBase o name X.env (eval o X.env)=eval o X.env:=by rfl)
  (hfew:((backTo cpos (starEach (e::es) X.env)).all (fun x=>!x.1)&&(backToKw cpos (keywordEach [] X.env)).all (fun x=>x.1.isSome)
   && decide ((e::es).length+([]:List Keyword).length+(if ([]:List Keyword).isEmpty then 0 else 1)<30))=true:=by rfl)
  (hline:(apos.endLine==cpos.line)=true:=by rfl) (hs:starEach (e::es) X.env=(false,eval e X.env)::starEach es X.env:=by rfl) (hplain:(backTo cpos (starEach es X.env)).any (·.1)=false:=by rfl) :
  PE X (.Call (.Attribute o name apos) (e::es) [] cpos) (tBM K T r to t):=hK ▸ pe_bm pa slot hty hm ho ha hbase hfew hline hs hplain
theorem pe_fldXK {X:Cx} (K:PySem.W.Frag) (hK:X.K=K) {ta:TE} {f:Str} {e:Expr} {pos:Pos} (he:PE X e ta) (hb:attributeBase e f X.env (eval e X.env)=eval e X.env):PE X (.Attribute e f pos) (tFldX K ta f):=hK ▸ pe_fldX he hb
end L2
set_option Elab.async false
set_option linter.all false
set_option maxRecDepth 100000
set_option maxHeartbeats 4000000
namespace L2
open PySem PySem.Spec PyProof.Rows
end L2
set_option Elab.async false
set_option maxHeartbeats 4000000
set_option linter.all false
set_option maxRecDepth 100000
namespace My
open PySem PySem.Spec PyProof.Rows L2
def top (i:Nat):Stmt:=PySem.Challenge.pw_sashiko_k39_facts_noted.main.body.getD i (.Pass ⟨0,0,0,0⟩)
abbrev s_ClashInit:Stmt:=(inClass (top 11) 0)
abbrev s_isnumber:Stmt:=(top 14)
abbrev s_isbelow:Stmt:=(top 15)
abbrev s_isbit:Stmt:=(top 16)
abbrev s_isside:Stmt:=(top 18)
abbrev s_needcell:Stmt:=(top 19)
abbrev s_cellstrips:Stmt:=(top 24)
abbrev s_linestrips:Stmt:=(top 25)
abbrev s_factstrips:Stmt:=(top 26)
abbrev s_factweight:Stmt:=(top 27)
abbrev s_lonegroups:Stmt:=(top 28)
abbrev s_weightbetween:Stmt:=(top 29)
abbrev s_tie:Stmt:=(top 30)
abbrev s_tiesbystrip:Stmt:=(top 32)
abbrev s_reasons:Stmt:=(top 33)
abbrev s_groupsof:Stmt:=(top 31)
abbrev s_FindsInit:Stmt:=(inClass (top 35) 0)
abbrev s_Findswide:Stmt:=(inClass (top 35) 1)
abbrev s_Findstall:Stmt:=(inClass (top 35) 2)
abbrev s_Findsneedline:Stmt:=(inClass (top 35) 3)
abbrev s_Findsneedfact:Stmt:=(inClass (top 35) 4)
abbrev s_Findsnote:Stmt:=(inClass (top 35) 5)
abbrev s_Findswithdraw:Stmt:=(inClass (top 35) 6)
abbrev s_Findskept:Stmt:=(inClass (top 35) 7)
abbrev s_Lword:Stmt:=(top 37)
abbrev s_Ltie:Stmt:=(top 38)
abbrev s_Lsums:Stmt:=(top 39)
abbrev s_Lclashes:Stmt:=(top 40)
abbrev s_Ldraws:Stmt:=(top 41)
abbrev s_Lbits:Stmt:=(top 42)
abbrev s_Lrow:Stmt:=(top 43)
abbrev s_Lsmall:Stmt:=(top 44)
abbrev s_Lsewn:Stmt:=(top 45)
abbrev s_Lvalue:Stmt:=(top 46)
abbrev s_Lfact:Stmt:=(top 47)
abbrev s_Lfalse:Stmt:=(top 48)
abbrev s_Lnoted:Stmt:=(top 49)
abbrev s_Lsame:Stmt:=(top 50)
abbrev s_Ltaken:Stmt:=(top 51)
abbrev s_Lwanted:Stmt:=(top 52)
abbrev s_law:Stmt:=(top 53)
theorem sc_ClashInit:FnScope ["self","ring"] ["self","ring"] (defScope s_ClashInit):=.by
theorem sc_isnumber:FnScope ["value"] ["value"] (defScope s_isnumber):=.by
theorem sc_isbelow:FnScope ["value","bound"] ["value","bound"] (defScope s_isbelow):=.by
theorem sc_isbit:FnScope ["value"] ["value"] (defScope s_isbit):=.by
theorem sc_isside:FnScope ["count"] ["count"] (defScope s_isside):=.by
theorem sc_needcell:FnScope ["board","x","y"] ["board","x","y"] (defScope s_needcell):=.by
theorem sc_cellstrips:FnScope ["x","y"] ["x","y"] (defScope s_cellstrips):=.by
theorem sc_linestrips:FnScope ["way","k","letter"] ["way","k"] (defScope s_linestrips):=.by
theorem sc_factstrips:FnScope ["fact"] ["fact"] (defScope s_factstrips):=.by
theorem sc_factweight:FnScope ["fact"] ["fact"] (defScope s_factweight):=.by
theorem sc_lonegroups:FnScope ["wide","tall","groups","x","y"] ["wide","tall"] (defScope s_lonegroups):=.by
theorem sc_weightbetween:FnScope ["groups","strips","one","other"] ["groups","strips"] (defScope s_weightbetween):=.by
theorem sc_tie:FnScope ["groups","strips","weight","one","other","change","strip","place"] ["groups","strips","weight"] (defScope s_tie):=.by
theorem sc_tiesbystrip:FnScope ["facts","found","number","fact","strips"] ["facts"] (defScope s_tiesbystrip):=.by
theorem sc_reasons:FnScope ["facts","strips","ties","onward","met","place","here","strip","number","numbers","link"] ["facts","strips"] (defScope s_reasons):=.by
theorem sc_groupsof:FnScope ["wide","tall","facts","groups","fact"] ["wide","tall","facts"] (defScope s_groupsof):=.by
theorem sc_FindsInit:FnScope ["self","wide","tall"] ["self","wide","tall"] (defScope s_FindsInit):=.by
theorem sc_Findswide:FnScope ["self"] ["self"] (defScope s_Findswide):=.by
theorem sc_Findstall:FnScope ["self"] ["self"] (defScope s_Findstall):=.by
theorem sc_Findsneedline:FnScope ["self","way","k"] ["self","way","k"] (defScope s_Findsneedline):=.by
theorem sc_Findsneedfact:FnScope ["self","fact"] ["self","fact"] (defScope s_Findsneedfact):=.by
theorem sc_Findsnote:FnScope ["self","fact","strips","weight","number"] ["self","fact"] (defScope s_Findsnote):=.by
theorem sc_Findswithdraw:FnScope ["self","number"] ["self","number"] (defScope s_Findswithdraw):=.by
theorem sc_Findskept:FnScope ["self"] ["self"] (defScope s_Findskept):=.by
theorem sc_Lword:FnScope ["_law_word_here"] ["_law_word_here"] (defScope s_Lword):=.by
theorem sc_Ltie:FnScope ["_law_fact_here","_law_name","_law_bit"] ["_law_fact_here"] (defScope s_Ltie):=.by
theorem sc_Lsums:FnScope ["_law_facts","_law_strip","_law_found","_law_more","_law_number","_law_fact_here","_law_one","_law_other","_law_weight"] ["_law_facts","_law_strip"] (defScope s_Lsums):=.by
theorem sc_Lclashes:FnScope ["_law_facts","_law_fact_here","_law_one","_law_other","_law_weight"] ["_law_facts","_law_fact_here"] (defScope s_Lclashes):=.by
theorem sc_Ldraws:FnScope ["_law_script","_law_many","_law_rows","_law_mix","_law_cell","_law_rest"] ["_law_script","_law_many"] (defScope s_Ldraws):=.by
theorem sc_Lbits:FnScope ["_law_number","_law_many","_law_row_here","_law_k"] ["_law_number","_law_many"] (defScope s_Lbits):=.by
theorem sc_Lrow:FnScope ["_law_some","_law_many","_law_raw","_law_row_here"] ["_law_some","_law_many"] (defScope s_Lrow):=.by
theorem sc_Lsmall:FnScope ["_law_some","_law_wide","_law_tall"] ["_law_some"] (defScope s_Lsmall):=.by
theorem sc_Lsewn:FnScope ["_law_plan","_law_way","_law_k","_law_step","_law_bits_here"] ["_law_plan","_law_way","_law_k","_law_step"] (defScope s_Lsewn):=.by
theorem sc_Lvalue:FnScope ["_law_plan","_law_x","_law_y","_law_total"] ["_law_plan","_law_x","_law_y"] (defScope s_Lvalue):=.by
theorem sc_Lfact:FnScope ["_law_plan","_law_one","_law_two","_law_three","_law_wide","_law_tall","_law_k","_law_step","_law_x","_law_y"] ["_law_plan","_law_one","_law_two","_law_three"] (defScope s_Lfact):=.by
theorem sc_Lfalse:FnScope ["_law_fact_here"] ["_law_fact_here"] (defScope s_Lfalse):=.by
theorem sc_Lnoted:FnScope ["_law_finds","_law_fact_here","_law_told","e"] ["_law_finds","_law_fact_here"] (defScope s_Lnoted):=.by
theorem sc_Lsame:FnScope ["_law_told","_law_due"] ["_law_told","_law_due"] (defScope s_Lsame):=.by
theorem sc_Ltaken:FnScope ["_law_finds","_law_number","_law_marks","e"] ["_law_finds","_law_number"] (defScope s_Ltaken):=.by
theorem sc_Lwanted:FnScope ["_law_facts","_law_after","_law_fact_here"] ["_law_facts","_law_after","_law_fact_here"] (defScope s_Lwanted):=.by
theorem sc_law:FnScope ["_law_script","_law_some","_law_plan","_law_finds","_law_facts","_law_after","_law_turn","_law_here","_law_fact_here","_law_number","_law_due","_law_told","_law_found"] ["_law_script"] (defScope s_law):=.by
set_option genInjectivity false in
set_option genSizeOf false in
structure Ad where
 a_Finds:Addr
 f_ClashInit:Addr
 d_ClashInit:FuncData
 f_isnumber:Addr
 d_isnumber:FuncData
 f_isbelow:Addr
 d_isbelow:FuncData
 f_isbit:Addr
 d_isbit:FuncData
 f_isside:Addr
 d_isside:FuncData
 f_needcell:Addr
 d_needcell:FuncData
 f_cellstrips:Addr
 d_cellstrips:FuncData
 f_linestrips:Addr
 d_linestrips:FuncData
 f_factstrips:Addr
 d_factstrips:FuncData
 f_factweight:Addr
 d_factweight:FuncData
 f_lonegroups:Addr
 d_lonegroups:FuncData
 f_weightbetween:Addr
 d_weightbetween:FuncData
 f_tie:Addr
 d_tie:FuncData
 f_tiesbystrip:Addr
 d_tiesbystrip:FuncData
 f_reasons:Addr
 d_reasons:FuncData
 f_groupsof:Addr
 d_groupsof:FuncData
 f_FindsInit:Addr
 d_FindsInit:FuncData
 f_Findswide:Addr
 d_Findswide:FuncData
 f_Findstall:Addr
 d_Findstall:FuncData
 f_Findsneedline:Addr
 d_Findsneedline:FuncData
 f_Findsneedfact:Addr
 d_Findsneedfact:FuncData
 f_Findsnote:Addr
 d_Findsnote:FuncData
 f_Findswithdraw:Addr
 d_Findswithdraw:FuncData
 f_Findskept:Addr
 d_Findskept:FuncData
 f_Lword:Addr
 d_Lword:FuncData
 f_Ltie:Addr
 d_Ltie:FuncData
 f_Lsums:Addr
 d_Lsums:FuncData
 f_Lclashes:Addr
 d_Lclashes:FuncData
 f_Ldraws:Addr
 d_Ldraws:FuncData
 f_Lbits:Addr
 d_Lbits:FuncData
 f_Lrow:Addr
 d_Lrow:FuncData
 f_Lsmall:Addr
 d_Lsmall:FuncData
 f_Lsewn:Addr
 d_Lsewn:FuncData
 f_Lvalue:Addr
 d_Lvalue:FuncData
 f_Lfact:Addr
 d_Lfact:FuncData
 f_Lfalse:Addr
 d_Lfalse:FuncData
 f_Lnoted:Addr
 d_Lnoted:FuncData
 f_Lsame:Addr
 d_Lsame:FuncData
 f_Ltaken:Addr
 d_Ltaken:FuncData
 f_Lwanted:Addr
 d_Lwanted:FuncData
 f_law:Addr
 d_law:FuncData
 a_SewError:Addr
 a_Clash:Addr
 a_BadSize:Addr
 a_BadBit:Addr
 a_NoCell:Addr
 a_NoLine:Addr
 a_NoStep:Addr
 a_Known:Addr
 a_NoFact:Addr
 tk_LONGEST_SIDE:Tok
structure Txt (K:PySem.W.Frag) (mg:Str→Option Value) (t:Ad):Prop where
 mg_Finds:mg "Finds"=some (.ref t.a_Finds)
 cl_Finds:Cls K t.a_Finds
 mk_Finds:Mk K t.a_Finds t.f_FindsInit
 naF_columns_count:NoAttr K t.a_Finds "columns_count"
 naF_rows_count:NoAttr K t.a_Finds "rows_count"
 naF_facts:NoAttr K t.a_Finds "facts"
 naF_next_number:NoAttr K t.a_Finds "next_number"
 naF_groups:NoAttr K t.a_Finds "groups"
 F_ClashInit:Fun K "__init__" "Clash.__init__" s_ClashInit t.f_ClashInit t.d_ClashInit
 b_ClashInit:Binds K t.d_ClashInit ["self","ring"] []
 mx_Clash:MkX K t.a_Clash t.f_ClashInit
 F_isnumber:Fun K "is_number" "is_number" s_isnumber t.f_isnumber t.d_isnumber
 b_isnumber:Binds K t.d_isnumber ["value"] []
 mg_isnumber:mg "is_number"=some (.ref t.f_isnumber)
 F_isbelow:Fun K "is_below" "is_below" s_isbelow t.f_isbelow t.d_isbelow
 b_isbelow:Binds K t.d_isbelow ["value","bound"] []
 mg_isbelow:mg "is_below"=some (.ref t.f_isbelow)
 F_isbit:Fun K "is_bit" "is_bit" s_isbit t.f_isbit t.d_isbit
 b_isbit:Binds K t.d_isbit ["value"] []
 mg_isbit:mg "is_bit"=some (.ref t.f_isbit)
 F_isside:Fun K "is_side" "is_side" s_isside t.f_isside t.d_isside
 b_isside:Binds K t.d_isside ["count"] []
 mg_isside:mg "is_side"=some (.ref t.f_isside)
 F_needcell:Fun K "need_cell" "need_cell" s_needcell t.f_needcell t.d_needcell
 b_needcell:Binds K t.d_needcell ["board","x","y"] []
 mg_needcell:mg "need_cell"=some (.ref t.f_needcell)
 F_cellstrips:Fun K "cell_strips" "cell_strips" s_cellstrips t.f_cellstrips t.d_cellstrips
 b_cellstrips:Binds K t.d_cellstrips ["x","y"] []
 mg_cellstrips:mg "cell_strips"=some (.ref t.f_cellstrips)
 F_linestrips:Fun K "line_strips" "line_strips" s_linestrips t.f_linestrips t.d_linestrips
 b_linestrips:Binds K t.d_linestrips ["way","k"] []
 mg_linestrips:mg "line_strips"=some (.ref t.f_linestrips)
 F_factstrips:Fun K "fact_strips" "fact_strips" s_factstrips t.f_factstrips t.d_factstrips
 b_factstrips:Binds K t.d_factstrips ["fact"] []
 mg_factstrips:mg "fact_strips"=some (.ref t.f_factstrips)
 F_factweight:Fun K "fact_weight" "fact_weight" s_factweight t.f_factweight t.d_factweight
 b_factweight:Binds K t.d_factweight ["fact"] []
 mg_factweight:mg "fact_weight"=some (.ref t.f_factweight)
 F_lonegroups:Fun K "lone_groups" "lone_groups" s_lonegroups t.f_lonegroups t.d_lonegroups
 b_lonegroups:Binds K t.d_lonegroups ["wide","tall"] []
 mg_lonegroups:mg "lone_groups"=some (.ref t.f_lonegroups)
 F_weightbetween:Fun K "weight_between" "weight_between" s_weightbetween t.f_weightbetween t.d_weightbetween
 b_weightbetween:Binds K t.d_weightbetween ["groups","strips"] []
 mg_weightbetween:mg "weight_between"=some (.ref t.f_weightbetween)
 F_tie:Fun K "tie" "tie" s_tie t.f_tie t.d_tie
 b_tie:Binds K t.d_tie ["groups","strips","weight"] []
 mg_tie:mg "tie"=some (.ref t.f_tie)
 F_tiesbystrip:Fun K "ties_by_strip" "ties_by_strip" s_tiesbystrip t.f_tiesbystrip t.d_tiesbystrip
 b_tiesbystrip:Binds K t.d_tiesbystrip ["facts"] []
 mg_tiesbystrip:mg "ties_by_strip"=some (.ref t.f_tiesbystrip)
 F_reasons:Fun K "reasons" "reasons" s_reasons t.f_reasons t.d_reasons
 b_reasons:Binds K t.d_reasons ["facts","strips"] []
 mg_reasons:mg "reasons"=some (.ref t.f_reasons)
 F_groupsof:Fun K "groups_of" "groups_of" s_groupsof t.f_groupsof t.d_groupsof
 b_groupsof:Binds K t.d_groupsof ["wide","tall","facts"] []
 mg_groupsof:mg "groups_of"=some (.ref t.f_groupsof)
 F_FindsInit:Fun K "__init__" "Finds.__init__" s_FindsInit t.f_FindsInit t.d_FindsInit
 b_FindsInit:Binds K t.d_FindsInit ["self","wide","tall"] []
 F_Findswide:Fun K "wide" "Finds.wide" s_Findswide t.f_Findswide t.d_Findswide
 b_Findswide:Binds K t.d_Findswide ["self"] []
 m_Findswide:Meth K t.a_Finds "wide" t.f_Findswide
 F_Findstall:Fun K "tall" "Finds.tall" s_Findstall t.f_Findstall t.d_Findstall
 b_Findstall:Binds K t.d_Findstall ["self"] []
 m_Findstall:Meth K t.a_Finds "tall" t.f_Findstall
 F_Findsneedline:Fun K "need_line" "Finds.need_line" s_Findsneedline t.f_Findsneedline t.d_Findsneedline
 b_Findsneedline:Binds K t.d_Findsneedline ["self","way","k"] []
 m_Findsneedline:Meth K t.a_Finds "need_line" t.f_Findsneedline
 F_Findsneedfact:Fun K "need_fact" "Finds.need_fact" s_Findsneedfact t.f_Findsneedfact t.d_Findsneedfact
 b_Findsneedfact:Binds K t.d_Findsneedfact ["self","fact"] []
 m_Findsneedfact:Meth K t.a_Finds "need_fact" t.f_Findsneedfact
 F_Findsnote:Fun K "note" "Finds.note" s_Findsnote t.f_Findsnote t.d_Findsnote
 b_Findsnote:Binds K t.d_Findsnote ["self","fact"] []
 m_Findsnote:Meth K t.a_Finds "note" t.f_Findsnote
 F_Findswithdraw:Fun K "withdraw" "Finds.withdraw" s_Findswithdraw t.f_Findswithdraw t.d_Findswithdraw
 b_Findswithdraw:Binds K t.d_Findswithdraw ["self","number"] []
 m_Findswithdraw:Meth K t.a_Finds "withdraw" t.f_Findswithdraw
 F_Findskept:Fun K "kept" "Finds.kept" s_Findskept t.f_Findskept t.d_Findskept
 b_Findskept:Binds K t.d_Findskept ["self"] []
 m_Findskept:Meth K t.a_Finds "kept" t.f_Findskept
 F_Lword:Fun K "_law_word" "_law_word" s_Lword t.f_Lword t.d_Lword
 b_Lword:Binds K t.d_Lword ["_law_word_here"] []
 mg_Lword:mg "_law_word"=some (.ref t.f_Lword)
 F_Ltie:Fun K "_law_tie" "_law_tie" s_Ltie t.f_Ltie t.d_Ltie
 b_Ltie:Binds K t.d_Ltie ["_law_fact_here"] []
 mg_Ltie:mg "_law_tie"=some (.ref t.f_Ltie)
 F_Lsums:Fun K "_law_sums" "_law_sums" s_Lsums t.f_Lsums t.d_Lsums
 b_Lsums:Binds K t.d_Lsums ["_law_facts","_law_strip"] []
 mg_Lsums:mg "_law_sums"=some (.ref t.f_Lsums)
 F_Lclashes:Fun K "_law_clashes" "_law_clashes" s_Lclashes t.f_Lclashes t.d_Lclashes
 b_Lclashes:Binds K t.d_Lclashes ["_law_facts","_law_fact_here"] []
 mg_Lclashes:mg "_law_clashes"=some (.ref t.f_Lclashes)
 F_Ldraws:Fun K "_law_draws" "_law_draws" s_Ldraws t.f_Ldraws t.d_Ldraws
 b_Ldraws:Binds K t.d_Ldraws ["_law_script","_law_many"] []
 mg_Ldraws:mg "_law_draws"=some (.ref t.f_Ldraws)
 F_Lbits:Fun K "_law_bits" "_law_bits" s_Lbits t.f_Lbits t.d_Lbits
 b_Lbits:Binds K t.d_Lbits ["_law_number","_law_many"] []
 mg_Lbits:mg "_law_bits"=some (.ref t.f_Lbits)
 F_Lrow:Fun K "_law_row" "_law_row" s_Lrow t.f_Lrow t.d_Lrow
 b_Lrow:Binds K t.d_Lrow ["_law_some","_law_many"] []
 mg_Lrow:mg "_law_row"=some (.ref t.f_Lrow)
 F_Lsmall:Fun K "_law_small" "_law_small" s_Lsmall t.f_Lsmall t.d_Lsmall
 b_Lsmall:Binds K t.d_Lsmall ["_law_some"] []
 mg_Lsmall:mg "_law_small"=some (.ref t.f_Lsmall)
 F_Lsewn:Fun K "_law_sewn" "_law_sewn" s_Lsewn t.f_Lsewn t.d_Lsewn
 b_Lsewn:Binds K t.d_Lsewn ["_law_plan","_law_way","_law_k","_law_step"] []
 mg_Lsewn:mg "_law_sewn"=some (.ref t.f_Lsewn)
 F_Lvalue:Fun K "_law_value" "_law_value" s_Lvalue t.f_Lvalue t.d_Lvalue
 b_Lvalue:Binds K t.d_Lvalue ["_law_plan","_law_x","_law_y"] []
 mg_Lvalue:mg "_law_value"=some (.ref t.f_Lvalue)
 F_Lfact:Fun K "_law_fact" "_law_fact" s_Lfact t.f_Lfact t.d_Lfact
 b_Lfact:Binds K t.d_Lfact ["_law_plan","_law_one","_law_two","_law_three"] []
 mg_Lfact:mg "_law_fact"=some (.ref t.f_Lfact)
 F_Lfalse:Fun K "_law_false" "_law_false" s_Lfalse t.f_Lfalse t.d_Lfalse
 b_Lfalse:Binds K t.d_Lfalse ["_law_fact_here"] []
 mg_Lfalse:mg "_law_false"=some (.ref t.f_Lfalse)
 F_Lnoted:Fun K "_law_noted" "_law_noted" s_Lnoted t.f_Lnoted t.d_Lnoted
 b_Lnoted:Binds K t.d_Lnoted ["_law_finds","_law_fact_here"] []
 mg_Lnoted:mg "_law_noted"=some (.ref t.f_Lnoted)
 F_Lsame:Fun K "_law_same" "_law_same" s_Lsame t.f_Lsame t.d_Lsame
 b_Lsame:Binds K t.d_Lsame ["_law_told","_law_due"] []
 mg_Lsame:mg "_law_same"=some (.ref t.f_Lsame)
 F_Ltaken:Fun K "_law_taken" "_law_taken" s_Ltaken t.f_Ltaken t.d_Ltaken
 b_Ltaken:Binds K t.d_Ltaken ["_law_finds","_law_number"] []
 mg_Ltaken:mg "_law_taken"=some (.ref t.f_Ltaken)
 F_Lwanted:Fun K "_law_wanted" "_law_wanted" s_Lwanted t.f_Lwanted t.d_Lwanted
 b_Lwanted:Binds K t.d_Lwanted ["_law_facts","_law_after","_law_fact_here"] []
 mg_Lwanted:mg "_law_wanted"=some (.ref t.f_Lwanted)
 F_law:Fun K "law" "law" s_law t.f_law t.d_law
 b_law:Binds K t.d_law ["_law_script"] []
 mg_law:mg "law"=some (.ref t.f_law)
 mg_SewError:mg "SewError"=some (.ref t.a_SewError)
 mg_Clash:mg "Clash"=some (.ref t.a_Clash)
 mg_BadSize:mg "BadSize"=some (.ref t.a_BadSize)
 mg_BadBit:mg "BadBit"=some (.ref t.a_BadBit)
 mg_NoCell:mg "NoCell"=some (.ref t.a_NoCell)
 mg_NoLine:mg "NoLine"=some (.ref t.a_NoLine)
 mg_NoStep:mg "NoStep"=some (.ref t.a_NoStep)
 mg_Known:mg "Known"=some (.ref t.a_Known)
 mg_NoFact:mg "NoFact"=some (.ref t.a_NoFact)
 x_BadSize:PySem.W.excIn K t.a_BadSize [.type "ValueError",.type "Exception",.type "BaseException",.type "object"] "ValueError.__new__"=true
 xi_BadSize:ExcIn K t.a_BadSize
 cat_BadSize:PySem.W.exmOne K (.ref t.a_BadSize) (.ref t.a_SewError)=some true
 x_BadBit:PySem.W.excIn K t.a_BadBit [.type "ValueError",.type "Exception",.type "BaseException",.type "object"] "ValueError.__new__"=true
 xi_BadBit:ExcIn K t.a_BadBit
 cat_BadBit:PySem.W.exmOne K (.ref t.a_BadBit) (.ref t.a_SewError)=some true
 x_NoCell:PySem.W.excIn K t.a_NoCell [.type "ValueError",.type "Exception",.type "BaseException",.type "object"] "ValueError.__new__"=true
 xi_NoCell:ExcIn K t.a_NoCell
 cat_NoCell:PySem.W.exmOne K (.ref t.a_NoCell) (.ref t.a_SewError)=some true
 x_NoLine:PySem.W.excIn K t.a_NoLine [.type "ValueError",.type "Exception",.type "BaseException",.type "object"] "ValueError.__new__"=true
 xi_NoLine:ExcIn K t.a_NoLine
 cat_NoLine:PySem.W.exmOne K (.ref t.a_NoLine) (.ref t.a_SewError)=some true
 x_NoStep:PySem.W.excIn K t.a_NoStep [.type "ValueError",.type "Exception",.type "BaseException",.type "object"] "ValueError.__new__"=true
 xi_NoStep:ExcIn K t.a_NoStep
 cat_NoStep:PySem.W.exmOne K (.ref t.a_NoStep) (.ref t.a_SewError)=some true
 x_Known:PySem.W.excIn K t.a_Known [.type "ValueError",.type "Exception",.type "BaseException",.type "object"] "ValueError.__new__"=true
 xi_Known:ExcIn K t.a_Known
 cat_Known:PySem.W.exmOne K (.ref t.a_Known) (.ref t.a_SewError)=some true
 nc_Known:PySem.W.exmOne K (.ref t.a_Known) (.ref t.a_Clash)=some false
 kt_Known_Known:PySem.W.kitOne K (.ref t.a_Known) (.ref t.a_Known)=some true
 kt_Known_NoCell:PySem.W.kitOne K (.ref t.a_Known) (.ref t.a_NoCell)=some false
 kt_Known_BadBit:PySem.W.kitOne K (.ref t.a_Known) (.ref t.a_BadBit)=some false
 kt_Known_NoLine:PySem.W.kitOne K (.ref t.a_Known) (.ref t.a_NoLine)=some false
 kt_Known_NoStep:PySem.W.kitOne K (.ref t.a_Known) (.ref t.a_NoStep)=some false
 kt_Known_NoFact:PySem.W.kitOne K (.ref t.a_Known) (.ref t.a_NoFact)=some false
 kv_Known:PySem.W.kitOne K (.ref t.a_Known) (.type "ValueError")=some true
 x_NoFact:PySem.W.excIn K t.a_NoFact [.type "ValueError",.type "Exception",.type "BaseException",.type "object"] "ValueError.__new__"=true
 xi_NoFact:ExcIn K t.a_NoFact
 cat_NoFact:PySem.W.exmOne K (.ref t.a_NoFact) (.ref t.a_SewError)=some true
 kt_NoFact_Known:PySem.W.kitOne K (.ref t.a_NoFact) (.ref t.a_Known)=some false
 kt_NoFact_NoCell:PySem.W.kitOne K (.ref t.a_NoFact) (.ref t.a_NoCell)=some false
 kt_NoFact_BadBit:PySem.W.kitOne K (.ref t.a_NoFact) (.ref t.a_BadBit)=some false
 kt_NoFact_NoLine:PySem.W.kitOne K (.ref t.a_NoFact) (.ref t.a_NoLine)=some false
 kt_NoFact_NoStep:PySem.W.kitOne K (.ref t.a_NoFact) (.ref t.a_NoStep)=some false
 kt_NoFact_NoFact:PySem.W.kitOne K (.ref t.a_NoFact) (.ref t.a_NoFact)=some true
 kv_NoFact:PySem.W.kitOne K (.ref t.a_NoFact) (.type "ValueError")=some true
 bi_SewError:BaseI K t.a_SewError
 nx_Clash_ring:PySem.W.findIn K (.ref t.a_Clash) "ring"=some none
 xi_Clash:ExcIn K t.a_Clash
 cat_Clash:PySem.W.exmOne K (.ref t.a_Clash) (.ref t.a_SewError)=some true
 ct_Clash:PySem.W.exmOne K (.ref t.a_Clash) (.ref t.a_Clash)=some true
 mg_LONGEST_SIDE:mg "LONGEST_SIDE"=some (.int 40 t.tk_LONGEST_SIDE)
 no_isinstance:mg "isinstance"=none
 no_int:mg "int"=none
 no_bool:mg "bool"=none
 no_all:mg "all"=none
 no_len:mg "len"=none
 no_tuple:mg "tuple"=none
 no_list:mg "list"=none
 no_range:mg "range"=none
 no_abs:mg "abs"=none
 no_sum:mg "sum"=none
 no_min:mg "min"=none
 no_str:mg "str"=none
 no_zip:mg "zip"=none
 no_ValueError:mg "ValueError"=none
theorem txt_mk {K:PySem.W.Frag} {h:Heap} {mg:Str→Option Value} (X:K.In h) (G:h.Ns mainGlobals mg) {C_Finds:Addr} {f_ClashInit:Addr} {d_ClashInit:FuncData} {f_isnumber:Addr} {d_isnumber:FuncData} {f_isbelow:Addr} {d_isbelow:FuncData} {f_isbit:Addr} {d_isbit:FuncData} {f_isside:Addr} {d_isside:FuncData} {f_needcell:Addr} {d_needcell:FuncData} {f_cellstrips:Addr} {d_cellstrips:FuncData} {f_linestrips:Addr} {d_linestrips:FuncData} {f_factstrips:Addr} {d_factstrips:FuncData} {f_factweight:Addr} {d_factweight:FuncData} {f_lonegroups:Addr} {d_lonegroups:FuncData} {f_weightbetween:Addr} {d_weightbetween:FuncData} {f_tie:Addr} {d_tie:FuncData} {f_tiesbystrip:Addr} {d_tiesbystrip:FuncData} {f_reasons:Addr} {d_reasons:FuncData} {f_groupsof:Addr} {d_groupsof:FuncData} {f_FindsInit:Addr} {d_FindsInit:FuncData} {f_Findswide:Addr} {d_Findswide:FuncData} {f_Findstall:Addr} {d_Findstall:FuncData} {f_Findsneedline:Addr} {d_Findsneedline:FuncData} {f_Findsneedfact:Addr} {d_Findsneedfact:FuncData} {f_Findsnote:Addr} {d_Findsnote:FuncData} {f_Findswithdraw:Addr} {d_Findswithdraw:FuncData} {f_Findskept:Addr} {d_Findskept:FuncData} {f_Lword:Addr} {d_Lword:FuncData} {f_Ltie:Addr} {d_Ltie:FuncData} {f_Lsums:Addr} {d_Lsums:FuncData} {f_Lclashes:Addr} {d_Lclashes:FuncData} {f_Ldraws:Addr} {d_Ldraws:FuncData} {f_Lbits:Addr} {d_Lbits:FuncData} {f_Lrow:Addr} {d_Lrow:FuncData} {f_Lsmall:Addr} {d_Lsmall:FuncData} {f_Lsewn:Addr} {d_Lsewn:FuncData} {f_Lvalue:Addr} {d_Lvalue:FuncData} {f_Lfact:Addr} {d_Lfact:FuncData} {f_Lfalse:Addr} {d_Lfalse:FuncData} {f_Lnoted:Addr} {d_Lnoted:FuncData} {f_Lsame:Addr} {d_Lsame:FuncData} {f_Ltaken:Addr} {d_Ltaken:FuncData} {f_Lwanted:Addr} {d_Lwanted:FuncData} {f_law:Addr} {d_law:FuncData} {C_SewError:Addr} {C_Clash:Addr} {C_BadSize:Addr} {C_BadBit:Addr} {C_NoCell:Addr} {C_NoLine:Addr} {C_NoStep:Addr} {C_Known:Addr} {C_NoFact:Addr} {tk_LONGEST_SIDE:Tok}
  (aC_Finds:PySem.W.nsIn K mainGlobals "Finds"=some (some (.ref C_Finds)))
  (pg_Finds:PySem.W.plainGet K C_Finds Str.empty=true)
  (hd_Finds:PySem.W.hasDictIn K C_Finds=true)
  (po_Finds:PySem.W.plainOver K C_Finds=true)
  (sa_Finds:PySem.W.findIn K (.ref C_Finds) "__setattr__"=some (some (.builtin "object.__setattr__")))
  (mk_Finds:PySem.W.makesIn K C_Finds=true)
  (kc_Finds:PySem.W.keepIn K (.ref C_Finds)=true)
  (naF_columns_count:PySem.W.findIn K (.ref C_Finds) "columns_count"=some none)
  (naF_rows_count:PySem.W.findIn K (.ref C_Finds) "rows_count"=some none)
  (naF_facts:PySem.W.findIn K (.ref C_Finds) "facts"=some none)
  (naF_next_number:PySem.W.findIn K (.ref C_Finds) "next_number"=some none)
  (naF_groups:PySem.W.findIn K (.ref C_Finds) "groups"=some none)
  (F_ClashInit:Fun K "__init__" "Clash.__init__" s_ClashInit f_ClashInit d_ClashInit)
  (oi_Clash:PySem.W.findIn K (.ref C_Clash) "__init__"=some (some (.ref f_ClashInit)))
  (of_Clash:PySem.W.typeIn K (.ref f_ClashInit)=some (.type "function"))
  (ok_Clash:PySem.W.keepIn K (.ref C_Clash)=true)
  (os_Clash:PySem.W.findIn K (.ref C_Clash) "__setattr__"=some (some (.builtin "object.__setattr__")))
  (om_Clash:PySem.W.mroIn K C_Clash (.type "object")=some true)
  (ox_Clash:exiK K C_Clash [.type "ValueError",.type "Exception",.type "BaseException",.type "object"] "ValueError.__new__"=true)
  (a_isnumber:PySem.W.nsIn K mainGlobals "is_number"=some (some (.ref f_isnumber)))
  (F_isnumber:Fun K "is_number" "is_number" s_isnumber f_isnumber d_isnumber)
  (a_isbelow:PySem.W.nsIn K mainGlobals "is_below"=some (some (.ref f_isbelow)))
  (F_isbelow:Fun K "is_below" "is_below" s_isbelow f_isbelow d_isbelow)
  (a_isbit:PySem.W.nsIn K mainGlobals "is_bit"=some (some (.ref f_isbit)))
  (F_isbit:Fun K "is_bit" "is_bit" s_isbit f_isbit d_isbit)
  (a_isside:PySem.W.nsIn K mainGlobals "is_side"=some (some (.ref f_isside)))
  (F_isside:Fun K "is_side" "is_side" s_isside f_isside d_isside)
  (a_needcell:PySem.W.nsIn K mainGlobals "need_cell"=some (some (.ref f_needcell)))
  (F_needcell:Fun K "need_cell" "need_cell" s_needcell f_needcell d_needcell)
  (a_cellstrips:PySem.W.nsIn K mainGlobals "cell_strips"=some (some (.ref f_cellstrips)))
  (F_cellstrips:Fun K "cell_strips" "cell_strips" s_cellstrips f_cellstrips d_cellstrips)
  (a_linestrips:PySem.W.nsIn K mainGlobals "line_strips"=some (some (.ref f_linestrips)))
  (F_linestrips:Fun K "line_strips" "line_strips" s_linestrips f_linestrips d_linestrips)
  (a_factstrips:PySem.W.nsIn K mainGlobals "fact_strips"=some (some (.ref f_factstrips)))
  (F_factstrips:Fun K "fact_strips" "fact_strips" s_factstrips f_factstrips d_factstrips)
  (a_factweight:PySem.W.nsIn K mainGlobals "fact_weight"=some (some (.ref f_factweight)))
  (F_factweight:Fun K "fact_weight" "fact_weight" s_factweight f_factweight d_factweight)
  (a_lonegroups:PySem.W.nsIn K mainGlobals "lone_groups"=some (some (.ref f_lonegroups)))
  (F_lonegroups:Fun K "lone_groups" "lone_groups" s_lonegroups f_lonegroups d_lonegroups)
  (a_weightbetween:PySem.W.nsIn K mainGlobals "weight_between"=some (some (.ref f_weightbetween)))
  (F_weightbetween:Fun K "weight_between" "weight_between" s_weightbetween f_weightbetween d_weightbetween)
  (a_tie:PySem.W.nsIn K mainGlobals "tie"=some (some (.ref f_tie)))
  (F_tie:Fun K "tie" "tie" s_tie f_tie d_tie)
  (a_tiesbystrip:PySem.W.nsIn K mainGlobals "ties_by_strip"=some (some (.ref f_tiesbystrip)))
  (F_tiesbystrip:Fun K "ties_by_strip" "ties_by_strip" s_tiesbystrip f_tiesbystrip d_tiesbystrip)
  (a_reasons:PySem.W.nsIn K mainGlobals "reasons"=some (some (.ref f_reasons)))
  (F_reasons:Fun K "reasons" "reasons" s_reasons f_reasons d_reasons)
  (a_groupsof:PySem.W.nsIn K mainGlobals "groups_of"=some (some (.ref f_groupsof)))
  (F_groupsof:Fun K "groups_of" "groups_of" s_groupsof f_groupsof d_groupsof)
  (a_FindsInit:PySem.W.findIn K (.ref C_Finds) "__init__"=some (some (.ref f_FindsInit)))
  (i_FindsInit:PySem.W.isFn K (.ref f_FindsInit)=true)
  (F_FindsInit:Fun K "__init__" "Finds.__init__" s_FindsInit f_FindsInit d_FindsInit)
  (a_Findswide:PySem.W.findIn K (.ref C_Finds) "wide"=some (some (.ref f_Findswide)))
  (i_Findswide:PySem.W.isFn K (.ref f_Findswide)=true)
  (F_Findswide:Fun K "wide" "Finds.wide" s_Findswide f_Findswide d_Findswide)
  (a_Findstall:PySem.W.findIn K (.ref C_Finds) "tall"=some (some (.ref f_Findstall)))
  (i_Findstall:PySem.W.isFn K (.ref f_Findstall)=true)
  (F_Findstall:Fun K "tall" "Finds.tall" s_Findstall f_Findstall d_Findstall)
  (a_Findsneedline:PySem.W.findIn K (.ref C_Finds) "need_line"=some (some (.ref f_Findsneedline)))
  (i_Findsneedline:PySem.W.isFn K (.ref f_Findsneedline)=true)
  (F_Findsneedline:Fun K "need_line" "Finds.need_line" s_Findsneedline f_Findsneedline d_Findsneedline)
  (a_Findsneedfact:PySem.W.findIn K (.ref C_Finds) "need_fact"=some (some (.ref f_Findsneedfact)))
  (i_Findsneedfact:PySem.W.isFn K (.ref f_Findsneedfact)=true)
  (F_Findsneedfact:Fun K "need_fact" "Finds.need_fact" s_Findsneedfact f_Findsneedfact d_Findsneedfact)
  (a_Findsnote:PySem.W.findIn K (.ref C_Finds) "note"=some (some (.ref f_Findsnote)))
  (i_Findsnote:PySem.W.isFn K (.ref f_Findsnote)=true)
  (F_Findsnote:Fun K "note" "Finds.note" s_Findsnote f_Findsnote d_Findsnote)
  (a_Findswithdraw:PySem.W.findIn K (.ref C_Finds) "withdraw"=some (some (.ref f_Findswithdraw)))
  (i_Findswithdraw:PySem.W.isFn K (.ref f_Findswithdraw)=true)
  (F_Findswithdraw:Fun K "withdraw" "Finds.withdraw" s_Findswithdraw f_Findswithdraw d_Findswithdraw)
  (a_Findskept:PySem.W.findIn K (.ref C_Finds) "kept"=some (some (.ref f_Findskept)))
  (i_Findskept:PySem.W.isFn K (.ref f_Findskept)=true)
  (F_Findskept:Fun K "kept" "Finds.kept" s_Findskept f_Findskept d_Findskept)
  (a_Lword:PySem.W.nsIn K mainGlobals "_law_word"=some (some (.ref f_Lword)))
  (F_Lword:Fun K "_law_word" "_law_word" s_Lword f_Lword d_Lword)
  (a_Ltie:PySem.W.nsIn K mainGlobals "_law_tie"=some (some (.ref f_Ltie)))
  (F_Ltie:Fun K "_law_tie" "_law_tie" s_Ltie f_Ltie d_Ltie)
  (a_Lsums:PySem.W.nsIn K mainGlobals "_law_sums"=some (some (.ref f_Lsums)))
  (F_Lsums:Fun K "_law_sums" "_law_sums" s_Lsums f_Lsums d_Lsums)
  (a_Lclashes:PySem.W.nsIn K mainGlobals "_law_clashes"=some (some (.ref f_Lclashes)))
  (F_Lclashes:Fun K "_law_clashes" "_law_clashes" s_Lclashes f_Lclashes d_Lclashes)
  (a_Ldraws:PySem.W.nsIn K mainGlobals "_law_draws"=some (some (.ref f_Ldraws)))
  (F_Ldraws:Fun K "_law_draws" "_law_draws" s_Ldraws f_Ldraws d_Ldraws)
  (a_Lbits:PySem.W.nsIn K mainGlobals "_law_bits"=some (some (.ref f_Lbits)))
  (F_Lbits:Fun K "_law_bits" "_law_bits" s_Lbits f_Lbits d_Lbits)
  (a_Lrow:PySem.W.nsIn K mainGlobals "_law_row"=some (some (.ref f_Lrow)))
  (F_Lrow:Fun K "_law_row" "_law_row" s_Lrow f_Lrow d_Lrow)
  (a_Lsmall:PySem.W.nsIn K mainGlobals "_law_small"=some (some (.ref f_Lsmall)))
  (F_Lsmall:Fun K "_law_small" "_law_small" s_Lsmall f_Lsmall d_Lsmall)
  (a_Lsewn:PySem.W.nsIn K mainGlobals "_law_sewn"=some (some (.ref f_Lsewn)))
  (F_Lsewn:Fun K "_law_sewn" "_law_sewn" s_Lsewn f_Lsewn d_Lsewn)
  (a_Lvalue:PySem.W.nsIn K mainGlobals "_law_value"=some (some (.ref f_Lvalue)))
  (F_Lvalue:Fun K "_law_value" "_law_value" s_Lvalue f_Lvalue d_Lvalue)
  (a_Lfact:PySem.W.nsIn K mainGlobals "_law_fact"=some (some (.ref f_Lfact)))
  (F_Lfact:Fun K "_law_fact" "_law_fact" s_Lfact f_Lfact d_Lfact)
  (a_Lfalse:PySem.W.nsIn K mainGlobals "_law_false"=some (some (.ref f_Lfalse)))
  (F_Lfalse:Fun K "_law_false" "_law_false" s_Lfalse f_Lfalse d_Lfalse)
  (a_Lnoted:PySem.W.nsIn K mainGlobals "_law_noted"=some (some (.ref f_Lnoted)))
  (F_Lnoted:Fun K "_law_noted" "_law_noted" s_Lnoted f_Lnoted d_Lnoted)
  (a_Lsame:PySem.W.nsIn K mainGlobals "_law_same"=some (some (.ref f_Lsame)))
  (F_Lsame:Fun K "_law_same" "_law_same" s_Lsame f_Lsame d_Lsame)
  (a_Ltaken:PySem.W.nsIn K mainGlobals "_law_taken"=some (some (.ref f_Ltaken)))
  (F_Ltaken:Fun K "_law_taken" "_law_taken" s_Ltaken f_Ltaken d_Ltaken)
  (a_Lwanted:PySem.W.nsIn K mainGlobals "_law_wanted"=some (some (.ref f_Lwanted)))
  (F_Lwanted:Fun K "_law_wanted" "_law_wanted" s_Lwanted f_Lwanted d_Lwanted)
  (a_law:PySem.W.nsIn K mainGlobals "law"=some (some (.ref f_law)))
  (F_law:Fun K "law" "law" s_law f_law d_law)
  (aX_SewError:PySem.W.nsIn K mainGlobals "SewError"=some (some (.ref C_SewError)))
  (aX_Clash:PySem.W.nsIn K mainGlobals "Clash"=some (some (.ref C_Clash)))
  (aX_BadSize:PySem.W.nsIn K mainGlobals "BadSize"=some (some (.ref C_BadSize)))
  (aX_BadBit:PySem.W.nsIn K mainGlobals "BadBit"=some (some (.ref C_BadBit)))
  (aX_NoCell:PySem.W.nsIn K mainGlobals "NoCell"=some (some (.ref C_NoCell)))
  (aX_NoLine:PySem.W.nsIn K mainGlobals "NoLine"=some (some (.ref C_NoLine)))
  (aX_NoStep:PySem.W.nsIn K mainGlobals "NoStep"=some (some (.ref C_NoStep)))
  (aX_Known:PySem.W.nsIn K mainGlobals "Known"=some (some (.ref C_Known)))
  (aX_NoFact:PySem.W.nsIn K mainGlobals "NoFact"=some (some (.ref C_NoFact)))
  (bb:PySem.W.subIn K (.ref C_SewError) (.type "BaseException")=some true)
  (bm:PySem.W.mroIn K C_SewError (.type "object")=some true)
  (bt:PySem.W.typeIn K (.ref C_SewError)=some (.type "type"))
  (nb:PySem.W.subIn K (.ref C_Clash) (.type "BaseException")=some true)
  (nm:PySem.W.mroIn K C_Clash (.type "object")=some true)
  (nt:PySem.W.typeIn K (.ref C_Clash)=some (.type "type"))
  (ogs:PySem.W.specialIn K (.builtin "object.__class__") "__get__"=some (some (.builtin "getset_descriptor.__get__")))
  (otk:PySem.W.takesIn K (.builtin "object.__class__")=some true)
  (x_BadSize:PySem.W.excIn K C_BadSize [.type "ValueError",.type "Exception",.type "BaseException",.type "object"] "ValueError.__new__"=true)
  (ga_BadSize:PySem.W.findIn K (.ref C_BadSize) "__getattribute__"=some (some (.builtin "BaseException.__getattribute__")))
  (gt_BadSize:PySem.W.findIn K (.ref C_BadSize) "__getattr__"=some none)
  (gc_BadSize:PySem.W.findIn K (.ref C_BadSize) "__class__"=some (some (.builtin "object.__class__")))
  (go_BadSize:PySem.W.mroIn K C_BadSize (.type "object")=some true)
  (gb_BadSize:PySem.W.mroIn K C_BadSize (.type "BaseException")=some true)
  (sb_BadSize:PySem.W.subIn K (.ref C_BadSize) (.ref C_SewError)=some true)
  (x_BadBit:PySem.W.excIn K C_BadBit [.type "ValueError",.type "Exception",.type "BaseException",.type "object"] "ValueError.__new__"=true)
  (ga_BadBit:PySem.W.findIn K (.ref C_BadBit) "__getattribute__"=some (some (.builtin "BaseException.__getattribute__")))
  (gt_BadBit:PySem.W.findIn K (.ref C_BadBit) "__getattr__"=some none)
  (gc_BadBit:PySem.W.findIn K (.ref C_BadBit) "__class__"=some (some (.builtin "object.__class__")))
  (go_BadBit:PySem.W.mroIn K C_BadBit (.type "object")=some true)
  (gb_BadBit:PySem.W.mroIn K C_BadBit (.type "BaseException")=some true)
  (sb_BadBit:PySem.W.subIn K (.ref C_BadBit) (.ref C_SewError)=some true)
  (x_NoCell:PySem.W.excIn K C_NoCell [.type "ValueError",.type "Exception",.type "BaseException",.type "object"] "ValueError.__new__"=true)
  (ga_NoCell:PySem.W.findIn K (.ref C_NoCell) "__getattribute__"=some (some (.builtin "BaseException.__getattribute__")))
  (gt_NoCell:PySem.W.findIn K (.ref C_NoCell) "__getattr__"=some none)
  (gc_NoCell:PySem.W.findIn K (.ref C_NoCell) "__class__"=some (some (.builtin "object.__class__")))
  (go_NoCell:PySem.W.mroIn K C_NoCell (.type "object")=some true)
  (gb_NoCell:PySem.W.mroIn K C_NoCell (.type "BaseException")=some true)
  (sb_NoCell:PySem.W.subIn K (.ref C_NoCell) (.ref C_SewError)=some true)
  (x_NoLine:PySem.W.excIn K C_NoLine [.type "ValueError",.type "Exception",.type "BaseException",.type "object"] "ValueError.__new__"=true)
  (ga_NoLine:PySem.W.findIn K (.ref C_NoLine) "__getattribute__"=some (some (.builtin "BaseException.__getattribute__")))
  (gt_NoLine:PySem.W.findIn K (.ref C_NoLine) "__getattr__"=some none)
  (gc_NoLine:PySem.W.findIn K (.ref C_NoLine) "__class__"=some (some (.builtin "object.__class__")))
  (go_NoLine:PySem.W.mroIn K C_NoLine (.type "object")=some true)
  (gb_NoLine:PySem.W.mroIn K C_NoLine (.type "BaseException")=some true)
  (sb_NoLine:PySem.W.subIn K (.ref C_NoLine) (.ref C_SewError)=some true)
  (x_NoStep:PySem.W.excIn K C_NoStep [.type "ValueError",.type "Exception",.type "BaseException",.type "object"] "ValueError.__new__"=true)
  (ga_NoStep:PySem.W.findIn K (.ref C_NoStep) "__getattribute__"=some (some (.builtin "BaseException.__getattribute__")))
  (gt_NoStep:PySem.W.findIn K (.ref C_NoStep) "__getattr__"=some none)
  (gc_NoStep:PySem.W.findIn K (.ref C_NoStep) "__class__"=some (some (.builtin "object.__class__")))
  (go_NoStep:PySem.W.mroIn K C_NoStep (.type "object")=some true)
  (gb_NoStep:PySem.W.mroIn K C_NoStep (.type "BaseException")=some true)
  (sb_NoStep:PySem.W.subIn K (.ref C_NoStep) (.ref C_SewError)=some true)
  (x_Known:PySem.W.excIn K C_Known [.type "ValueError",.type "Exception",.type "BaseException",.type "object"] "ValueError.__new__"=true)
  (ga_Known:PySem.W.findIn K (.ref C_Known) "__getattribute__"=some (some (.builtin "BaseException.__getattribute__")))
  (gt_Known:PySem.W.findIn K (.ref C_Known) "__getattr__"=some none)
  (gc_Known:PySem.W.findIn K (.ref C_Known) "__class__"=some (some (.builtin "object.__class__")))
  (go_Known:PySem.W.mroIn K C_Known (.type "object")=some true)
  (gb_Known:PySem.W.mroIn K C_Known (.type "BaseException")=some true)
  (sb_Known:PySem.W.subIn K (.ref C_Known) (.ref C_SewError)=some true)
  (sn_Known:PySem.W.subIn K (.ref C_Known) (.ref C_Clash)=some false)
  (kt_Known_Known:PySem.W.kitOne K (.ref C_Known) (.ref C_Known)=some true)
  (kt_Known_NoCell:PySem.W.kitOne K (.ref C_Known) (.ref C_NoCell)=some false)
  (kt_Known_BadBit:PySem.W.kitOne K (.ref C_Known) (.ref C_BadBit)=some false)
  (kt_Known_NoLine:PySem.W.kitOne K (.ref C_Known) (.ref C_NoLine)=some false)
  (kt_Known_NoStep:PySem.W.kitOne K (.ref C_Known) (.ref C_NoStep)=some false)
  (kt_Known_NoFact:PySem.W.kitOne K (.ref C_Known) (.ref C_NoFact)=some false)
  (kv_Known:PySem.W.kitOne K (.ref C_Known) (.type "ValueError")=some true)
  (x_NoFact:PySem.W.excIn K C_NoFact [.type "ValueError",.type "Exception",.type "BaseException",.type "object"] "ValueError.__new__"=true)
  (ga_NoFact:PySem.W.findIn K (.ref C_NoFact) "__getattribute__"=some (some (.builtin "BaseException.__getattribute__")))
  (gt_NoFact:PySem.W.findIn K (.ref C_NoFact) "__getattr__"=some none)
  (gc_NoFact:PySem.W.findIn K (.ref C_NoFact) "__class__"=some (some (.builtin "object.__class__")))
  (go_NoFact:PySem.W.mroIn K C_NoFact (.type "object")=some true)
  (gb_NoFact:PySem.W.mroIn K C_NoFact (.type "BaseException")=some true)
  (sb_NoFact:PySem.W.subIn K (.ref C_NoFact) (.ref C_SewError)=some true)
  (kt_NoFact_Known:PySem.W.kitOne K (.ref C_NoFact) (.ref C_Known)=some false)
  (kt_NoFact_NoCell:PySem.W.kitOne K (.ref C_NoFact) (.ref C_NoCell)=some false)
  (kt_NoFact_BadBit:PySem.W.kitOne K (.ref C_NoFact) (.ref C_BadBit)=some false)
  (kt_NoFact_NoLine:PySem.W.kitOne K (.ref C_NoFact) (.ref C_NoLine)=some false)
  (kt_NoFact_NoStep:PySem.W.kitOne K (.ref C_NoFact) (.ref C_NoStep)=some false)
  (kt_NoFact_NoFact:PySem.W.kitOne K (.ref C_NoFact) (.ref C_NoFact)=some true)
  (kv_NoFact:PySem.W.kitOne K (.ref C_NoFact) (.type "ValueError")=some true)
  (bg:PySem.W.specialIn K (.ref C_SewError) "__getattribute__"=some (some (.builtin "type.__getattribute__")))
  (br:PySem.W.readsIn K C_SewError (.type "type")=true)
  (ba:PySem.W.findCls K (.ref C_SewError) (.type "type") "__init__"=some (.val (.builtin "ValueError.__init__")))
  (nx_Clash_ring:PySem.W.findIn K (.ref C_Clash) "ring"=some none)
  (ga_Clash:PySem.W.findIn K (.ref C_Clash) "__getattribute__"=some (some (.builtin "BaseException.__getattribute__")))
  (gt_Clash:PySem.W.findIn K (.ref C_Clash) "__getattr__"=some none)
  (gc_Clash:PySem.W.findIn K (.ref C_Clash) "__class__"=some (some (.builtin "object.__class__")))
  (go_Clash:PySem.W.mroIn K C_Clash (.type "object")=some true)
  (gb_Clash:PySem.W.mroIn K C_Clash (.type "BaseException")=some true)
  (sb_Clash:PySem.W.subIn K (.ref C_Clash) (.ref C_SewError)=some true)
  (sc_Clash:PySem.W.subIn K (.ref C_Clash) (.ref C_Clash)=some true)
  (v_LONGEST_SIDE:PySem.W.nsIn K mainGlobals "LONGEST_SIDE"=some (some (.int 40 tk_LONGEST_SIDE)))
  (z_isinstance:PySem.W.nsIn K mainGlobals "isinstance"=some none)
  (z_int:PySem.W.nsIn K mainGlobals "int"=some none)
  (z_bool:PySem.W.nsIn K mainGlobals "bool"=some none)
  (z_all:PySem.W.nsIn K mainGlobals "all"=some none)
  (z_len:PySem.W.nsIn K mainGlobals "len"=some none)
  (z_tuple:PySem.W.nsIn K mainGlobals "tuple"=some none)
  (z_list:PySem.W.nsIn K mainGlobals "list"=some none)
  (z_range:PySem.W.nsIn K mainGlobals "range"=some none)
  (z_abs:PySem.W.nsIn K mainGlobals "abs"=some none)
  (z_sum:PySem.W.nsIn K mainGlobals "sum"=some none)
  (z_min:PySem.W.nsIn K mainGlobals "min"=some none)
  (z_str:PySem.W.nsIn K mainGlobals "str"=some none)
  (z_zip:PySem.W.nsIn K mainGlobals "zip"=some none)
  (z_ValueError:PySem.W.nsIn K mainGlobals "ValueError"=some none):∃ t:Ad,Txt K mg t :=
 ⟨{ a_Finds:=C_Finds,f_ClashInit:=f_ClashInit,d_ClashInit:=d_ClashInit,f_isnumber:=f_isnumber,d_isnumber:=d_isnumber,f_isbelow:=f_isbelow,d_isbelow:=d_isbelow,f_isbit:=f_isbit,d_isbit:=d_isbit,f_isside:=f_isside,d_isside:=d_isside,f_needcell:=f_needcell,d_needcell:=d_needcell,f_cellstrips:=f_cellstrips,d_cellstrips:=d_cellstrips,f_linestrips:=f_linestrips,d_linestrips:=d_linestrips,f_factstrips:=f_factstrips,d_factstrips:=d_factstrips,f_factweight:=f_factweight,d_factweight:=d_factweight,f_lonegroups:=f_lonegroups,d_lonegroups:=d_lonegroups,f_weightbetween:=f_weightbetween,d_weightbetween:=d_weightbetween,f_tie:=f_tie,d_tie:=d_tie,f_tiesbystrip:=f_tiesbystrip,d_tiesbystrip:=d_tiesbystrip,f_reasons:=f_reasons,d_reasons:=d_reasons,f_groupsof:=f_groupsof,d_groupsof:=d_groupsof,f_FindsInit:=f_FindsInit,d_FindsInit:=d_FindsInit,f_Findswide:=f_Findswide,d_Findswide:=d_Findswide,f_Findstall:=f_Findstall,d_Findstall:=d_Findstall,f_Findsneedline:=f_Findsneedline,d_Findsneedline:=d_Findsneedline,f_Findsneedfact:=f_Findsneedfact,d_Findsneedfact:=d_Findsneedfact,f_Findsnote:=f_Findsnote,d_Findsnote:=d_Findsnote,f_Findswithdraw:=f_Findswithdraw,d_Findswithdraw:=d_Findswithdraw,f_Findskept:=f_Findskept,d_Findskept:=d_Findskept,f_Lword:=f_Lword,d_Lword:=d_Lword,f_Ltie:=f_Ltie,d_Ltie:=d_Ltie,f_Lsums:=f_Lsums,d_Lsums:=d_Lsums,f_Lclashes:=f_Lclashes,d_Lclashes:=d_Lclashes,f_Ldraws:=f_Ldraws,d_Ldraws:=d_Ldraws,f_Lbits:=f_Lbits,d_Lbits:=d_Lbits,f_Lrow:=f_Lrow,d_Lrow:=d_Lrow,f_Lsmall:=f_Lsmall,d_Lsmall:=d_Lsmall,f_Lsewn:=f_Lsewn,d_Lsewn:=d_Lsewn,f_Lvalue:=f_Lvalue,d_Lvalue:=d_Lvalue,f_Lfact:=f_Lfact,d_Lfact:=d_Lfact,f_Lfalse:=f_Lfalse,d_Lfalse:=d_Lfalse,f_Lnoted:=f_Lnoted,d_Lnoted:=d_Lnoted,f_Lsame:=f_Lsame,d_Lsame:=d_Lsame,f_Ltaken:=f_Ltaken,d_Ltaken:=d_Ltaken,f_Lwanted:=f_Lwanted,d_Lwanted:=d_Lwanted,f_law:=f_law,d_law:=d_law,a_SewError:=C_SewError,a_Clash:=C_Clash,a_BadSize:=C_BadSize,a_BadBit:=C_BadBit,a_NoCell:=C_NoCell,a_NoLine:=C_NoLine,a_NoStep:=C_NoStep,a_Known:=C_Known,a_NoFact:=C_NoFact,tk_LONGEST_SIDE:=tk_LONGEST_SIDE },⟨PySem.W.mg_of X G aC_Finds,⟨pg_Finds,hd_Finds,po_Finds,sa_Finds⟩,⟨mk_Finds,a_FindsInit,i_FindsInit,kc_Finds⟩,naF_columns_count,naF_rows_count,naF_facts,naF_next_number,naF_groups,F_ClashInit,F_ClashInit.b2 fun _ _ _ _ _ _ _ _=>rfl,⟨⟨ox_Clash,os_Clash,om_Clash⟩,oi_Clash,of_Clash,ok_Clash⟩,F_isnumber,F_isnumber.b1 fun _ _ _ _ _ _ _=>rfl,PySem.W.mg_of X G a_isnumber,F_isbelow,F_isbelow.b2 fun _ _ _ _ _ _ _ _=>rfl,PySem.W.mg_of X G a_isbelow,F_isbit,F_isbit.b1 fun _ _ _ _ _ _ _=>rfl,PySem.W.mg_of X G a_isbit,F_isside,F_isside.b1 fun _ _ _ _ _ _ _=>rfl,PySem.W.mg_of X G a_isside,F_needcell,F_needcell.b3 fun _ _ _ _ _ _ _ _ _=>rfl,PySem.W.mg_of X G a_needcell,F_cellstrips,F_cellstrips.b2 fun _ _ _ _ _ _ _ _=>rfl,PySem.W.mg_of X G a_cellstrips,F_linestrips,F_linestrips.b2 fun _ _ _ _ _ _ _ _=>rfl,PySem.W.mg_of X G a_linestrips,F_factstrips,F_factstrips.b1 fun _ _ _ _ _ _ _=>rfl,PySem.W.mg_of X G a_factstrips,F_factweight,F_factweight.b1 fun _ _ _ _ _ _ _=>rfl,PySem.W.mg_of X G a_factweight,F_lonegroups,F_lonegroups.b2 fun _ _ _ _ _ _ _ _=>rfl,PySem.W.mg_of X G a_lonegroups,F_weightbetween,F_weightbetween.b2 fun _ _ _ _ _ _ _ _=>rfl,PySem.W.mg_of X G a_weightbetween,F_tie,F_tie.b3 fun _ _ _ _ _ _ _ _ _=>rfl,PySem.W.mg_of X G a_tie,F_tiesbystrip,F_tiesbystrip.b1 fun _ _ _ _ _ _ _=>rfl,PySem.W.mg_of X G a_tiesbystrip,F_reasons,F_reasons.b2 fun _ _ _ _ _ _ _ _=>rfl,PySem.W.mg_of X G a_reasons,F_groupsof,F_groupsof.b3 fun _ _ _ _ _ _ _ _ _=>rfl,PySem.W.mg_of X G a_groupsof,F_FindsInit,F_FindsInit.b3 fun _ _ _ _ _ _ _ _ _=>rfl,F_Findswide,F_Findswide.b1 fun _ _ _ _ _ _ _=>rfl,⟨a_Findswide,i_Findswide,F_Findswide.kp⟩,F_Findstall,F_Findstall.b1 fun _ _ _ _ _ _ _=>rfl,⟨a_Findstall,i_Findstall,F_Findstall.kp⟩,F_Findsneedline,F_Findsneedline.b3 fun _ _ _ _ _ _ _ _ _=>rfl,⟨a_Findsneedline,i_Findsneedline,F_Findsneedline.kp⟩,F_Findsneedfact,F_Findsneedfact.b2 fun _ _ _ _ _ _ _ _=>rfl,⟨a_Findsneedfact,i_Findsneedfact,F_Findsneedfact.kp⟩,F_Findsnote,F_Findsnote.b2 fun _ _ _ _ _ _ _ _=>rfl,⟨a_Findsnote,i_Findsnote,F_Findsnote.kp⟩,F_Findswithdraw,F_Findswithdraw.b2 fun _ _ _ _ _ _ _ _=>rfl,⟨a_Findswithdraw,i_Findswithdraw,F_Findswithdraw.kp⟩,F_Findskept,F_Findskept.b1 fun _ _ _ _ _ _ _=>rfl,⟨a_Findskept,i_Findskept,F_Findskept.kp⟩,F_Lword,F_Lword.b1 fun _ _ _ _ _ _ _=>rfl,PySem.W.mg_of X G a_Lword,F_Ltie,F_Ltie.b1 fun _ _ _ _ _ _ _=>rfl,PySem.W.mg_of X G a_Ltie,F_Lsums,F_Lsums.b2 fun _ _ _ _ _ _ _ _=>rfl,PySem.W.mg_of X G a_Lsums,F_Lclashes,F_Lclashes.b2 fun _ _ _ _ _ _ _ _=>rfl,PySem.W.mg_of X G a_Lclashes,F_Ldraws,F_Ldraws.b2 fun _ _ _ _ _ _ _ _=>rfl,PySem.W.mg_of X G a_Ldraws,F_Lbits,F_Lbits.b2 fun _ _ _ _ _ _ _ _=>rfl,PySem.W.mg_of X G a_Lbits,F_Lrow,F_Lrow.b2 fun _ _ _ _ _ _ _ _=>rfl,PySem.W.mg_of X G a_Lrow,F_Lsmall,F_Lsmall.b1 fun _ _ _ _ _ _ _=>rfl,PySem.W.mg_of X G a_Lsmall,F_Lsewn,F_Lsewn.b4 fun _ _ _ _ _ _ _ _ _ _=>rfl,PySem.W.mg_of X G a_Lsewn,F_Lvalue,F_Lvalue.b3 fun _ _ _ _ _ _ _ _ _=>rfl,PySem.W.mg_of X G a_Lvalue,F_Lfact,F_Lfact.b4 fun _ _ _ _ _ _ _ _ _ _=>rfl,PySem.W.mg_of X G a_Lfact,F_Lfalse,F_Lfalse.b1 fun _ _ _ _ _ _ _=>rfl,PySem.W.mg_of X G a_Lfalse,F_Lnoted,F_Lnoted.b2 fun _ _ _ _ _ _ _ _=>rfl,PySem.W.mg_of X G a_Lnoted,F_Lsame,F_Lsame.b2 fun _ _ _ _ _ _ _ _=>rfl,PySem.W.mg_of X G a_Lsame,F_Ltaken,F_Ltaken.b2 fun _ _ _ _ _ _ _ _=>rfl,PySem.W.mg_of X G a_Ltaken,F_Lwanted,F_Lwanted.b3 fun _ _ _ _ _ _ _ _ _=>rfl,PySem.W.mg_of X G a_Lwanted,F_law,F_law.b1 fun _ _ _ _ _ _ _=>rfl,PySem.W.mg_of X G a_law,PySem.W.mg_of X G aX_SewError,PySem.W.mg_of X G aX_Clash,PySem.W.mg_of X G aX_BadSize,PySem.W.mg_of X G aX_BadBit,PySem.W.mg_of X G aX_NoCell,PySem.W.mg_of X G aX_NoLine,PySem.W.mg_of X G aX_NoStep,PySem.W.mg_of X G aX_Known,PySem.W.mg_of X G aX_NoFact,x_BadSize,⟨ga_BadSize,gt_BadSize,gc_BadSize,ogs,otk,go_BadSize,gb_BadSize⟩,exm_of bb bm bt sb_BadSize,x_BadBit,⟨ga_BadBit,gt_BadBit,gc_BadBit,ogs,otk,go_BadBit,gb_BadBit⟩,exm_of bb bm bt sb_BadBit,x_NoCell,⟨ga_NoCell,gt_NoCell,gc_NoCell,ogs,otk,go_NoCell,gb_NoCell⟩,exm_of bb bm bt sb_NoCell,x_NoLine,⟨ga_NoLine,gt_NoLine,gc_NoLine,ogs,otk,go_NoLine,gb_NoLine⟩,exm_of bb bm bt sb_NoLine,x_NoStep,⟨ga_NoStep,gt_NoStep,gc_NoStep,ogs,otk,go_NoStep,gb_NoStep⟩,exm_of bb bm bt sb_NoStep,x_Known,⟨ga_Known,gt_Known,gc_Known,ogs,otk,go_Known,gb_Known⟩,exm_of bb bm bt sb_Known,exm_no nb nm nt sn_Known,kt_Known_Known,kt_Known_NoCell,kt_Known_BadBit,kt_Known_NoLine,kt_Known_NoStep,kt_Known_NoFact,kv_Known,x_NoFact,⟨ga_NoFact,gt_NoFact,gc_NoFact,ogs,otk,go_NoFact,gb_NoFact⟩,exm_of bb bm bt sb_NoFact,kt_NoFact_Known,kt_NoFact_NoCell,kt_NoFact_BadBit,kt_NoFact_NoLine,kt_NoFact_NoStep,kt_NoFact_NoFact,kv_NoFact,⟨bg,br,ba⟩,nx_Clash_ring,⟨ga_Clash,gt_Clash,gc_Clash,ogs,otk,go_Clash,gb_Clash⟩,exm_of bb bm bt sb_Clash,exm_of nb nm nt sc_Clash,PySem.W.mg_of X G v_LONGEST_SIDE,PySem.W.mg_none_of X G z_isinstance,PySem.W.mg_none_of X G z_int,PySem.W.mg_none_of X G z_bool,PySem.W.mg_none_of X G z_all,PySem.W.mg_none_of X G z_len,PySem.W.mg_none_of X G z_tuple,PySem.W.mg_none_of X G z_list,PySem.W.mg_none_of X G z_range,PySem.W.mg_none_of X G z_abs,PySem.W.mg_none_of X G z_sum,PySem.W.mg_none_of X G z_min,PySem.W.mg_none_of X G z_str,PySem.W.mg_none_of X G z_zip,PySem.W.mg_none_of X G z_ValueError⟩⟩
local macro_rules | `(tactic| walk_at "rdf1") => `(tactic| first
 | ((with_reducible refine' rd_var (v:=?kv) ?ke ?kh); (case ke=>exact rfl))
 | (with_reducible refine rd_seqA fun _ _=>?_) | (with_reducible refine rd_asg ?_) | (with_reducible refine rd_name ?_) | (with_reducible refine rd_ret ?_) | (with_reducible refine rd_retN ?_) | (with_reducible refine rd_drop ?_)
 | (with_reducible refine rd_ifS ?_) | (with_reducible refine rd_tB ?_) | (with_reducible refine rd_tTest ?_) | (with_reducible refine rd_exbl ?_) | (with_reducible refine rd_c ?_) | (with_reducible refine rd_op ?_) | (with_reducible refine rd_un ?_)
 | (with_reducible refine rd_andV ?_) | (with_reducible refine rd_orV ?_) | (with_reducible refine rd_notV ?_) | (with_reducible refine rd_and ?_) | (with_reducible refine rd_or ?_) | (with_reducible refine rd_not ?_) | (with_reducible refine rd_true ?_)
 | (with_reducible refine rd_I0 ?_) | (with_reducible refine rd_U ?_) | (with_reducible refine rd_eqI ?_) | (with_reducible refine rd_neI ?_) | (with_reducible refine rd_eqS ?_) | (with_reducible refine rd_eqB ?_) | (with_reducible refine rd_neB ?_)
 | (with_reducible refine rd_chain ?_) | (with_reducible refine rd_call ?_) | (with_reducible refine rd_nil ?_) | (with_reducible refine rd_cons ?_) | (with_reducible refine rd_CB ?_) | (with_reducible refine rd_tup ?_) | (with_reducible refine rd_lst ?_)
 | (with_reducible refine rd_next ?_) | (with_reducible refine rd_try2 ?_) | (with_reducible refine rd_thawE ?_) | (with_reducible refine rd_thawS ?_) | (with_reducible refine rd_ivals ?_) | (with_reducible refine rd_iitems ?_) | ((with_reducible refine' rd_aug (x:=?kv) ?ke ?kh); (case ke=>exact rfl)) | (with_reducible refine rd_ipI ?_) | (with_reducible refine rd_gcons ?_) | (with_reducible refine rd_gnil ?_) | (with_reducible refine rd_gsub ?_) | (with_reducible refine rd_sfld ?_) | (with_reducible refine rd_while ?_) | (with_reducible refine rd_comp ?_) | (with_reducible refine rd_fld ?_) | (with_reducible refine rd_meth ?_) | (with_reducible refine rd_make ?_) | (with_reducible refine rd_raise ?_) | (with_reducible refine rd_try ?_) | (with_reducible refine rd_callS ?_) | (with_reducible refine rd_methS ?_) | (with_reducible refine rd_makeS ?_) | (with_reducible refine rd_bm ?_) | (with_reducible refine rd_bm0 ?_) | (with_reducible refine rd_sl ?_) | (with_reducible refine rd_nopart ?_) | (with_reducible refine rd_part ?_) | (with_reducible refine rd_exint ?_) | (with_reducible refine rd_exref ?_)
 | (with_reducible refine rd_if ?_) | (with_reducible refine rd_augS ?_) | (with_reducible refine rd_dput ?_) | (with_reducible refine rd_din ?_) | (with_reducible refine rd_dnotin ?_) | (with_reducible refine rd_dnewT ?_) | (with_reducible refine rd_dnewK ?_) | (with_reducible refine rd_par ?_) | (with_reducible refine rd_dget ?_) | (with_reducible refine rd_disp1 ?_) | (with_reducible refine rd_dget1 ?_) | (with_reducible refine rd_dget2 ?_) | (with_reducible refine rd_dpop1 ?_) | (with_reducible refine rd_rng3 ?_) | (with_reducible refine rd_ienum ?_) | (with_reducible refine rd_abs ?_) | (with_reducible refine rd_min2 ?_) | (with_reducible refine rd_max2 ?_) | (with_reducible refine rd_intB ?_) | (with_reducible refine rd_for ?_) | (with_reducible refine rd_rng1 ?_) | (with_reducible refine rd_ilist ?_) | (with_reducible refine rd_itup ?_) | (with_reducible refine rd_izipS ?_) | (with_reducible refine iteT ?_) | (with_reducible refine iteF ?_) | (with_reducible refine if_true_do ?_) | (with_reducible refine iteNN ?_) | (with_reducible refine iteTA ?_) | (with_reducible refine iteFA ?_) | ((with_reducible refine' rd_cut (r:=?kr) ?ke ?kh); (case ke=>assumption)) | (dsimp only))
local macro_rules | `(tactic| walk_at "rdf") => `(tactic| repeat walk_at "rdf1")
section
variable {P:Program} {w:World} {K:PySem.W.Frag} {mg:Str→Option Value} {base:Heap} {t:Ad}
def isBit (i:Int):Bool:=decide (0≤i)&&decide (i<2)
def sp_isnumber:Sp:=fun vs H Q _=>∃ i,vs=[.int i]∧Q (.bl true) H
theorem ok_isnumber (T:Txt K mg t):FnOk P w K mg base CX0 1 t.f_isnumber t.d_isnumber ["value"] sp_isnumber:=by
 refine T.F_isnumber.ok sc_isnumber (fun vs H Q E h=>?_) (fun cdv A outer s H vs Q E hr h=>?_)
 ·obtain ⟨i,rfl,_⟩:=h; rfl
 ·obtain ⟨i,rfl,k⟩:=h
  refine ⟨_,(pss_one (ps_ret (pe_and (pe_callB (cI_isinstK K rfl) rfl T.no_isinstance (by rfl) (pa_cons (pv 0) (pa_cons (pe_bltn (v:=.ty "int") rfl T.no_int (by rfl:bootBuiltins "int"=some (.type "int")) rfl) pa_nil))) (pe_one (pe_not (pe_callB (cI_isinstK K rfl) rfl T.no_isinstance (by rfl) (pa_cons (pv 0) (pa_cons (pe_bltn (v:=.ty "bool") rfl T.no_bool (by rfl:bootBuiltins "bool"=some (.type "bool")) rfl) pa_nil)))))))),?_⟩
  walk_at "rdf"
  refine rd_isi (.int i) kit_ii ?_
  walk_at "rdf"
  refine rd_isi (.int i) kit_ib ?_
  walk_at "rdf"
  exact k
def sp_isbelow:Sp:=fun vs H Q _=>∃ i b,vs=[.int i,.int b]∧Q (.bl (decide (0≤i)&&decide (i<b))) H
theorem ok_isbelow (T:Txt K mg t):FnOk P w K mg base CX0 2 t.f_isbelow t.d_isbelow ["value","bound"] sp_isbelow:=by
 have G_isnumber:=ok_isnumber (P:=P) (w:=w) (base:=base) T
 refine T.F_isbelow.ok sc_isbelow (fun vs H Q E h=>?_) (fun cdv A outer s H vs Q E hr h=>?_)
 ·obtain ⟨i,b,rfl,_⟩:=h; rfl
 ·obtain ⟨i,b,rfl,k⟩:=h
  refine ⟨_,(pss_one (ps_ret (pe_and (pe_call G_isnumber (hr.mono (by first | decide | omega)) rfl T.mg_isnumber T.F_isnumber.kp T.b_isnumber .nil pass0 (pa_cons (pv 0) pa_nil)) (pe_one (pe_chain op_le op_lt pe_int (pv 0) (pv 1)))))),?_⟩
  walk_at "rdf"
  refine ⟨i,rfl,?_⟩
  walk_at "rdf"
  refine ite2 (fun h0=>?_) (fun h0=>?_)
  ·walk_at "rdf"
   rw [h0] at k
   exact k
  ·rw [Bool.not_eq_true] at h0
   rw [h0] at k
   exact k
def sp_isbit:Sp:=fun vs H Q _=>∃ i,vs=[.int i]∧Q (.bl (isBit i)) H
theorem ok_isbit (T:Txt K mg t):FnOk P w K mg base CX0 3 t.f_isbit t.d_isbit ["value"] sp_isbit:=by
 have G_isbelow:=ok_isbelow (P:=P) (w:=w) (base:=base) T
 refine T.F_isbit.ok sc_isbit (fun vs H Q E h=>?_) (fun cdv A outer s H vs Q E hr h=>?_)
 ·obtain ⟨i,rfl,_⟩:=h; rfl
 ·obtain ⟨i,rfl,k⟩:=h
  refine ⟨_,(pss_one (ps_ret (pe_call G_isbelow (hr.mono (by first | decide | omega)) rfl T.mg_isbelow T.F_isbelow.kp T.b_isbelow .nil pass0 (pa_cons (pv 0) (pa_cons pe_int pa_nil))))),?_⟩
  walk_at "rdf"
  exact ⟨i,2,rfl,k⟩
def isSide (n:Int):Bool:=decide (0<n)&&decide (n<41)
def sp_isside:Sp:=fun vs H Q _=>∃ i,vs=[.int i]∧Q (.bl (isSide i)) H
theorem ok_isside (T:Txt K mg t):FnOk P w K mg base CX0 3 t.f_isside t.d_isside ["count"] sp_isside:=by
  have G_isbelow:=ok_isbelow (P:=P) (w:=w) (base:=base) T
  refine T.F_isside.ok sc_isside (fun vs H Q E h=>?_) (fun cdv A outer s H vs Q E hr h=>?_)
  · obtain ⟨i,rfl,_⟩:=h; rfl
  · obtain ⟨i,rfl,k⟩:=h
    refine ⟨_,(pss_one (ps_ret (pe_and (pe_call G_isbelow (hr.mono (by first | decide | omega)) rfl T.mg_isbelow T.F_isbelow.kp T.b_isbelow .nil pass0 (pa_cons (pv 0) (pa_cons (pe_op op_add (pe_glob (v:=.int 40) rfl T.mg_LONGEST_SIDE ⟨_,rfl⟩) pe_int) pa_nil))) (pe_one (pe_cmpR op_gt (pv 0) pe_int (nomark _)))))),?_⟩
    walk_at "rdf"
    refine ⟨i,_,rfl,?_⟩
    walk_at "rdf"
    refine ite2 (fun h0=>?_) (fun h0=>?_)
    · walk_at "rdf"
      have e:isSide i=decide (0<i):=by
        rw [Bool.and_eq_true,decide_eq_true_eq,decide_eq_true_eq] at h0
        unfold isSide
        rw [decide_eq_true (by omega:i<41),Bool.and_true]
      rw [e] at k
      exact k
    · have e:isSide i=false:=by
        rw [Bool.and_eq_true,decide_eq_true_eq,decide_eq_true_eq] at h0
        unfold isSide
        by_cases hi:0<i
        · rw [decide_eq_false (by omega:¬ i<41),Bool.and_false]
        · rw [decide_eq_false hi,Bool.false_and]
      rw [e] at k
      exact k
end
section
variable {P:Program} {w:World} {K:PySem.W.Frag} {mg:Str→Option Value} {base:Heap} {t:Ad}
inductive Fct where
 | cell (x y c:Int)
 | line (col:Bool) (k s:Int) (b:Bool)
 deriving DecidableEq
def wyS (col:Bool):Str:=if col=true then "col" else "row"
def stS (col:Bool) (k:Int):List Key:=if col=true then sx k else sy k
def Fct.vs:Fct→List V
 | .cell x y c=>[.str "cell",.int x,.int y,.int c]
 | .line col k s b=>[.str (wyS col),.int k,.int s,.bl b]
def Fct.tie:Fct→Fm.Tie
 | .cell x y c=>(sx x,sy y,(c+x*y)%2)
 | .line col k s b=>(stS col k,stS col (k+1),if b=true then (s+1)%2 else s%2)
def Fct.inW (wd ht:Int):Fct→Prop
 | .cell x y c=>(0≤x∧x<wd)∧(0≤y∧y<ht)∧(c=0∨c=1)
 | .line true k s _=>(0≤k∧k<wd - 1)∧0≤s∧s<ht
 | .line false k s _=>(0≤k∧k<ht - 1)∧0≤s∧s<wd
def PrAt (H:Hp) (T a b:Addr) (s u:List Key):Prop:=H T=some (.tup [.ref a,.ref b])∧H a=some (.tup (s.map kV))∧H b=some (.tup (u.map kV))
theorem PrAt.mono {H H':Hp} {T a b:Addr} {s u:List Key} (h:PrAt H T a b s u) (m:Same H H'):PrAt H' T a b s u:=⟨m _ _ h.1,m _ _ h.2.1,m _ _ h.2.2⟩
theorem rk_ne:¬ (("row":Str)="col"):=by decide +kernel
theorem wy_cell (col:Bool):decide (wyS col="cell")=false:=by cases col<;>exact decide_eq_false (by decide +kernel)
theorem wy_col (col:Bool):decide (wyS col="col")=col:=by cases col; exact decide_eq_false rk_ne; exact decide_eq_true rfl
def sp_cellstrips:Sp:=fun vs H Q _=>∃ x y,vs=[.int x,.int y]∧∀ T a b H',Same H H'→PrAt H' T a b (sx x) (sy y)→Q (.ref T) H'
theorem ok_cellstrips (T:Txt K mg t):FnOk P w K mg base CX0 1 t.f_cellstrips t.d_cellstrips ["x","y"] sp_cellstrips:=by
 refine T.F_cellstrips.ok sc_cellstrips (fun vs H Q E h=>?_) (fun cdv A outer s H vs Q E hr h=>?_)
 ·obtain ⟨x,y,rfl,_⟩:=h; rfl
 ·obtain ⟨x,y,rfl,k⟩:=h
  refine ⟨_,(pss_one (ps_ret (pe_tup (pa_cons (pe_tup (pa_cons pe_str (pa_cons (pv 0) pa_nil))) (pa_cons (pe_tup (pa_cons pe_str (pa_cons (pv 1) pa_nil))) pa_nil))))),?_⟩
  walk_at "rdf"
  refine ⟨by show 2≤sizeLine; decide,fun a na=>?_⟩
  have sa:=Same.new (o:=HO.tup [V.str (Str.ofString "x"),V.int x]) na
  have ea:=upd_same (H:=H) (a:=a) (o:=HO.tup [V.str (Str.ofString "x"),V.int x])
  generalize upd H a (HO.tup [V.str (Str.ofString "x"),V.int x])=H1 at sa ea ⊢
  walk_at "rdf"
  refine ⟨by show 2≤sizeLine; decide,fun b nb=>?_⟩
  have sb:=Same.new (o:=HO.tup [V.str (Str.ofString "y"),V.int y]) nb
  have eb:=upd_same (H:=H1) (a:=b) (o:=HO.tup [V.str (Str.ofString "y"),V.int y])
  generalize upd H1 b (HO.tup [V.str (Str.ofString "y"),V.int y])=H2 at sb eb ⊢
  walk_at "rdf"
  refine ⟨by show 2≤sizeLine; decide,fun c nc=>?_⟩
  have sc:=Same.new (o:=HO.tup [V.ref a,V.ref b]) nc
  have ec:=upd_same (H:=H2) (a:=c) (o:=HO.tup [V.ref a,V.ref b])
  generalize upd H2 c (HO.tup [V.ref a,V.ref b])=H3 at sc ec ⊢
  walk_at "rdf"
  exact k c a b H3 ((sa.trans sb).trans sc) ⟨ec,sc _ _ (sb _ _ ea),sc _ _ eb⟩
def sp_linestrips:Sp:=fun vs H Q _=>∃ col k,vs=[.str (wyS col),.int k]∧∀ T a b H',Same H H'→PrAt H' T a b (stS col k) (stS col (k+1))→Q (.ref T) H'
theorem ok_linestrips (T:Txt K mg t):FnOk P w K mg base CX0 1 t.f_linestrips t.d_linestrips ["way","k"] sp_linestrips:=by
 refine T.F_linestrips.ok sc_linestrips (fun vs H Q E h=>?_) (fun cdv A outer s H vs Q E hr h=>?_)
 ·obtain ⟨col,k,rfl,_⟩:=h; rfl
 ·obtain ⟨col,k,rfl,q⟩:=h
  refine ⟨_,(pss_cons (ps_set (i:=2) sc_linestrips.nd rfl (Or.inl rfl) (pe_ifExp (pt_cmpR op_eq (pv 0) pe_str (nomark _)) pe_str pe_str)) (pss_one (ps_ret (pe_tup (pa_cons (pe_tup (pa_cons (pv 2) (pa_cons (pv 1) pa_nil))) (pa_cons (pe_tup (pa_cons (pv 2) (pa_cons (pe_op op_add (pv 1) pe_int) pa_nil))) pa_nil)))))),?_⟩
  walk_at "rdf"
  rw [wy_col]
  cases col with
  | true =>
   walk_at "rdf"
   refine ⟨by show 2≤sizeLine; decide,fun a na=>?_⟩
   have sa:=Same.new (o:=HO.tup [V.str (Str.ofString "x"),V.int k]) na
   have ea:=upd_same (H:=H) (a:=a) (o:=HO.tup [V.str (Str.ofString "x"),V.int k])
   generalize upd H a (HO.tup [V.str (Str.ofString "x"),V.int k])=H1 at sa ea ⊢
   walk_at "rdf"
   refine ⟨by show 2≤sizeLine; decide,fun b nb=>?_⟩
   have sb:=Same.new (o:=HO.tup [V.str (Str.ofString "x"),V.int (k+1)]) nb
   have eb:=upd_same (H:=H1) (a:=b) (o:=HO.tup [V.str (Str.ofString "x"),V.int (k+1)])
   generalize upd H1 b (HO.tup [V.str (Str.ofString "x"),V.int (k+1)])=H2 at sb eb ⊢
   walk_at "rdf"
   refine ⟨by show 2≤sizeLine; decide,fun c nc=>?_⟩
   have sc:=Same.new (o:=HO.tup [V.ref a,V.ref b]) nc
   have ec:=upd_same (H:=H2) (a:=c) (o:=HO.tup [V.ref a,V.ref b])
   generalize upd H2 c (HO.tup [V.ref a,V.ref b])=H3 at sc ec ⊢
   walk_at "rdf"
   exact q c a b H3 ((sa.trans sb).trans sc) ⟨ec,sc _ _ (sb _ _ ea),sc _ _ eb⟩
  | false =>
   walk_at "rdf"
   refine ⟨by show 2≤sizeLine; decide,fun a na=>?_⟩
   have sa:=Same.new (o:=HO.tup [V.str (Str.ofString "y"),V.int k]) na
   have ea:=upd_same (H:=H) (a:=a) (o:=HO.tup [V.str (Str.ofString "y"),V.int k])
   generalize upd H a (HO.tup [V.str (Str.ofString "y"),V.int k])=H1 at sa ea ⊢
   walk_at "rdf"
   refine ⟨by show 2≤sizeLine; decide,fun b nb=>?_⟩
   have sb:=Same.new (o:=HO.tup [V.str (Str.ofString "y"),V.int (k+1)]) nb
   have eb:=upd_same (H:=H1) (a:=b) (o:=HO.tup [V.str (Str.ofString "y"),V.int (k+1)])
   generalize upd H1 b (HO.tup [V.str (Str.ofString "y"),V.int (k+1)])=H2 at sb eb ⊢
   walk_at "rdf"
   refine ⟨by show 2≤sizeLine; decide,fun c nc=>?_⟩
   have sc:=Same.new (o:=HO.tup [V.ref a,V.ref b]) nc
   have ec:=upd_same (H:=H2) (a:=c) (o:=HO.tup [V.ref a,V.ref b])
   generalize upd H2 c (HO.tup [V.ref a,V.ref b])=H3 at sc ec ⊢
   walk_at "rdf"
   exact q c a b H3 ((sa.trans sb).trans sc) ⟨ec,sc _ _ (sb _ _ ea),sc _ _ eb⟩
def sp_factstrips:Sp:=fun vs H Q _=>∃ (p:Addr) (f:Fct),vs=[.ref p]∧H p=some (.tup f.vs)∧∀ T a b H',Same H H'→PrAt H' T a b f.tie.1 f.tie.2.1→Q (.ref T) H'
theorem ok_factstrips (T:Txt K mg t):FnOk P w K mg base CX0 2 t.f_factstrips t.d_factstrips ["fact"] sp_factstrips:=by
 have G_cellstrips:=ok_cellstrips (P:=P) (w:=w) (base:=base) T
 have G_linestrips:=ok_linestrips (P:=P) (w:=w) (base:=base) T
 refine T.F_factstrips.ok sc_factstrips (fun vs H Q E h=>?_) (fun cdv A outer s H vs Q E hr h=>?_)
 ·obtain ⟨p,f,rfl,_⟩:=h; rfl
 ·obtain ⟨p,f,rfl,hp,k⟩:=h
  refine ⟨_,(pss_cons (ps_if (pt_cmpR op_eq (pe_ix (ix_tupK K rfl) (pv 0) pe_int (fun _ _=>rfl)) pe_str (nomark _)) (pss_one (ps_ret (pe_call G_cellstrips (hr.mono (by first | decide | omega)) rfl T.mg_cellstrips T.F_cellstrips.kp T.b_cellstrips .nil pass0 (pa_cons (pe_ix (ix_tupK K rfl) (pv 0) pe_int (fun _ _=>rfl)) (pa_cons (pe_ix (ix_tupK K rfl) (pv 0) pe_int (fun _ _=>rfl)) pa_nil))))) pss_nil) (pss_one (ps_ret (pe_call G_linestrips (hr.mono (by first | decide | omega)) rfl T.mg_linestrips T.F_linestrips.kp T.b_linestrips .nil pass0 (pa_cons (pe_ix (ix_tupK K rfl) (pv 0) pe_int (fun _ _=>rfl)) (pa_cons (pe_ix (ix_tupK K rfl) (pv 0) pe_int (fun _ _=>rfl)) pa_nil)))))),?_⟩
  cases f with
  | cell x y c =>
   walk_at "rdf"
   refine rd_ixT (SqT.of hp) (v:=.str "cell") rfl ?_
   walk_at "rdf"
   rw [decide_eq_true (rfl:("cell":Str)="cell")]
   walk_at "rdf"
   refine rd_ixT (SqT.of hp) (v:=.int x) rfl ?_
   walk_at "rdf"
   refine rd_ixT (SqT.of hp) (v:=.int y) rfl ?_
   walk_at "rdf"
   exact ⟨x,y,rfl,k⟩
  | line col kk s b =>
   walk_at "rdf"
   refine rd_ixT (SqT.of hp) (v:=.str (wyS col)) rfl ?_
   walk_at "rdf"
   rw [wy_cell]
   walk_at "rdf"
   refine rd_ixT (SqT.of hp) (v:=.str (wyS col)) rfl ?_
   walk_at "rdf"
   refine rd_ixT (SqT.of hp) (v:=.int kk) rfl ?_
   walk_at "rdf"
   exact ⟨col,kk,rfl,k⟩
def sp_factweight:Sp:=fun vs H Q _=>∃ (p:Addr) (f:Fct) (wd ht:Int),vs=[.ref p]∧H p=some (.tup f.vs)∧f.inW wd ht∧wd≤40∧ht≤40∧Q (.int f.tie.2.2) H
theorem ok_factweight (T:Txt K mg t):FnOk P w K mg base CX0 1 t.f_factweight t.d_factweight ["fact"] sp_factweight:=by
 refine T.F_factweight.ok sc_factweight (fun vs H Q E h=>?_) (fun cdv A outer s H vs Q E hr h=>?_)
 ·obtain ⟨p,f,wd,ht,rfl,_⟩:=h; rfl
 ·obtain ⟨p,f,wd,ht,rfl,hp,hi,lw,lh,k⟩:=h
  refine ⟨_,(pss_cons (ps_if (pt_cmpR op_eq (pe_ix (ix_tupK K rfl) (pv 0) pe_int (fun _ _=>rfl)) pe_str (nomark _)) (pss_one (ps_ret (pe_op op_mod (pe_op op_add (pe_ix (ix_tupK K rfl) (pv 0) pe_int (fun _ _=>rfl)) (pe_op op_mul (pe_ix (ix_tupK K rfl) (pv 0) pe_int (fun _ _=>rfl)) (pe_ix (ix_tupK K rfl) (pv 0) pe_int (fun _ _=>rfl)))) pe_int))) pss_nil) (pss_one (ps_ret (pe_ifExp (pt_val (pe_ix (ix_tupK K rfl) (pv 0) pe_int (fun _ _=>rfl))) (pe_op op_mod (pe_op op_add (pe_ix (ix_tupK K rfl) (pv 0) pe_int (fun _ _=>rfl)) pe_int) pe_int) (pe_op op_mod (pe_ix (ix_tupK K rfl) (pv 0) pe_int (fun _ _=>rfl)) pe_int))))),?_⟩
  cases f with
  | cell x y c =>
   obtain ⟨⟨x0,x1⟩,⟨y0,y1⟩,_⟩:=hi
   walk_at "rdf"
   refine rd_ixT (SqT.of hp) (v:=.str "cell") rfl ?_
   walk_at "rdf"
   rw [decide_eq_true (rfl:("cell":Str)="cell")]
   walk_at "rdf"
   refine rd_ixT (SqT.of hp) (v:=.int c) rfl ?_
   walk_at "rdf"
   refine rd_ixT (SqT.of hp) (v:=.int x) rfl ?_
   walk_at "rdf"
   refine rd_ixT (SqT.of hp) (v:=.int y) rfl ?_
   walk_at "rdf"
   refine rd_I (.inl ⟨by omega,by omega⟩) ?_
   walk_at "rdf"
   refine rd_I (by decide) ?_
   walk_at "rdf"
   exact k
  | line col kk s b =>
   walk_at "rdf"
   refine rd_ixT (SqT.of hp) (v:=.str (wyS col)) rfl ?_
   walk_at "rdf"
   rw [wy_cell]
   walk_at "rdf"
   refine rd_ixT (SqT.of hp) (v:=.bl b) rfl ?_
   walk_at "rdf"
   cases b with
   | true =>
    walk_at "rdf"
    refine rd_ixT (SqT.of hp) (v:=.int s) rfl ?_
    walk_at "rdf"
    refine rd_I (by decide) ?_
    walk_at "rdf"
    exact k
   | false =>
    walk_at "rdf"
    refine rd_ixT (SqT.of hp) (v:=.int s) rfl ?_
    walk_at "rdf"
    refine rd_I (by decide) ?_
    walk_at "rdf"
    exact k
end
section
variable {P:Program} {w:World} {K:PySem.W.Frag} {mg:Str→Option Value} {base:Heap} {t:Ad}
def NoT (H:Hp) (S:List Addr):Prop:=∀ x∈S,∀ xs,H x≠some (.tup xs)
theorem but_tup {S:List Addr} {H H':Hp} (m:ButL S H H') (n:NoT H S) {b:Addr} {xs:List V} (e:H b=some (.tup xs)):H' b=some (.tup xs):=m b _ e fun z=>n b z xs e
def stripsD (n m:Nat):List (List Key):=(List.range n).map (fun i=>sx ((i:Nat):Int))++(List.range m).map fun i=>sy ((i:Nat):Int)
theorem mem_sx {n m:Nat} {i:Int} (h0:0≤i) (h1:i<n):sx i∈stripsD n m:=List.mem_append_left _ (List.mem_map.mpr ⟨i.toNat,List.mem_range.mpr (by omega),by rw [show ((i.toNat:Nat):Int)=i by omega]⟩)
theorem mem_sy {n m:Nat} {i:Int} (h0:0≤i) (h1:i<m):sy i∈stripsD n m:=List.mem_append_right _ (List.mem_map.mpr ⟨i.toNat,List.mem_range.mpr (by omega),by rw [show ((i.toNat:Nat):Int)=i by omega]⟩)
theorem stripsD_mem {n m:Nat} {s:List Key} (h:s∈stripsD n m):(∃ i:Nat,i<n∧s=sx i)∨∃ i:Nat,i<m∧s=sy i:=by
 rcases List.mem_append.mp h with h | h<;>obtain ⟨i,hi,rfl⟩:=List.mem_map.mp h<;>have hi:=List.mem_range.mp hi
 ·exact .inl ⟨i,hi,rfl⟩
 ·exact .inr ⟨i,hi,rfl⟩
theorem stripsD_strip {n m:Nat} {s:List Key} (h:s∈stripsD n m):IsStrip s:=by
 rcases stripsD_mem h with ⟨i,_,e⟩ | ⟨i,_,e⟩
 ·exact ⟨i,.inl e⟩
 ·exact ⟨i,.inr e⟩
theorem nodup_mapr {f:Nat→List Key} (hf:∀ i j,f i=f j→i=j) (n:Nat):((List.range n).map f).Nodup:=List.pairwise_map.mpr (List.nodup_range.imp fun h z=>h (hf _ _ z))
theorem stripsD_nodup (n m:Nat):(stripsD n m).Nodup:=by
 refine List.nodup_append.mpr ⟨nodup_mapr (fun i j h=>by have:=sx_inj h; omega) n,nodup_mapr (fun i j h=>by have:=sy_inj h; omega) m,fun a ha b hb e=>?_⟩
 obtain ⟨i,_,rfl⟩:=List.mem_map.mp ha
 obtain ⟨j,_,rfl⟩:=List.mem_map.mp hb
 exact sxy_ne e
theorem stripsD_len (n m:Nat):(stripsD n m).length=n+m:=by unfold stripsD; rw [List.length_append,List.length_map,List.length_map,List.length_range,List.length_range]
theorem Fct.inD {f:Fct} {n m:Nat} (h:f.inW n m):f.tie.1∈stripsD n m∧f.tie.2.1∈stripsD n m:=by
 cases f with
 | cell x y c=>obtain ⟨⟨x0,x1⟩,⟨y0,y1⟩,_⟩:=h; exact ⟨mem_sx x0 x1,mem_sy y0 y1⟩
 | line col k s b =>
  cases col with
  | true => obtain ⟨⟨k0, k1⟩, _⟩ := h; exact ⟨mem_sx k0 (by omega), mem_sx (by omega) (by omega)⟩
  | false => obtain ⟨⟨k0, k1⟩, _⟩ := h; exact ⟨mem_sy k0 (by omega), mem_sy (by omega) (by omega)⟩
def GE (H:Hp) (kvs:List (List Key×V)) (G:List Key→List Key×Int) (s:List Key):Prop:=∃ a b,valV kvs s=some (.ref a)∧H a=some (.tup [.ref b,.int (G s).2])∧H b=some (.tup ((G s).1.map kV))
structure GrpAt (H:Hp) (d:Addr) (D:List (List Key)) (G:List Key→List Key×Int):Prop where
 ob:∃ kvs,H d=some (.dT kvs)∧kvs.map (·.1)=D∧∀ s∈D,GE H kvs G s
 st:∀ s∈D,IsStrip (G s).1
theorem GrpAt.but {S:List Addr} {H H':Hp} {d:Addr} {D:List (List Key)} {G:List Key→List Key×Int} (h:GrpAt H d D G) (m:ButL S H H') (n:NoT H S) (hd:d∉S):GrpAt H' d D G:=by
 obtain ⟨⟨kvs,e,hk,hv⟩,st⟩:=h
 refine ⟨⟨kvs,m _ _ e hd,hk,fun s hs=>?_⟩,st⟩
 obtain ⟨a,b,h1,h2,h3⟩:=hv s hs
 exact ⟨a,b,h1,but_tup m n h2,but_tup m n h3⟩
theorem GrpAt.mono {H H':Hp} {d:Addr} {D:List (List Key)} {G:List Key→List Key×Int} (h:GrpAt H d D G) (m:Same H H'):GrpAt H' d D G:=h.but (m.butL []) (fun x hx=>nomatch hx) (fun z=>nomatch z)
theorem GrpAt.congr {H:Hp} {d:Addr} {D:List (List Key)} {G G':List Key→List Key×Int} (h:GrpAt H d D G) (e:∀ s∈D,G' s=G s):GrpAt H d D G':=by
 obtain ⟨⟨kvs,e1,hk,hv⟩,st⟩:=h
 refine ⟨⟨kvs,e1,hk,fun s hs=>?_⟩,fun s hs=>by rw [e s hs]; exact st s hs⟩
 unfold GE
 rw [e s hs]; exact hv s hs
theorem grp_put {H:Hp} {d a b:Addr} {D:List (List Key)} {G:List Key→List Key×Int} {kvs:List (List Key×V)} {s:List Key} (e:H d=some (.dT kvs)) (keys:(putK kvs s (.ref a)).map (·.1)=D) (hv:∀ u∈D,u≠s→GE H kvs G u)
  (ea:H a=some (.tup [.ref b,.int (G s).2])) (eb:H b=some (.tup ((G s).1.map kV))) (st:∀ u∈D,IsStrip (G u).1):GrpAt (upd H d (.dT (putK kvs s (.ref a)))) d D G:=by
 have nt:∀ c xs,H c=some (.tup xs)→upd H d (.dT (putK kvs s (.ref a))) c=some (.tup xs):=fun c xs hc=>by rw [upd_ne (ne_of hc e (fun z=>nomatch z))]; exact hc
 refine ⟨⟨_,upd_same,keys,fun u hu=>?_⟩,st⟩
 by_cases hus:u=s
 ·subst hus
  exact ⟨a,b,by rw [valV_put,if_pos rfl],nt _ _ ea,nt _ _ eb⟩
 ·obtain ⟨a',b',h1,h2,h3⟩:=hv u hu hus
  exact ⟨a',b',by rw [valV_put,if_neg hus]; exact h1,nt _ _ h2,nt _ _ h3⟩
def sp_lonegroups:Sp:=fun vs H Q _=>∃ n m:Nat,vs=[.int n,.int m]∧n≤40∧m≤40∧∀ d H',Same H H'→H d=none→GrpAt H' d (stripsD n m) Fm.lone→Q (.ref d) H'
theorem ok_lonegroups (T:Txt K mg t):FnOk P w K mg base CX0 1 t.f_lonegroups t.d_lonegroups ["wide","tall"] sp_lonegroups:=by
 refine T.F_lonegroups.ok sc_lonegroups (fun vs H Q E h=>?_) (fun cdv A outer s H vs Q E hr h=>?_)
 ·obtain ⟨n,m,rfl,_⟩:=h; rfl
 ·obtain ⟨n,m,rfl,ln,lm,k⟩:=h
  refine cutC (ps_set (i:=2) sc_lonegroups.nd rfl (Or.inl rfl) pe_dnewT) fun _ _=>cutC (ps_for PassesOwn.never rfl (pi_range1 rfl T.no_range (pa_cons (pv 0) pa_nil)) (pg_name (i:=3) sc_lonegroups.nd rfl (Or.inl rfl)) (pss_one (ps_dput (hu_of hr) (pv 2) (pe_tup (pa_cons pe_str (pa_cons (pv 3) pa_nil))) (pe_tup (pa_cons (pe_tup (pa_cons pe_str (pa_cons (pv 3) pa_nil))) (pa_cons pe_int pa_nil))) rfl))) fun _ _=>cutC (ps_for PassesOwn.never rfl (pi_range1 rfl T.no_range (pa_cons (pv 1) pa_nil)) (pg_name (i:=4) sc_lonegroups.nd rfl (Or.inl rfl)) (pss_one (ps_dput (hu_of hr) (pv 2) (pe_tup (pa_cons pe_str (pa_cons (pv 4) pa_nil))) (pe_tup (pa_cons (pe_tup (pa_cons pe_str (pa_cons (pv 4) pa_nil))) (pa_cons pe_int pa_nil))) rfl))) fun _ _=>cutE (ps_ret (pv 2)) fun _ _=>?_
  walk_at "rdf"
  refine fun d nd=>?_
  have s0:=Same.new (o:=HO.dT []) nd
  have e0:GrpAt (upd H d (HO.dT [])) d (stripsD 0 0) Fm.lone:=⟨⟨[],upd_same,rfl,fun s hs=>nomatch hs⟩,fun s hs=>nomatch hs⟩
  generalize upd H d (HO.dT [])=H0 at s0 e0 ⊢
  walk_at "rdf"
  refine ⟨n,rfl,by omega,by omega,?_⟩
  rw [Int.toNat_natCast]
  refine forW_range (fun i σ' H'=>∃ o3:Option V,σ'=[some (.int n),some (.int m),some (.ref d),o3,none]∧Same H H'∧GrpAt H' d (stripsD i 0) Fm.lone) ⟨none,rfl,s0,e0⟩ ?_ ?_
  ·rintro i σ' H1 hi ⟨o3,rfl,s1,g1⟩
   rw [Int.zero_add]
   walk_at "rdf"
   refine ⟨by show 2≤sizeLine; decide,fun b nb=>?_⟩
   have sb:=Same.new (o:=HO.tup [V.str (Str.ofString "x"),V.int (i:Nat)]) nb
   have eb:=upd_same (H:=H1) (a:=b) (o:=HO.tup [V.str (Str.ofString "x"),V.int (i:Nat)])
   generalize upd H1 b (HO.tup [V.str (Str.ofString "x"),V.int (i:Nat)])=H2 at sb eb ⊢
   walk_at "rdf"
   refine ⟨by show 2≤sizeLine; decide,fun a na=>?_⟩
   have sa:=Same.new (o:=HO.tup [V.ref b,V.int 0]) na
   have ea:=upd_same (H:=H2) (a:=a) (o:=HO.tup [V.ref b,V.int 0])
   generalize upd H2 a (HO.tup [V.ref b,V.int 0])=H3 at sa ea ⊢
   walk_at "rdf"
   refine ⟨by show 2≤sizeLine; decide,fun c nc=>?_⟩
   have sc:=Same.new (o:=HO.tup [V.str (Str.ofString "x"),V.int (i:Nat)]) nc
   have ec:=upd_same (H:=H3) (a:=c) (o:=HO.tup [V.str (Str.ofString "x"),V.int (i:Nat)])
   generalize upd H3 c (HO.tup [V.str (Str.ofString "x"),V.int (i:Nat)])=H4 at sc ec ⊢
   walk_at "rdf"
   have g4:=((g1.mono sb).mono sa).mono sc
   have s4:=((s1.trans sb).trans sa).trans sc
   obtain ⟨⟨kvs,e4,hk,hv⟩,st⟩:=id g4
   have lk:kvs.length=i:=by have:=congrArg List.length hk; rwa [List.length_map,stripsD_len,Nat.add_zero] at this
   have nn:sx ((i:Nat):Int)∉stripsD i 0:=fun z=>by
    rcases stripsD_mem z with ⟨j,hj,e⟩ | ⟨j,hj,e⟩
    ·have:=sx_inj e; omega
    ·omega
   have ek:stripsD (i+1) 0=stripsD i 0++[sx ((i:Nat):Int)]:=by unfold stripsD; rw [List.range_succ,List.map_append,List.range_zero,List.map_nil,List.append_nil,List.append_nil]; rfl
   refine ⟨d,_,rfl,DPut.t (k:=sx ((i:Nat):Int)) e4 ec (by rw [lk]; exact small1000 (by omega)),?_⟩
   refine ⟨_,rfl,s4.later nd,grp_put e4 ?_ (fun u hu hne=>?_) (sc _ _ ea) (sc _ _ (sa _ _ eb)) fun u hu=>?_⟩
   ·rw [putK_new _ (valV_none (by rw [hk]; exact nn)),List.map_append,hk,ek]; rfl
   ·rw [ek] at hu
    rcases List.mem_append.mp hu with hu | hu
    ·exact hv u hu
    ·exact absurd (List.mem_singleton.mp hu) hne
   ·exact stripsD_strip hu
  ·rintro σ' H1 ⟨o3,rfl,s1,g1⟩
   walk_at "rdf"
   refine ⟨m,rfl,by omega,by omega,?_⟩
   rw [Int.toNat_natCast]
   refine forW_range (fun i σ' H'=>∃ o4:Option V,σ'=[some (.int n),some (.int m),some (.ref d),o3,o4]∧Same H H'∧GrpAt H' d (stripsD n i) Fm.lone) ⟨none,rfl,s1,g1⟩ ?_ ?_
   ·rintro i σ' H1 hi ⟨o4,rfl,s1,g1⟩
    rw [Int.zero_add]
    walk_at "rdf"
    refine ⟨by show 2≤sizeLine; decide,fun b nb=>?_⟩
    have sb:=Same.new (o:=HO.tup [V.str (Str.ofString "y"),V.int (i:Nat)]) nb
    have eb:=upd_same (H:=H1) (a:=b) (o:=HO.tup [V.str (Str.ofString "y"),V.int (i:Nat)])
    generalize upd H1 b (HO.tup [V.str (Str.ofString "y"),V.int (i:Nat)])=H2 at sb eb ⊢
    walk_at "rdf"
    refine ⟨by show 2≤sizeLine; decide,fun a na=>?_⟩
    have sa:=Same.new (o:=HO.tup [V.ref b,V.int 0]) na
    have ea:=upd_same (H:=H2) (a:=a) (o:=HO.tup [V.ref b,V.int 0])
    generalize upd H2 a (HO.tup [V.ref b,V.int 0])=H3 at sa ea ⊢
    walk_at "rdf"
    refine ⟨by show 2≤sizeLine; decide,fun c nc=>?_⟩
    have sc:=Same.new (o:=HO.tup [V.str (Str.ofString "y"),V.int (i:Nat)]) nc
    have ec:=upd_same (H:=H3) (a:=c) (o:=HO.tup [V.str (Str.ofString "y"),V.int (i:Nat)])
    generalize upd H3 c (HO.tup [V.str (Str.ofString "y"),V.int (i:Nat)])=H4 at sc ec ⊢
    walk_at "rdf"
    have g4:=((g1.mono sb).mono sa).mono sc
    have s4:=((s1.trans sb).trans sa).trans sc
    obtain ⟨⟨kvs,e4,hk,hv⟩,st⟩:=id g4
    have lk:kvs.length=n+i:=by have:=congrArg List.length hk; rwa [List.length_map,stripsD_len] at this
    have nn:sy ((i:Nat):Int)∉stripsD n i:=fun z=>by
     rcases stripsD_mem z with ⟨j,hj,e⟩ | ⟨j,hj,e⟩
     ·exact sxy_ne e.symm
     ·have:=sy_inj e; omega
    have ek:stripsD n (i+1)=stripsD n i++[sy ((i:Nat):Int)]:=by unfold stripsD; rw [List.range_succ,List.map_append,← List.append_assoc]; rfl
    refine ⟨d,_,rfl,DPut.t (k:=sy ((i:Nat):Int)) e4 ec (by rw [lk]; exact small1000 (by omega)),?_⟩
    refine ⟨_,rfl,s4.later nd,grp_put e4 ?_ (fun u hu hne=>?_) (sc _ _ ea) (sc _ _ (sa _ _ eb)) fun u hu=>?_⟩
    ·rw [putK_new _ (valV_none (by rw [hk]; exact nn)),List.map_append,hk,ek]; rfl
    ·rw [ek] at hu
     rcases List.mem_append.mp hu with hu | hu
     ·exact hv u hu
     ·exact absurd (List.mem_singleton.mp hu) hne
    ·exact stripsD_strip hu
   ·rintro σ' H1 ⟨o4,rfl,s1,g1⟩
    walk_at "rdf"
    exact k d H1 s1 nd g1
def wtB (G:List Key→List Key×Int) (s u:List Key):V:=if (G s).1=(G u).1 then .int (((G s).2+(G u).2)%2) else .non
def sp_weightbetween:Sp:=fun vs H Q _=>∃ (d T a b:Addr) (D:List (List Key)) (G:List Key→List Key×Int) (s u:List Key),vs=[.ref d,.ref T]∧GrpAt H d D G∧PrAt H T a b s u∧s∈D∧u∈D∧Q (wtB G s u) H
theorem ok_weightbetween (T:Txt K mg t):FnOk P w K mg base CX0 1 t.f_weightbetween t.d_weightbetween ["groups","strips"] sp_weightbetween:=by
 refine T.F_weightbetween.ok sc_weightbetween (fun vs H Q E h=>?_) (fun cdv A outer s H vs Q E hr h=>?_)
 ·obtain ⟨d,T,a,b,D,G,s,u,rfl,_⟩:=h; rfl
 ·obtain ⟨d,T,a,b,D,G,s,u,rfl,⟨⟨kvs,ed,hk,hv⟩,st⟩,⟨eT,ea,eb⟩,hs,hu,k⟩:=h
  obtain ⟨a1,b1,h1,h2,h3⟩:=hv s hs
  obtain ⟨a2,b2,g1,g2,g3⟩:=hv u hu
  refine cutC (ps_set (i:=2) sc_weightbetween.nd rfl (Or.inl rfl) (pe_dget (hu_of hr) (pv 0) (pe_ix (ix_tupK K rfl) (pv 1) pe_int (fun _ _=>rfl)) (fun _ _=>rfl))) fun _ _=>cutC (ps_set (i:=3) sc_weightbetween.nd rfl (Or.inl rfl) (pe_dget (hu_of hr) (pv 0) (pe_ix (ix_tupK K rfl) (pv 1) pe_int (fun _ _=>rfl)) (fun _ _=>rfl))) fun _ _=>cutE (ps_ret (pe_ifExp (pt_cmpR (op_eqD hr.units) (pe_ix (ix_tupK K rfl) (pv 2) pe_int (fun _ _=>rfl)) (pe_ix (ix_tupK K rfl) (pv 3) pe_int (fun _ _=>rfl)) (nomark _)) (pe_op op_mod (pe_op op_add (pe_ix (ix_tupK K rfl) (pv 2) pe_int (fun _ _=>rfl)) (pe_ix (ix_tupK K rfl) (pv 3) pe_int (fun _ _=>rfl))) pe_int) pe_non)) fun _ _=>?_
  walk_at "rdf"
  refine rd_ixT (SqT.of eT) (v:=.ref a) rfl ?_
  walk_at "rdf"
  refine rd_dgetT ed ea h1 ?_
  walk_at "rdf"
  refine rd_ixT (SqT.of eT) (v:=.ref b) rfl ?_
  walk_at "rdf"
  refine rd_dgetT ed eb g1 ?_
  walk_at "rdf"
  refine rd_ixT (SqT.of h2) (v:=.ref b1) rfl ?_
  walk_at "rdf"
  refine rd_ixT (SqT.of g2) (v:=.ref b2) rfl ?_
  walk_at "rdf"
  refine rd_eqK (st s hs).ok (st u hu).ok h3 g3 ?_
  unfold wtB at k
  by_cases c:(G s).1=(G u).1
  ·rw [if_pos c] at k
   rw [decide_eq_true c]
   walk_at "rdf"
   refine rd_ixT (SqT.of h2) (v:=.int (G s).2) rfl ?_
   walk_at "rdf"
   refine rd_ixT (SqT.of g2) (v:=.int (G u).2) rfl ?_
   walk_at "rdf"
   refine rd_I (by decide) ?_
   walk_at "rdf"
   exact k
  ·rw [if_neg c] at k
   rw [decide_eq_false c]
   walk_at "rdf"
   exact k
instance memDec (a:List Key) (l:List (List Key)):Decidable (a∈l):=decidable_of_iff ((l.any fun x=>decide (x=a))=true) (by
 rw [List.any_eq_true]
 exact ⟨fun ⟨x,hx,e⟩=>of_decide_eq_true e ▸ hx,fun h=>⟨a,h,decide_eq_true rfl⟩⟩)
theorem take_mem {D:List (List Key)} {i:Nat} (hi:i<D.length) {v:List Key}:v∈D.take (i+1)↔v∈D.take i∨v=D[i]:=by
 rw [List.take_add_one,List.getElem?_eq_getElem hi,List.mem_append]
 simp
theorem take_not {D:List (List Key)} (nd:D.Nodup) {i:Nat} (hi:i<D.length):D[i]∉D.take i:=fun h=>by
 obtain ⟨j,hj,e⟩:=List.mem_iff_getElem.mp h
 rw [List.length_take] at hj
 rw [List.getElem_take] at e
 have:=(List.getElem_inj nd).mp e
 omega
def sp_tie:Sp:=fun vs H Q _=>∃ (d T a b:Addr) (D:List (List Key)) (G:List Key→List Key×Int) (s u:List Key) (wt:Int),vs=[.ref d,.ref T,.int wt]∧GrpAt H d D G∧D.Nodup∧D.length≤80∧PrAt H T a b s u∧s∈D∧u∈D ∧
 ∀ H',ButL [d] H H'→GrpAt H' d D (Fm.tieG G (s,u,wt))→Q .non H'
theorem ok_tie (T:Txt K mg t):FnOk P w K mg base CX0 1 t.f_tie t.d_tie ["groups","strips","weight"] sp_tie:=by
 refine T.F_tie.ok sc_tie (fun vs H Q E h=>?_) (fun cdv A outer s H vs Q E hr h=>?_)
 ·obtain ⟨d,TT,a,b,D,G,s,u,wt,rfl,_⟩:=h; rfl
 ·obtain ⟨d,TT,a,b,D,G,s,u,wt,rfl,gr,nd,ld,⟨eT,ea,eb⟩,hs,hu,k⟩:=h
  obtain ⟨⟨kvs,ed,hk,hv⟩,st⟩:=id gr
  obtain ⟨a1,b1,h1,h2,h3⟩:=hv s hs
  obtain ⟨a2,b2,g1,g2,g3⟩:=hv u hu
  refine cutC (ps_set (i:=3) sc_tie.nd rfl (Or.inl rfl) (pe_dget (hu_of hr) (pv 0) (pe_ix (ix_tupK K rfl) (pv 1) pe_int (fun _ _=>rfl)) (fun _ _=>rfl))) fun _ _=>cutC (ps_set (i:=4) sc_tie.nd rfl (Or.inl rfl) (pe_dget (hu_of hr) (pv 0) (pe_ix (ix_tupK K rfl) (pv 1) pe_int (fun _ _=>rfl)) (fun _ _=>rfl))) fun _ _=>cutC (ps_if (pt_cmpR (op_eqD hr.units) (pe_ix (ix_tupK K rfl) (pv 3) pe_int (fun _ _=>rfl)) (pe_ix (ix_tupK K rfl) (pv 4) pe_int (fun _ _=>rfl)) (nomark _)) (pss_one ps_retN) pss_nil) fun _ _=>cutC (ps_set (i:=5) sc_tie.nd rfl (Or.inl rfl) (pe_op op_mod (pe_op op_add (pe_op op_add (pe_ix (ix_tupK K rfl) (pv 3) pe_int (fun _ _=>rfl)) (pe_ix (ix_tupK K rfl) (pv 4) pe_int (fun _ _=>rfl))) (pv 2)) pe_int)) fun _ _=>cutE (ps_for PassesOwn.never rfl (pi_list (pe_callTy (cI_listD rfl) rfl T.no_list (by rfl) (pa_cons (pv 0) pa_nil))) (pg_name (i:=6) sc_tie.nd rfl (Or.inl rfl)) (pss_cons (ps_set (i:=7) sc_tie.nd rfl (Or.inl rfl) (pe_dget (hu_of hr) (pv 0) (pv 6) (fun _ _=>rfl))) (pss_one (ps_if (pt_cmpR (op_eqD hr.units) (pe_ix (ix_tupK K rfl) (pv 7) pe_int (fun _ _=>rfl)) (pe_ix (ix_tupK K rfl) (pv 4) pe_int (fun _ _=>rfl)) (nomark _)) (pss_one (ps_dput (hu_of hr) (pv 0) (pv 6) (pe_tup (pa_cons (pe_ix (ix_tupK K rfl) (pv 3) pe_int (fun _ _=>rfl)) (pa_cons (pe_op op_mod (pe_op op_add (pe_ix (ix_tupK K rfl) (pv 7) pe_int (fun _ _=>rfl)) (pv 5)) pe_int) pa_nil))) rfl)) pss_nil)))) fun _ _=>?_
  walk_at "rdf"
  refine rd_ixT (SqT.of eT) (v:=.ref a) rfl ?_
  walk_at "rdf"
  refine rd_dgetT ed ea h1 ?_
  walk_at "rdf"
  refine rd_ixT (SqT.of eT) (v:=.ref b) rfl ?_
  walk_at "rdf"
  refine rd_dgetT ed eb g1 ?_
  walk_at "rdf"
  refine rd_ixT (SqT.of h2) (v:=.ref b1) rfl ?_
  walk_at "rdf"
  refine rd_ixT (SqT.of g2) (v:=.ref b2) rfl ?_
  walk_at "rdf"
  refine rd_eqK (st s hs).ok (st u hu).ok h3 g3 ?_
  by_cases c:(G s).1=(G u).1
  ·rw [decide_eq_true c]
   walk_at "rdf"
   exact k H (ButL.refl _ _) (gr.congr fun v _=>if_pos c)
  ·rw [decide_eq_false c]
   have tg:∀ v,Fm.tieG G (s,u,wt) v=if (G v).1=(G u).1 then ((G s).1,((G v).2+((G s).2+(G u).2+wt)%2)%2) else G v:=fun v=>if_neg c
   walk_at "rdf"
   refine rd_ixT (SqT.of h2) (v:=.int (G s).2) rfl ?_
   walk_at "rdf"
   refine rd_ixT (SqT.of g2) (v:=.int (G u).2) rfl ?_
   walk_at "rdf"
   refine rd_I (by decide) ?_
   generalize hch:((G s).2+(G u).2+wt)%2=ch at tg ⊢
   walk_at "rdf"
   refine rd_listD ed fun l ys nl pw=>?_
   rw [hk] at pw
   have s1:=Same.new (o:=HO.lst ys) nl
   have el:=upd_same (H:=H) (a:=l) (o:=HO.lst ys)
   generalize upd H l (HO.lst ys)=H1 at s1 el ⊢
   have ldn:l≠d:=ne_of el (s1 _ _ ed) (fun z=>nomatch z)
   have noT:NoT H1 [d]:=fun x hx xs=>by rw [List.mem_singleton.mp hx,s1 _ _ ed]; intro z; cases z
   walk_at "rdf"
   refine ⟨⟨_,SqL.of el⟩,?_⟩
   refine forW_list (K:=K) (a:=l) (xs:=ys) (fun i σ' H'=>∃ (o6 o7:Option V),σ'=[some (.ref d),some (.ref TT),some (.int wt),some (.ref a1),some (.ref a2),some (.int ch),o6,o7]∧ButL [d] H1 H'∧GrpAt H' d D (fun v=>if v∈D.take i then Fm.tieG G (s,u,wt) v else G v))
    ⟨none,none,rfl,ButL.refl _ _,(gr.mono s1).congr fun v _=>by rw [List.take_zero,if_neg (fun z=>nomatch z)]⟩ (fun i σ' H' _ ⟨_,_,_,m,_⟩=>SqL.of (m _ _ el (by rw [List.mem_singleton]; exact ldn))) ?_ ?_
   ·rintro i v σ' H2 hvi ⟨o6,o7,rfl,m2,gi⟩
    have hi:i<D.length:=by rw [← pw.1]; exact (List.getElem?_eq_some_iff.mp hvi).1
    obtain ⟨bk,rfl,ebk⟩:=pw.2 i v _ hvi (List.getElem?_eq_getElem hi)
    have tk:=take_not nd hi
    have dm:D[i]∈D:=List.getElem_mem hi
    have tm:∀ v,v∈D.take (i+1)↔v∈D.take i∨v=D[i]:=fun v=>take_mem hi
    generalize D[i]=x at tk dm tm ebk
    have up:∀ b xs,H b=some (.tup xs)→H2 b=some (.tup xs):=fun b xs e=>but_tup m2 noT (s1 _ _ e)
    obtain ⟨⟨kv2,ed2,hk2,hv2⟩,st2⟩:=id gi
    obtain ⟨ax,bx,x1,x2,x3⟩:=hv2 x dm
    have sx2:=st2 x dm
    dsimp only at x2 x3 sx2
    rw [if_neg tk] at x2 x3 sx2
    walk_at "rdf"
    refine rd_dgetT ed2 (up _ _ ebk) x1 ?_
    walk_at "rdf"
    refine rd_ixT (SqT.of x2) (v:=.ref bx) rfl ?_
    walk_at "rdf"
    refine rd_ixT (SqT.of (up _ _ g2)) (v:=.ref b2) rfl ?_
    walk_at "rdf"
    refine rd_eqK sx2.ok (st u hu).ok x3 (up _ _ g3) ?_
    by_cases cx:(G x).1=(G u).1
    ·rw [decide_eq_true cx]
     walk_at "rdf"
     refine rd_ixT (SqT.of (up _ _ h2)) (v:=.ref b1) rfl ?_
     walk_at "rdf"
     refine rd_ixT (SqT.of x2) (v:=.int (G x).2) rfl ?_
     walk_at "rdf"
     refine rd_I (by decide) ?_
     walk_at "rdf"
     refine ⟨by show 2≤sizeLine; decide,fun y ny=>?_⟩
     have sy:=Same.new (o:=HO.tup [V.ref b1,V.int (((G x).2+ch)%2)]) ny
     have ey:=upd_same (H:=H2) (a:=y) (o:=HO.tup [V.ref b1,V.int (((G x).2+ch)%2)])
     generalize upd H2 y (HO.tup [V.ref b1,V.int (((G x).2+ch)%2)])=H3 at sy ey ⊢
     walk_at "rdf"
     have tx:Fm.tieG G (s,u,wt) x=((G s).1,((G x).2+ch)%2):=by rw [tg,if_pos cx]
     refine ⟨d,_,rfl,DPut.t (k:=x) (sy _ _ ed2) (sy _ _ (up _ _ ebk)) (by have:=congrArg List.length hk2; rw [List.length_map] at this; exact small1000 (by omega)),?_⟩
     refine ⟨_,_,rfl,(m2.trans (sy.butL _)).upd (List.mem_singleton.mpr rfl),grp_put (b:=b1) (sy _ _ ed2) ?_ (fun v hv hne=>?_) ?_ ?_ fun v hv=>?_⟩
     ·rw [putK_keys (by rw [hk2]; exact dm)]; exact hk2
     ·obtain ⟨a',b',q1,q2,q3⟩:=hv2 v hv
      have em:(v∈D.take (i+1))=(v∈D.take i):=propext ((tm v).trans ⟨fun z=>z.elim id fun z=>absurd z hne,.inl⟩)
      unfold GE
      dsimp only at q2 q3 ⊢
      simp only [em]
      exact ⟨a',b',q1,sy _ _ q2,sy _ _ q3⟩
     ·show _=_
      rw [if_pos ((tm x).mpr (.inr rfl)),tx]; exact ey
     ·show _=_
      rw [if_pos ((tm x).mpr (.inr rfl)),tx]; exact sy _ _ (up _ _ h3)
     ·by_cases hvx:v=x
      ·subst hvx
       rw [if_pos ((tm _).mpr (.inr rfl)),tx]; exact st s hs
      ·have em:(v∈D.take (i+1))=(v∈D.take i):=propext ((tm v).trans ⟨fun z=>z.elim id fun z=>absurd z hvx,.inl⟩)
       simp only [em]
       exact st2 v hv
    ·rw [decide_eq_false cx]
     walk_at "rdf"
     refine ⟨_,_,rfl,m2,gi.congr fun v hv=>?_⟩
     by_cases hvx:v=x
     ·subst hvx
      rw [if_pos ((tm _).mpr (.inr rfl)),if_neg tk,tg,if_neg cx]
     ·have em:(v∈D.take (i+1))=(v∈D.take i):=propext ((tm v).trans ⟨fun z=>z.elim id fun z=>absurd z hvx,.inl⟩)
      simp only [em]
   ·rintro σ' H2 ⟨o6,o7,rfl,m2,gi⟩
    have ly:ys.length=D.length:=pw.1
    rw [ly,List.take_length] at gi
    refine k H2 (fun b o e n=>m2 b o (s1 _ _ e) n) (gi.congr fun v hv=>?_)
    rw [if_pos hv]
def PwF (H:Hp) (xs:List V) (fs:List Fct):Prop:=xs.length=fs.length∧∀ (i:Nat) v f,xs[i]?=some v→fs[i]?=some f→∃ a,v=.ref a∧H a=some (.tup f.vs)
theorem PwF.mono {H H':Hp} {xs:List V} {fs:List Fct} (m:Same H H') (h:PwF H xs fs):PwF H' xs fs:=⟨h.1,fun i v f h1 h2=>let ⟨a,e,q⟩:=h.2 i v f h1 h2; ⟨a,e,m _ _ q⟩⟩
theorem Same.of_but {H H' H1:Hp} {d:Addr} (s:Same H H1) (n:H d=none) (m:ButL [d] H1 H'):Same H H':=fun b o e=>m b o (s b o e) fun z=>by rw [List.mem_singleton.mp z,n] at e; cases e
end
section
variable {P:Program} {w:World} {K:PySem.W.Frag} {mg:Str→Option Value} {base:Heap} {t:Ad}
def sp_groupsof:Sp:=fun vs H Q _=>∃ (n m:Nat) (lf:Addr) (xs:List V) (fs:List Fct),vs=[.int n,.int m,.ref lf]∧n≤40∧m≤40∧H lf=some (.lst xs)∧PwF H xs fs∧(∀ f∈fs,f.inW n m) ∧
 ∀ d H',Same H H'→H d=none→GrpAt H' d (stripsD n m) (Fm.tiesG (fs.map Fct.tie) Fm.lone)→Q (.ref d) H'
theorem ok_groupsof (T:Txt K mg t):FnOk P w K mg base CX0 3 t.f_groupsof t.d_groupsof ["wide","tall","facts"] sp_groupsof:=by
 have G_lonegroups:=ok_lonegroups (P:=P) (w:=w) (base:=base) T
 have G_tie:=ok_tie (P:=P) (w:=w) (base:=base) T
 have G_factstrips:=ok_factstrips (P:=P) (w:=w) (base:=base) T
 have G_factweight:=ok_factweight (P:=P) (w:=w) (base:=base) T
 refine T.F_groupsof.ok sc_groupsof (fun vs H Q E h=>?_) (fun cdv A outer s H vs Q E hr h=>?_)
 ·obtain ⟨n,m,lf,xs,fs,rfl,_⟩:=h; rfl
 ·obtain ⟨n,m,lf,xs,fs,rfl,ln,lm,hl,pf,hin,k⟩:=h
  refine cutC (ps_set (i:=3) sc_groupsof.nd rfl (Or.inl rfl) (pe_call G_lonegroups (hr.mono (by first | decide | omega)) rfl T.mg_lonegroups T.F_lonegroups.kp T.b_lonegroups .nil pass0 (pa_cons (pv 0) (pa_cons (pv 1) pa_nil)))) fun _ _=>cutC (ps_for PassesOwn.never rfl (pi_list (pv 2)) (pg_name (i:=4) sc_groupsof.nd rfl (Or.inl rfl)) (pss_one (ps_expr (pe_call G_tie (hr.mono (by first | decide | omega)) rfl T.mg_tie T.F_tie.kp T.b_tie .nil pass0 (pa_cons (pv 3) (pa_cons (pe_call G_factstrips (hr.mono (by first | decide | omega)) rfl T.mg_factstrips T.F_factstrips.kp T.b_factstrips .nil pass0 (pa_cons (pv 4) pa_nil)) (pa_cons (pe_call G_factweight (hr.mono (by first | decide | omega)) rfl T.mg_factweight T.F_factweight.kp T.b_factweight .nil pass0 (pa_cons (pv 4) pa_nil)) pa_nil))))))) fun _ _=>cutE (ps_ret (pv 3)) fun _ _=>?_
  walk_at "rdf"
  refine ⟨n,m,rfl,ln,lm,fun d H1 s1 nd g1=>?_⟩
  walk_at "rdf"
  refine ⟨⟨_,SqL.of (s1 _ _ hl)⟩,?_⟩
  refine forW_list (K:=K) (a:=lf) (xs:=xs) (fun i σ' H'=>∃ o4:Option V,σ'=[some (.int n),some (.int m),some (.ref lf),some (.ref d),o4]∧Same H H'∧GrpAt H' d (stripsD n m) (Fm.tiesG ((fs.take i).map Fct.tie) Fm.lone))
   ⟨none,rfl,s1,g1⟩ (fun i σ' H' _ ⟨_,_,z,_⟩=>SqL.of (z _ _ hl)) ?_ ?_
  ·rintro i v σ' H2 hv ⟨o4,rfl,s2,g2⟩
   have hi:i<fs.length:=by rw [← pf.1]; exact (List.getElem?_eq_some_iff.mp hv).1
   obtain ⟨p,rfl,hp⟩:=pf.2 i v _ hv (List.getElem?_eq_getElem hi)
   have fi:=hin _ (List.getElem_mem hi)
   have ft:(fs.take (i+1)).map Fct.tie=(fs.take i).map Fct.tie++[fs[i].tie]:=by rw [List.take_add_one,List.getElem?_eq_getElem hi,List.map_append]; rfl
   have tg:∀ G,Fm.tiesG ((fs.take i).map Fct.tie++[fs[i].tie]) G=Fm.tieG (Fm.tiesG ((fs.take i).map Fct.tie) G) fs[i].tie:=fun G=>by unfold Fm.tiesG; rw [List.foldl_append]; rfl
   rw [ft,tg]
   generalize fs[i]=f at hp fi
   have fd:=Fct.inD fi
   generalize Fm.tiesG ((fs.take i).map Fct.tie) Fm.lone=G at g2
   walk_at "rdf"
   refine ⟨p,f,rfl,s2 _ _ hp,fun T1 a b H3 s3 pr=>?_⟩
   walk_at "rdf"
   refine ⟨p,f,n,m,rfl,s3 _ _ (s2 _ _ hp),fi,by omega,by omega,?_⟩
   walk_at "rdf"
   refine ⟨d,T1,a,b,_,G,_,_,_,rfl,g2.mono s3,stripsD_nodup n m,by rw [stripsD_len]; omega,pr,fd.1,fd.2,fun H4 m4 g4=>?_⟩
   walk_at "rdf"
   exact ⟨_,rfl,Same.of_but (s2.trans s3) nd m4,g4⟩
  ·rintro σ' H2 ⟨o4,rfl,s2,g2⟩
   rw [List.take_of_length_le (by rw [pf.1]; exact Nat.le_refl _)] at g2
   walk_at "rdf"
   exact k d H2 s2 nd g2
end
section
variable {P:Program} {w:World} {K:PySem.W.Frag} {mg:Str→Option Value} {base:Heap} {t:Ad}
theorem putF_len {f:Str} {v:V}:∀ {fs:List (Str×V)},(fs.lookup f).isSome=true→(putF f v fs).length=fs.length
 | [],h=>by cases h
 | (g,x)::r,h=>by
  unfold putF
  by_cases e:g=f
  ·rw [if_pos e]; rfl
  ·rw [if_neg e,List.length_cons,List.length_cons,putF_len (fs:=r) ?_]
   have hb:(f==g)=false:=beq_eq_false_iff_ne.mpr fun z=>e z.symm
   simpa only [List.lookup,hb] using h
abbrev NoFF (m:Str):Prop:=((¬ m="columns_count")∧¬ m="rows_count")∧(¬ m="facts")∧(¬ m="next_number")∧¬ m="groups"
structure FL (fs:List (Str×V)) (wd ht:Int) (df:Addr) (n:Int) (dg:Addr):Prop where
 w:fs.lookup ("columns_count":Str)=some (.int wd)
 h:fs.lookup ("rows_count":Str)=some (.int ht)
 f:fs.lookup ("facts":Str)=some (.ref df)
 n:fs.lookup ("next_number":Str)=some (.int n)
 g:fs.lookup ("groups":Str)=some (.ref dg)
 no:∀ m,NoFF m→fs.lookup m=none
 len:fs.length≤5
theorem FL.next {fs:List (Str×V)} {wd ht n n':Int} {df dg:Addr} (h:FL fs wd ht df n dg):FL (putF "next_number" (.int n') fs) wd ht df n' dg where
 w:=by rw [lookup_putF,if_neg (by decide +kernel)]; exact h.w
 h:=by rw [lookup_putF,if_neg (by decide +kernel)]; exact h.h
 f:=by rw [lookup_putF,if_neg (by decide +kernel)]; exact h.f
 n:=by rw [lookup_putF,if_pos rfl]
 g:=by rw [lookup_putF,if_neg (by decide +kernel)]; exact h.g
 no:=fun m z=>by rw [lookup_putF,if_neg z.2.2.1]; exact h.no m z
 len:=by rw [putF_len (by rw [h.n]; rfl)]; exact h.len
theorem FL.grp {fs:List (Str×V)} {wd ht n:Int} {df dg dg':Addr} (h:FL fs wd ht df n dg):FL (putF "groups" (.ref dg') fs) wd ht df n dg' where
 w:=by rw [lookup_putF,if_neg (by decide +kernel)]; exact h.w
 h:=by rw [lookup_putF,if_neg (by decide +kernel)]; exact h.h
 f:=by rw [lookup_putF,if_neg (by decide +kernel)]; exact h.f
 n:=by rw [lookup_putF,if_neg (by decide +kernel)]; exact h.n
 g:=by rw [lookup_putF,if_pos rfl]
 no:=fun m z=>by rw [lookup_putF,if_neg z.2.2.2]; exact h.no m z
 len:=by rw [putF_len (by rw [h.g]; rfl)]; exact h.len
def PwN (H:Hp) (kf:List (Key×V)) (F:List (Int×Fct)):Prop:=kf.length=F.length∧∀ (i:Nat) k v nf,kf[i]?=some (k,v)→F[i]?=some nf→k=.inl nf.1∧∃ a,v=.ref a∧H a=some (.tup nf.2.vs)
structure FdAt (C:Addr) (H:Hp) (p df dg:Addr) (wd ht:Nat) (F:List (Int×Fct)) (n:Int) (G:List Key→List Key×Int):Prop where
 ob:∃ dx fs,H p=some (.ins C dx fs)∧FL fs wd ht df n dg
 fa:∃ kf,H df=some (.dK kf)∧PwN H kf F
 gr:GrpAt H dg (stripsD wd ht) G
theorem PwN.but {S:List Addr} {H H':Hp} {kf:List (Key×V)} {F:List (Int×Fct)} (h:PwN H kf F) (m:ButL S H H') (n:NoT H S):PwN H' kf F :=
 ⟨h.1,fun i k v nf h1 h2=>let ⟨e,a,q,r⟩:=h.2 i k v nf h1 h2; ⟨e,a,q,but_tup m n r⟩⟩
theorem PwN.keys {H:Hp} {kf:List (Key×V)} {F:List (Int×Fct)} (h:PwN H kf F):kf.map (·.1)=F.map fun nf=>Sum.inl nf.1:=by
 refine List.ext_getElem? fun i=>?_
 rw [List.getElem?_map,List.getElem?_map]
 cases e1:kf[i]? with
 | none =>
  have:F[i]?=none:=List.getElem?_eq_none (by rw [← h.1]; exact List.getElem?_eq_none_iff.mp e1)
  rw [this]; rfl
 | some kv =>
  have hl:i<F.length:=by rw [← h.1]; exact (List.getElem?_eq_some_iff.mp e1).1
  rw [List.getElem?_eq_getElem hl]
  obtain ⟨k,v⟩:=kv
  have:=(h.2 i k v _ e1 (List.getElem?_eq_getElem hl)).1
  simp [this]
theorem PwN.vals {H:Hp} {kf:List (Key×V)} {F:List (Int×Fct)} (h:PwN H kf F):PwF H (kf.map (·.2)) (F.map (·.2)):=by
 refine ⟨by rw [List.length_map,List.length_map,h.1],fun i v f h1 h2=>?_⟩
 rw [List.getElem?_map] at h1 h2
 obtain ⟨⟨k,v'⟩,e1,rfl⟩:=Option.map_eq_some_iff.mp h1
 obtain ⟨nf,e2,rfl⟩:=Option.map_eq_some_iff.mp h2
 exact (h.2 i k v' nf e1 e2).2
theorem FdAt.not {C:Addr} {H:Hp} {p df dg:Addr} {wd ht:Nat} {F:List (Int×Fct)} {n:Int} {G:List Key→List Key×Int} (h:FdAt C H p df dg wd ht F n G):NoT H [p,df,dg]:=fun x hx xs=>by
 obtain ⟨dx,fs,h1,_⟩:=h.ob
 obtain ⟨kf,h2,_⟩:=h.fa
 obtain ⟨kg,h3,_⟩:=h.gr.ob
 simp only [List.mem_cons,List.not_mem_nil,or_false] at hx
 rcases hx with rfl | rfl | rfl
 ·rw [h1]; intro z; cases z
 ·rw [h2]; intro z; cases z
 ·rw [h3]; intro z; cases z
theorem FdAt.lst {C:Addr} {H:Hp} {p df dg:Addr} {wd ht:Nat} {F:List (Int×Fct)} {n:Int} {G:List Key→List Key×Int} (h:FdAt C H p df dg wd ht F n G) {b:Addr} {xs:List V} (e:H b=some (.lst xs)):b∉[p,df,dg]:=fun hx=>by
 obtain ⟨dx,fs,h1,_⟩:=h.ob
 obtain ⟨kf,h2,_⟩:=h.fa
 obtain ⟨kg,h3,_⟩:=h.gr.ob
 simp only [List.mem_cons,List.not_mem_nil,or_false] at hx
 rcases hx with rfl | rfl | rfl
 ·rw [h1] at e; cases e
 ·rw [h2] at e; cases e
 ·rw [h3] at e; cases e
theorem FdAt.but {C:Addr} {S:List Addr} {H H':Hp} {p df dg:Addr} {wd ht:Nat} {F:List (Int×Fct)} {n:Int} {G:List Key→List Key×Int} (h:FdAt C H p df dg wd ht F n G) (m:ButL S H H') (nt:NoT H S) (hp:p∉S) (hf:df∉S) (hg:dg∉S):FdAt C H' p df dg wd ht F n G:=by
 obtain ⟨dx,fs,h1,fl⟩:=h.ob
 obtain ⟨kf,h2,pf⟩:=h.fa
 exact ⟨⟨dx,fs,m _ _ h1 hp,fl⟩,⟨kf,m _ _ h2 hf,pf.but m nt⟩,h.gr.but m nt hg⟩
theorem FdAt.mono {C:Addr} {H H':Hp} {p df dg:Addr} {wd ht:Nat} {F:List (Int×Fct)} {n:Int} {G:List Key→List Key×Int} (h:FdAt C H p df dg wd ht F n G) (m:Same H H'):FdAt C H' p df dg wd ht F n G :=
 h.but (m.butL []) (fun x hx=>nomatch hx) (fun z=>nomatch z) (fun z=>nomatch z) (fun z=>nomatch z)
def SzAt (C:Addr) (H:Hp) (p:Addr) (wd ht:Int):Prop:=∃ dx fs,H p=some (.ins C dx fs)∧fs.lookup ("columns_count":Str)=some (.int wd)∧fs.lookup ("rows_count":Str)=some (.int ht)∧∀ m,NoFF m→fs.lookup m=none
theorem FdAt.sz {C:Addr} {H:Hp} {p df dg:Addr} {wd ht:Nat} {F:List (Int×Fct)} {n:Int} {G:List Key→List Key×Int} (h:FdAt C H p df dg wd ht F n G):SzAt C H p wd ht:=by
 obtain ⟨dx,fs,h1,fl⟩:=h.ob
 exact ⟨dx,fs,h1,fl.w,fl.h,fl.no⟩
theorem SzAt.mono {C:Addr} {H H':Hp} {p:Addr} {wd ht:Int} (h:SzAt C H p wd ht) (m:Same H H'):SzAt C H' p wd ht:=by
 obtain ⟨dx,fs,h1,r⟩:=h
 exact ⟨dx,fs,m _ _ h1,r⟩
def sp_Findswide (C:Addr):Sp:=fun vs H Q _=>∃ (p:Addr) (wd ht:Int),vs=[.ref p]∧SzAt C H p wd ht∧Q (.int wd) H
theorem ok_Findswide (T:Txt K mg t):FnOk P w K mg base CX0 1 t.f_Findswide t.d_Findswide ["self"] (sp_Findswide t.a_Finds):=by
 refine T.F_Findswide.ok sc_Findswide (fun vs H Q E h=>?_) (fun cdv A outer s H vs Q E hr h=>?_)
 ·obtain ⟨p,wd,ht,rfl,_⟩:=h; rfl
 ·obtain ⟨p,wd,ht,rfl,⟨dx,fs,h1,h2,h3,_⟩,k⟩:=h
  refine ⟨_,(pss_one (ps_ret (pe_fldK K rfl (pv 0) rfl))),?_⟩
  walk_at "rdf"
  refine rd_fldv h1 T.cl_Finds T.naF_columns_count h2 ?_
  walk_at "rdf"
  exact k
def sp_Findstall (C:Addr):Sp:=fun vs H Q _=>∃ (p:Addr) (wd ht:Int),vs=[.ref p]∧SzAt C H p wd ht∧Q (.int ht) H
theorem ok_Findstall (T:Txt K mg t):FnOk P w K mg base CX0 1 t.f_Findstall t.d_Findstall ["self"] (sp_Findstall t.a_Finds):=by
 refine T.F_Findstall.ok sc_Findstall (fun vs H Q E h=>?_) (fun cdv A outer s H vs Q E hr h=>?_)
 ·obtain ⟨p,wd,ht,rfl,_⟩:=h; rfl
 ·obtain ⟨p,wd,ht,rfl,⟨dx,fs,h1,h2,h3,_⟩,k⟩:=h
  refine ⟨_,(pss_one (ps_ret (pe_fldK K rfl (pv 0) rfl))),?_⟩
  walk_at "rdf"
  refine rd_fldv h1 T.cl_Finds T.naF_rows_count h3 ?_
  walk_at "rdf"
  exact k
theorem blw {x b:Int}:(decide (0≤x)&&decide (x<b))=decide (0≤x∧x<b):=by
 by_cases h1:0≤x<;>by_cases h2:x<b<;>simp [h1,h2]
def spx_needcellF (C NC:Addr):Sp:=fun vs H Q E=>∃ (p:Addr) (wd ht x y:Int),vs=[.ref p,.int x,.int y]∧SzAt C H p wd ht∧((0≤x∧x<wd)∧(0≤y∧y<ht)→Q .non H)∧(¬ ((0≤x∧x<wd)∧(0≤y∧y<ht))→E (.ref NC) none H)
theorem okx_needcellF (T:Txt K mg t):FnOk P w K mg base (CX1 P w) 3 t.f_needcell t.d_needcell ["board","x","y"] (spx_needcellF t.a_Finds t.a_NoCell):=by
 have G_isbelow:=ok_isbelow (P:=P) (w:=w) (base:=base) T
 have G_Findswide:=ok_Findswide (P:=P) (w:=w) (base:=base) T
 have G_Findstall:=ok_Findstall (P:=P) (w:=w) (base:=base) T
 refine T.F_needcell.ok1 sc_needcell (fun vs H Q E h=>?_) (fun cdv A outer s H vs Q E hr h=>?_)
 ·obtain ⟨p,wd,ht,x,y,rfl,_⟩:=h; rfl
 ·obtain ⟨p,wd,ht,x,y,rfl,hz,k1,k2⟩:=h
  obtain ⟨dx,fs,h1,_,_,no⟩:=id hz
  refine ⟨_,(pss_one (ps_if (PW.pt (pw_or (pt_not (pt_val (pe_call G_isbelow.up (hr.mono (by first | decide | omega)) rfl T.mg_isbelow T.F_isbelow.kp T.b_isbelow .nil pass1 (pa_cons (pv 1) (pa_cons (pe_meth0 (pv 0) T.cl_Finds T.m_Findswide G_Findswide.up (hr.mono (by first | decide | omega)) T.b_Findswide .nil pass1) pa_nil))))) (pw_or1 (pt_not (pt_val (pe_call G_isbelow.up (hr.mono (by first | decide | omega)) rfl T.mg_isbelow T.F_isbelow.kp T.b_isbelow .nil pass1 (pa_cons (pv 2) (pa_cons (pe_meth0 (pv 0) T.cl_Finds T.m_Findstall G_Findstall.up (hr.mono (by first | decide | omega)) T.b_Findstall .nil pass1) pa_nil)))))))) (pss_one (ps_raiseK T.mg_NoCell T.x_NoCell PySem.F.excBase_ValueError rfl rfl (fun _ _ _ _ _ _ _ _ I m q=>xe_new I m q) (pa_cons pe_str pa_nil))) pss_nil)),?_⟩
  walk_at "rdf"
  refine rd_methv h1 (no _ (by decide +kernel)) ?_
  walk_at "rdf"
  refine ⟨p,wd,ht,rfl,hz,?_⟩
  walk_at "rdf"
  refine ⟨x,wd,rfl,?_⟩
  rw [blw]
  by_cases c1:0≤x∧x<wd
  ·rw [decide_eq_true c1]
   walk_at "rdf"
   refine rd_methv h1 (no _ (by decide +kernel)) ?_
   walk_at "rdf"
   refine ⟨p,wd,ht,rfl,hz,?_⟩
   walk_at "rdf"
   refine ⟨y,ht,rfl,?_⟩
   rw [blw]
   by_cases c2:0≤y∧y<ht
   ·rw [decide_eq_true c2]
    walk_at "rdf"
    exact k1 ⟨c1,c2⟩
   ·rw [decide_eq_false c2]
    walk_at "rdf"
    exact ⟨by show 1≤sizeLine; decide,k2 fun z=>c2 z.2⟩
  ·rw [decide_eq_false c1]
   walk_at "rdf"
   exact ⟨by show 1≤sizeLine; decide,k2 fun z=>c1 z.1⟩
def sdW (col:Bool) (wd ht:Int):Int:=if col=true then wd else ht
def spx_Findsneedline (C NL:Addr):Sp:=fun vs H Q E=>∃ (p:Addr) (wd ht k:Int) (wy:Str),vs=[.ref p,.str wy,.int k]∧SzAt C H p wd ht ∧
 ((∃ col,wy=wyS col∧(0≤k∧k<sdW col wd ht - 1)∧∀ H',Same H H'→Q .non H')∨(((¬ wy="col"∧¬ wy="row")∨∃ col,wy=wyS col∧¬ (0≤k∧k<sdW col wd ht - 1))∧∀ H',Same H H'→E (.ref NL) none H'))
theorem okx_Findsneedline (T:Txt K mg t):FnOk P w K mg base (CX1 P w) 3 t.f_Findsneedline t.d_Findsneedline ["self","way","k"] (spx_Findsneedline t.a_Finds t.a_NoLine):=by
 have G_isbelow:=ok_isbelow (P:=P) (w:=w) (base:=base) T
 have G_Findswide:=ok_Findswide (P:=P) (w:=w) (base:=base) T
 have G_Findstall:=ok_Findstall (P:=P) (w:=w) (base:=base) T
 refine T.F_Findsneedline.ok1 sc_Findsneedline (fun vs H Q E h=>?_) (fun cdv A outer s H vs Q E hr h=>?_)
 ·obtain ⟨p,wd,ht,k,wy,rfl,_⟩:=h; rfl
 ·obtain ⟨p,wd,ht,k,wy,rfl,hz,h⟩:=h
  refine ⟨_,(pss_cons (ps_if (pt_cmpR op_notIn_seq (pv 1) (pe_tup (pa_cons pe_str (pa_cons pe_str pa_nil))) rfl) (pss_one (ps_raiseK T.mg_NoLine T.x_NoLine PySem.F.excBase_ValueError rfl rfl (fun _ _ _ _ _ _ _ _ I m q=>xe_new I m q) (pa_cons pe_str pa_nil))) pss_nil) (pss_one (ps_if (pt_not (pt_val (pe_call G_isbelow.up (hr.mono (by first | decide | omega)) rfl T.mg_isbelow T.F_isbelow.kp T.b_isbelow .nil pass1 (pa_cons (pv 2) (pa_cons (pe_op op_sub (pe_ifExp (pt_cmpR op_eq (pv 1) pe_str (nomark _)) (pe_meth0 (pv 0) T.cl_Finds T.m_Findswide G_Findswide.up (hr.mono (by first | decide | omega)) T.b_Findswide .nil pass1) (pe_meth0 (pv 0) T.cl_Finds T.m_Findstall G_Findstall.up (hr.mono (by first | decide | omega)) T.b_Findstall .nil pass1)) pe_int) pa_nil))))) (pss_one (ps_raiseK T.mg_NoLine T.x_NoLine PySem.F.excBase_ValueError rfl rfl (fun _ _ _ _ _ _ _ _ I m q=>xe_new I m q) (pa_cons pe_str pa_nil))) pss_nil))),?_⟩
  walk_at "rdf"
  refine ⟨by show 2≤sizeLine; decide,fun tt ntt=>?_⟩
  have stt:=Same.new (o:=HO.tup [V.str (Str.ofString "col"),V.str (Str.ofString "row")]) ntt
  have ett:=upd_same (H:=H) (a:=tt) (o:=HO.tup [V.str (Str.ofString "col"),V.str (Str.ofString "row")])
  generalize upd H tt (HO.tup [V.str (Str.ofString "col"),V.str (Str.ofString "row")])=H1 at stt ett ⊢
  walk_at "rdf"
  obtain ⟨dx,fs,h1,_,_,no⟩:=id hz
  have h11:=stt _ _ h1
  have hz1:=hz.mono stt
  refine ⟨tt,_,rfl,.inr (SqT.of ett),rfl,rfl,?_⟩
  have hin:inV (.str wy) [V.str (Str.ofString "col"),V.str (Str.ofString "row")]=(decide (wy="col")||decide (wy="row")):=by
   unfold inV
   rw [List.any_cons,List.any_cons,List.any_nil,Bool.or_false]
   show (decide (Str.ofString "col"=wy)||decide (Str.ofString "row"=wy))=_
   rw [decide_eq_decide.mpr (eq_comm (a:=Str.ofString "col")),decide_eq_decide.mpr (eq_comm (a:=Str.ofString "row"))]
  rw [hin,if_pos rfl]
  have fin:∀ (col:Bool),wy=wyS col→(0≤k∧k<sdW col wd ht - 1→Q .non H1)→(¬ (0≤k∧k<sdW col wd ht - 1)→E (.ref t.a_NoLine) none H1)→(decide (wy="col")||decide (wy="row"))=true∧((0≤k∧k<sdW col wd ht - 1→Q .non H1)∧(¬ (0≤k∧k<sdW col wd ht - 1)→E (.ref t.a_NoLine) none H1)):=fun col e a b=>by
   refine ⟨?_,a,b⟩
   rw [e]; cases col<;>decide +kernel
  have cs:(∃ col,wy=wyS col∧(0≤k∧k<sdW col wd ht - 1→Q .non H1)∧(¬ (0≤k∧k<sdW col wd ht - 1)→E (.ref t.a_NoLine) none H1))∨(¬ wy="col"∧¬ wy="row")∧E (.ref t.a_NoLine) none H1:=by
   rcases h with ⟨col,e,hk,q⟩ | ⟨n | ⟨col,e,hk⟩,q⟩
   ·exact .inl ⟨col,e,fun _=>q _ stt,fun z=>absurd hk z⟩
   ·exact .inr ⟨n,q _ stt⟩
   ·exact .inl ⟨col,e,fun z=>absurd z hk,fun _=>q _ stt⟩
  rcases cs with ⟨col,e,q1,q2⟩ | ⟨⟨n1,n2⟩,q⟩
  ·rw [(fin col e q1 q2).1]
   subst e
   walk_at "rdf"
   rw [wy_col]
   cases col with
   | true =>
    walk_at "rdf"
    refine rd_methv h11 (no _ (by decide +kernel)) ?_
    walk_at "rdf"
    refine ⟨p,wd,ht,rfl,hz1,?_⟩
    walk_at "rdf"
    refine ⟨k,wd - 1,rfl,?_⟩
    rw [blw]
    by_cases c:0≤k∧k<wd - 1
    ·rw [decide_eq_true c]
     walk_at "rdf"
     exact q1 c
    ·rw [decide_eq_false c]
     walk_at "rdf"
     exact ⟨by show 1≤sizeLine; decide,q2 c⟩
   | false =>
    walk_at "rdf"
    refine rd_methv h11 (no _ (by decide +kernel)) ?_
    walk_at "rdf"
    refine ⟨p,wd,ht,rfl,hz1,?_⟩
    walk_at "rdf"
    refine ⟨k,ht - 1,rfl,?_⟩
    rw [blw]
    by_cases c:0≤k∧k<ht - 1
    ·rw [decide_eq_true c]
     walk_at "rdf"
     exact q1 c
    ·rw [decide_eq_false c]
     walk_at "rdf"
     exact ⟨by show 1≤sizeLine; decide,q2 c⟩
  ·rw [decide_eq_false n1,decide_eq_false n2]
   walk_at "rdf"
   exact ⟨by show 1≤sizeLine; decide,q⟩
def Fct.no (NC BB NL NS:Addr) (wd ht:Int):Fct→Option Addr
 | .cell x y c=>if (0≤x∧x<wd)∧(0≤y∧y<ht) then (if isBit c=true then none else some BB) else some NC
 | .line col k s _=>if 0≤k∧k<sdW col wd ht - 1 then (if 0≤s∧s<sdW col ht wd then none else some NS) else some NL
theorem isBit_iff {c:Int}:isBit c=true↔c=0∨c=1:=by
 unfold isBit
 rw [Bool.and_eq_true,decide_eq_true_eq,decide_eq_true_eq]; omega
theorem Fct.no_iff {NC BB NL NS:Addr} {wd ht:Int} {f:Fct}:f.no NC BB NL NS wd ht=none↔f.inW wd ht:=by
 cases f with
 | cell x y c =>
  show (if (0≤x∧x<wd)∧(0≤y∧y<ht) then (if isBit c=true then none else some BB) else some NC)=none↔(0≤x∧x<wd)∧(0≤y∧y<ht)∧(c=0∨c=1)
  by_cases h:(0≤x∧x<wd)∧(0≤y∧y<ht)
  ·rw [if_pos h]
   by_cases hb:isBit c=true
   ·rw [if_pos hb]; exact ⟨fun _=>⟨h.1,h.2,isBit_iff.mp hb⟩,fun _=>rfl⟩
   ·rw [if_neg hb]; exact ⟨(fun z=>nomatch z),fun z=>absurd (isBit_iff.mpr z.2.2) hb⟩
  ·rw [if_neg h]; exact ⟨(fun z=>nomatch z),fun z=>absurd ⟨z.1,z.2.1⟩ h⟩
 | line col k s b =>
  cases col<;>simp only [Fct.no,Fct.inW,sdW,if_true,if_false,Bool.false_eq_true]
  ·by_cases h:0≤k∧k<ht - 1
   ·rw [if_pos h]
    by_cases g:0≤s∧s<wd
    ·rw [if_pos g]; exact ⟨fun _=>⟨h,g⟩,fun _=>rfl⟩
    ·rw [if_neg g]; exact ⟨(fun z=>nomatch z),fun z=>absurd z.2 g⟩
   ·rw [if_neg h]; exact ⟨(fun z=>nomatch z),fun z=>absurd z.1 h⟩
  ·by_cases h:0≤k∧k<wd - 1
   ·rw [if_pos h]
    by_cases g:0≤s∧s<ht
    ·rw [if_pos g]; exact ⟨fun _=>⟨h,g⟩,fun _=>rfl⟩
    ·rw [if_neg g]; exact ⟨(fun z=>nomatch z),fun z=>absurd z.2 g⟩
   ·rw [if_neg h]; exact ⟨(fun z=>nomatch z),fun z=>absurd z.1 h⟩
def spx_Findsneedfact (C NC BB NL NS:Addr):Sp:=fun vs H Q E=>∃ (p a:Addr) (wd ht:Int) (f:Fct),vs=[.ref p,.ref a]∧SzAt C H p wd ht∧H a=some (.tup f.vs) ∧
 (f.no NC BB NL NS wd ht=none→∀ H',Same H H'→Q .non H')∧∀ X,f.no NC BB NL NS wd ht=some X→∀ H',Same H H'→E (.ref X) none H'
theorem okx_Findsneedfact (T:Txt K mg t):FnOk P w K mg base (CX1 P w) 4 t.f_Findsneedfact t.d_Findsneedfact ["self","fact"] (spx_Findsneedfact t.a_Finds t.a_NoCell t.a_BadBit t.a_NoLine t.a_NoStep):=by
 have G_isbelow:=ok_isbelow (P:=P) (w:=w) (base:=base) T
 have G_isbit:=ok_isbit (P:=P) (w:=w) (base:=base) T
 have G_Findswide:=ok_Findswide (P:=P) (w:=w) (base:=base) T
 have G_Findstall:=ok_Findstall (P:=P) (w:=w) (base:=base) T
 have GX_needcell:=okx_needcellF (P:=P) (w:=w) (base:=base) T
 have GX_Findsneedline:=okx_Findsneedline (P:=P) (w:=w) (base:=base) T
 refine T.F_Findsneedfact.ok1 sc_Findsneedfact (fun vs H Q E h=>?_) (fun cdv A outer s H vs Q E hr h=>?_)
 ·obtain ⟨p,a,wd,ht,f,rfl,_⟩:=h; rfl
 ·obtain ⟨p,a,wd,ht,f,rfl,hz,ha,k1,k2⟩:=h
  obtain ⟨dx,fs,h1,_,_,no⟩:=id hz
  refine cutC (ps_if (pt_cmpR op_eq (pe_ix (ix_tupK K rfl) (pv 1) pe_int (fun _ _=>rfl)) pe_str (nomark _)) (pss_cons (ps_expr (pe_call GX_needcell (hr.mono (by first | decide | omega)) rfl T.mg_needcell T.F_needcell.kp T.b_needcell .nil pass1 (pa_cons (pv 0) (pa_cons (pe_ix (ix_tupK K rfl) (pv 1) pe_int (fun _ _=>rfl)) (pa_cons (pe_ix (ix_tupK K rfl) (pv 1) pe_int (fun _ _=>rfl)) pa_nil))))) (pss_cons (ps_if (pt_not (pt_val (pe_call G_isbit.up (hr.mono (by first | decide | omega)) rfl T.mg_isbit T.F_isbit.kp T.b_isbit .nil pass1 (pa_cons (pe_ix (ix_tupK K rfl) (pv 1) pe_int (fun _ _=>rfl)) pa_nil)))) (pss_one (ps_raiseK T.mg_BadBit T.x_BadBit PySem.F.excBase_ValueError rfl rfl (fun _ _ _ _ _ _ _ _ I m q=>xe_new I m q) (pa_cons pe_str pa_nil))) pss_nil) (pss_one ps_retN))) pss_nil) fun _ _=>cutC (ps_expr (pe_meth (pv 0) T.cl_Finds T.m_Findsneedline GX_Findsneedline (hr.mono (by first | decide | omega)) T.b_Findsneedline .nil pass1 (pa_cons (pe_ix (ix_tupK K rfl) (pv 1) pe_int (fun _ _=>rfl)) (pa_cons (pe_ix (ix_tupK K rfl) (pv 1) pe_int (fun _ _=>rfl)) pa_nil)))) fun _ _=>cutE (ps_if (pt_not (pt_val (pe_call G_isbelow.up (hr.mono (by first | decide | omega)) rfl T.mg_isbelow T.F_isbelow.kp T.b_isbelow .nil pass1 (pa_cons (pe_ix (ix_tupK K rfl) (pv 1) pe_int (fun _ _=>rfl)) (pa_cons (pe_ifExp (pt_cmpR op_eq (pe_ix (ix_tupK K rfl) (pv 1) pe_int (fun _ _=>rfl)) pe_str (nomark _)) (pe_meth0 (pv 0) T.cl_Finds T.m_Findstall G_Findstall.up (hr.mono (by first | decide | omega)) T.b_Findstall .nil pass1) (pe_meth0 (pv 0) T.cl_Finds T.m_Findswide G_Findswide.up (hr.mono (by first | decide | omega)) T.b_Findswide .nil pass1)) pa_nil))))) (pss_one (ps_raiseK T.mg_NoStep T.x_NoStep PySem.F.excBase_ValueError rfl rfl (fun _ _ _ _ _ _ _ _ I m q=>xe_new I m q) (pa_cons pe_str pa_nil))) pss_nil) fun _ _=>?_
  cases f with
  | cell x y c =>
   dsimp only [Fct.no] at k1 k2
   walk_at "rdf"
   refine rd_ixT (SqT.of ha) (v:=.str "cell") rfl ?_
   walk_at "rdf"
   rw [decide_eq_true (rfl:("cell":Str)="cell")]
   walk_at "rdf"
   refine rd_ixT (SqT.of ha) (v:=.int x) rfl ?_
   walk_at "rdf"
   refine rd_ixT (SqT.of ha) (v:=.int y) rfl ?_
   walk_at "rdf"
   refine ⟨p,wd,ht,x,y,rfl,hz,fun hin=>?_,fun hin=>k2 _ (if_neg hin) _ (Same.refl _)⟩
   rw [if_pos hin] at k1 k2
   walk_at "rdf"
   refine rd_ixT (SqT.of ha) (v:=.int c) rfl ?_
   walk_at "rdf"
   refine ⟨c,rfl,?_⟩
   cases hb:isBit c with
   | true =>
    rw [if_pos hb] at k1
    walk_at "rdf"
    exact k1 rfl _ (Same.refl _)
   | false =>
    walk_at "rdf"
    exact ⟨by show 1≤sizeLine; decide,k2 _ (if_neg (by rw [hb]; decide)) _ (Same.refl _)⟩
  | line col kk s b =>
   dsimp only [Fct.no] at k1 k2
   walk_at "rdf"
   refine rd_ixT (SqT.of ha) (v:=.str (wyS col)) rfl ?_
   walk_at "rdf"
   rw [wy_cell]
   walk_at "rdf"
   refine rd_methv h1 (no _ (by decide +kernel)) ?_
   walk_at "rdf"
   refine rd_ixT (SqT.of ha) (v:=.str (wyS col)) rfl ?_
   walk_at "rdf"
   refine rd_ixT (SqT.of ha) (v:=.int kk) rfl ?_
   walk_at "rdf"
   refine ⟨p,wd,ht,kk,wyS col,rfl,hz,?_⟩
   by_cases hk:0≤kk∧kk<sdW col wd ht - 1
   ·rw [if_pos hk] at k1 k2
    refine .inl ⟨col,rfl,hk,fun H1 s1=>?_⟩
    have ha1:=s1 _ _ ha
    have h11:=s1 _ _ h1
    walk_at "rdf"
    refine rd_ixT (SqT.of ha1) (v:=.int s) rfl ?_
    walk_at "rdf"
    refine rd_ixT (SqT.of ha1) (v:=.str (wyS col)) rfl ?_
    walk_at "rdf"
    rw [wy_col]
    cases col with
    | true =>
     walk_at "rdf"
     refine rd_methv h11 (no _ (by decide +kernel)) ?_
     walk_at "rdf"
     refine ⟨p,wd,ht,rfl,hz.mono s1,?_⟩
     walk_at "rdf"
     refine ⟨s,ht,rfl,?_⟩
     rw [blw]
     by_cases c:0≤s∧s<ht
     ·rw [decide_eq_true c]
      walk_at "rdf"
      exact k1 (if_pos c) _ s1
     ·rw [decide_eq_false c]
      walk_at "rdf"
      exact ⟨by show 1≤sizeLine; decide,k2 _ (if_neg c) _ s1⟩
    | false =>
     walk_at "rdf"
     refine rd_methv h11 (no _ (by decide +kernel)) ?_
     walk_at "rdf"
     refine ⟨p,wd,ht,rfl,hz.mono s1,?_⟩
     walk_at "rdf"
     refine ⟨s,wd,rfl,?_⟩
     rw [blw]
     by_cases c:0≤s∧s<wd
     ·rw [decide_eq_true c]
      walk_at "rdf"
      exact k1 (if_pos c) _ s1
     ·rw [decide_eq_false c]
      walk_at "rdf"
      exact ⟨by show 1≤sizeLine; decide,k2 _ (if_neg c) _ s1⟩
   ·refine .inr ⟨.inr ⟨col,rfl,hk⟩,fun H1 s1=>k2 _ (if_neg hk) _ s1⟩
end
section
variable {P:Program} {w:World} {K:PySem.W.Frag} {mg:Str→Option Value} {base:Heap} {t:Ad}
theorem FL.mk0 {wd ht n:Int} {df dg:Addr}:FL (putF "groups" (.ref dg) (putF "next_number" (.int n) (putF "facts" (.ref df) (putF "rows_count" (.int ht) (putF "columns_count" (.int wd) []))))) wd ht df n dg where
 w:=by rw [lookup_putF,if_neg (by decide +kernel),lookup_putF,if_neg (by decide +kernel),lookup_putF,if_neg (by decide +kernel),lookup_putF,if_neg (by decide +kernel),lookup_putF,if_pos rfl]
 h:=by rw [lookup_putF,if_neg (by decide +kernel),lookup_putF,if_neg (by decide +kernel),lookup_putF,if_neg (by decide +kernel),lookup_putF,if_pos rfl]
 f:=by rw [lookup_putF,if_neg (by decide +kernel),lookup_putF,if_neg (by decide +kernel),lookup_putF,if_pos rfl]
 n:=by rw [lookup_putF,if_neg (by decide +kernel),lookup_putF,if_pos rfl]
 g:=by rw [lookup_putF,if_pos rfl]
 no:=fun m z=>by
  obtain ⟨⟨z1,z2⟩,z3,z4,z5⟩:=z
  rw [lookup_putF,if_neg z5,lookup_putF,if_neg z4,lookup_putF,if_neg z3,lookup_putF,if_neg z2,lookup_putF,if_neg z1]; rfl
 len:=by
  have h1:=length_putF "groups" (.ref dg) (putF "next_number" (.int n) (putF "facts" (.ref df) (putF "rows_count" (.int ht) (putF "columns_count" (.int wd) []))))
  have h2:=length_putF "next_number" (.int n) (putF "facts" (.ref df) (putF "rows_count" (.int ht) (putF "columns_count" (.int wd) [])))
  have h3:=length_putF "facts" (.ref df) (putF "rows_count" (.int ht) (putF "columns_count" (.int wd) []))
  have h4:=length_putF "rows_count" (.int ht) (putF "columns_count" (.int wd) [])
  have h5:=length_putF "columns_count" (.int wd) []
  rw [List.length_nil] at h5
  omega
def spx_FindsInit (C BS:Addr):Sp:=fun vs H Q E=>∃ (p dx:Addr) (wd ht:Int),vs=[.ref p,.int wd,.int ht]∧H p=some (.ins C dx [])∧((isSide wd&&isSide ht)=false→E (.ref BS) none H) ∧
 ((isSide wd&&isSide ht)=true→∀ df dg H',ButL [p] H H'→H df=none→H dg=none→FdAt C H' p df dg wd.toNat ht.toNat [] 0 Fm.lone→Q .non H')
theorem okx_FindsInit (T:Txt K mg t):FnOk P w K mg base (CX1 P w) 4 t.f_FindsInit t.d_FindsInit ["self","wide","tall"] (spx_FindsInit t.a_Finds t.a_BadSize):=by
 have G_isside:=ok_isside (P:=P) (w:=w) (base:=base) T
 have G_lonegroups:=ok_lonegroups (P:=P) (w:=w) (base:=base) T
 refine T.F_FindsInit.ok1 sc_FindsInit (fun vs H Q E h=>?_) (fun cdv A outer s H vs Q E hr h=>?_)
 ·obtain ⟨p,dx,wd,ht,rfl,_⟩:=h; rfl
 ·obtain ⟨p,dx,wd,ht,rfl,hp,k1,k2⟩:=h
  refine cutC (ps_if (pt_not (PW.pt (pw_and (pt_val (pe_call G_isside.up (hr.mono (by first | decide | omega)) rfl T.mg_isside T.F_isside.kp T.b_isside .nil pass1 (pa_cons (pv 1) pa_nil))) (pw_and1 (pt_val (pe_call G_isside.up (hr.mono (by first | decide | omega)) rfl T.mg_isside T.F_isside.kp T.b_isside .nil pass1 (pa_cons (pv 2) pa_nil))))))) (pss_one (ps_raiseK T.mg_BadSize T.x_BadSize PySem.F.excBase_ValueError rfl rfl (fun _ _ _ _ _ _ _ _ I m q=>xe_new I m q) (pa_cons pe_str pa_nil))) pss_nil) fun _ _=>cutC (ps_fld (pv 0) (pv 1) rfl) fun _ _=>cutC (ps_fld (pv 0) (pv 2) rfl) fun _ _=>cutC (ps_fld (pv 0) pe_dnewK rfl) fun _ _=>cutC (ps_fld (pv 0) pe_int rfl) fun _ _=>cutE (ps_fld (pv 0) (pe_call G_lonegroups.up (hr.mono (by first | decide | omega)) rfl T.mg_lonegroups T.F_lonegroups.kp T.b_lonegroups .nil pass1 (pa_cons (pv 1) (pa_cons (pv 2) pa_nil))) rfl) fun _ _=>?_
  walk_at "rdf"
  refine ⟨wd,rfl,?_⟩
  cases c1:isSide wd with
  | false =>
   walk_at "rdf"
   exact ⟨by show 1≤sizeLine; decide,k1 (by rw [c1]; rfl)⟩
  | true =>
   walk_at "rdf"
   refine ⟨ht,rfl,?_⟩
   cases c2:isSide ht with
   | false =>
    walk_at "rdf"
    exact ⟨by show 1≤sizeLine; decide,k1 (by rw [c1,c2]; rfl)⟩
   | true =>
    have k2:=k2 (by rw [c1,c2]; rfl)
    have b1:0<wd∧wd<41:=by unfold isSide at c1; rw [Bool.and_eq_true,decide_eq_true_eq,decide_eq_true_eq] at c1; exact c1
    have b2:0<ht∧ht<41:=by unfold isSide at c2; rw [Bool.and_eq_true,decide_eq_true_eq,decide_eq_true_eq] at c2; exact c2
    have ew:((wd.toNat:Nat):Int)=wd:=by omega
    have eh:((ht.toNat:Nat):Int)=ht:=by omega
    walk_at "rdf"
    refine rd_sfldv hp T.cl_Finds T.naF_columns_count (by show 0<1000; decide) ?_
    have m1:ButL [p] H (upd H p (.ins t.a_Finds dx (putF (Str.ofString "columns_count") (.int wd) []))):=(ButL.refl _ _).upd List.mem_cons_self
    have e1:=upd_same (H:=H) (a:=p) (o:=.ins t.a_Finds dx (putF (Str.ofString "columns_count") (.int wd) []))
    generalize upd H p (.ins t.a_Finds dx (putF (Str.ofString "columns_count") (.int wd) []))=H1 at m1 e1 ⊢
    walk_at "rdf"
    refine rd_sfldv e1 T.cl_Finds T.naF_rows_count (Nat.lt_of_le_of_lt (length_putF _ _ _) (by show 1<1000; decide)) ?_
    generalize hfs2:putF (Str.ofString "rows_count") (.int ht) (putF (Str.ofString "columns_count") (.int wd) [])=fs2
    have l2:fs2.length≤2:=by rw [← hfs2]; exact Nat.le_trans (length_putF _ _ _) (Nat.succ_le_succ (length_putF _ _ _))
    have m2:ButL [p] H (upd H1 p (.ins t.a_Finds dx fs2)):=m1.upd List.mem_cons_self
    have e2:=upd_same (H:=H1) (a:=p) (o:=.ins t.a_Finds dx fs2)
    generalize upd H1 p (.ins t.a_Finds dx fs2)=H2 at m2 e2 ⊢
    walk_at "rdf"
    refine fun df nf=>?_
    have nf0:H df=none:=by
     cases z:H df with
     | none=>rfl
     | some o =>
      by_cases hq:df=p
      ·subst hq; rw [e2] at nf; cases nf
      ·have:=m2 df o z (by rw [List.mem_singleton]; exact hq); rw [nf] at this; cases this
    have m3:ButL [p] H (upd H2 df (.dK [])):=m2.new nf
    have e3:=Same.new (o:=HO.dK []) nf _ _ e2
    have f3:=upd_same (H:=H2) (a:=df) (o:=HO.dK [])
    generalize upd H2 df (HO.dK [])=H3 at m3 e3 f3 ⊢
    have npf:df≠p:=ne_of f3 e3 (fun z=>nomatch z)
    walk_at "rdf"
    refine rd_sfldv e3 T.cl_Finds T.naF_facts (by omega) ?_
    have m4:ButL [p] H (upd H3 p (.ins t.a_Finds dx (putF (Str.ofString "facts") (.ref df) fs2))):=m3.upd List.mem_cons_self
    have f4:upd H3 p (.ins t.a_Finds dx (putF (Str.ofString "facts") (.ref df) fs2)) df=some (.dK []):=by rw [upd_ne npf]; exact f3
    have e4:=upd_same (H:=H3) (a:=p) (o:=.ins t.a_Finds dx (putF (Str.ofString "facts") (.ref df) fs2))
    generalize upd H3 p (.ins t.a_Finds dx (putF (Str.ofString "facts") (.ref df) fs2))=H4 at m4 e4 f4 ⊢
    have l4:(putF (Str.ofString "facts") (.ref df) fs2).length≤3:=Nat.le_trans (length_putF _ _ _) (Nat.succ_le_succ l2)
    walk_at "rdf"
    refine rd_sfldv e4 T.cl_Finds T.naF_next_number (by omega) ?_
    generalize hfs5:putF (Str.ofString "next_number") (.int 0) (putF (Str.ofString "facts") (.ref df) fs2)=fs5
    have l5:fs5.length≤4:=by rw [← hfs5]; exact Nat.le_trans (length_putF _ _ _) (Nat.succ_le_succ l4)
    have m5:ButL [p] H (upd H4 p (.ins t.a_Finds dx fs5)):=m4.upd List.mem_cons_self
    have f5:upd H4 p (.ins t.a_Finds dx fs5) df=some (.dK []):=by rw [upd_ne npf]; exact f4
    have e5:=upd_same (H:=H4) (a:=p) (o:=.ins t.a_Finds dx fs5)
    generalize upd H4 p (.ins t.a_Finds dx fs5)=H5 at m5 e5 f5 ⊢
    walk_at "rdf"
    refine ⟨wd.toNat,ht.toNat,(by rw [ew,eh]; rfl),by omega,by omega,fun dg H6 s6 ng g6=>?_⟩
    have ng0:H dg=none:=by
     cases z:H dg with
     | none=>rfl
     | some o =>
      by_cases hq:dg=p
      ·subst hq; rw [e5] at ng; cases ng
      ·have:=m5 dg o z (by rw [List.mem_singleton]; exact hq); rw [ng] at this; cases this
    have e6:=s6 _ _ e5
    walk_at "rdf"
    refine rd_sfldv e6 T.cl_Finds T.naF_groups (by omega) ?_
    walk_at "rdf"
    obtain ⟨⟨kg,hg,_⟩,_⟩:=id g6
    have npg:dg≠p:=ne_of hg e6 (fun z=>nomatch z)
    have mb:ButL [p] H6 (upd H6 p (.ins t.a_Finds dx (putF (Str.ofString "groups") (.ref dg) fs5))):=(ButL.refl _ _).upd List.mem_cons_self
    have nt:NoT H6 [p]:=fun x hx xs=>by rw [List.mem_singleton.mp hx,e6]; intro z; cases z
    refine k2 df dg _ ((m5.trans (s6.butL _)).trans mb) nf0 ng0 ⟨⟨dx,_,upd_same,?_⟩,⟨[],?_,⟨rfl,fun i k v nf h1=>by simp at h1⟩⟩,g6.but mb nt (by rw [List.mem_singleton]; exact npg)⟩
    ·rw [← hfs5,← hfs2,ew,eh]; exact FL.mk0
    ·rw [upd_ne npf]; exact s6 _ _ f5
def Fct.dat:Fct→PyData
 | .cell x y c=>.tuple [.str "cell",.int x,.int y,.int c]
 | .line col k s b=>.tuple [.str (wyS col),.int k,.int s,.bool b]
theorem Fct.rep {H:Hp} {a:Addr} {f:Fct} (h:H a=some (.tup f.vs)):Rep H f.dat (.ref a):=by
 cases f with
 | cell x y c=>simp only [Fct.dat,Rep,RepL]; exact ⟨a,_,rfl,h,_,_,rfl,rfl,_,_,rfl,rfl,_,_,rfl,rfl,_,_,rfl,rfl,rfl⟩
 | line col k s b=>simp only [Fct.dat,Rep,RepL]; exact ⟨a,_,rfl,h,_,_,rfl,rfl,_,_,rfl,rfl,_,_,rfl,rfl,_,_,rfl,rfl,rfl⟩
theorem wy_ok (col:Bool):PyData.strOk (wyS col)=true:=by cases col<;>decide +kernel
theorem Fct.lay (f:Fct):f.dat.canLay0=true∧f.dat.depth≤60:=by
 cases f with
 | cell x y c=>exact ⟨by simp only [Fct.dat,PyData.canLay0,PyData.canLayAll0]; decide +kernel,by simp only [Fct.dat,PyData.depth,PyData.depthAll]; decide⟩
 | line col k s b=>exact ⟨by simp only [Fct.dat,PyData.canLay0,PyData.canLayAll0,wy_ok]; decide,by simp only [Fct.dat,PyData.depth,PyData.depthAll]; decide⟩
theorem Fct.eqv (f g:Fct):PyData.eqv f.dat g.dat=decide (f=g):=by
 have hw:∀ a b:Bool,(wyS a==wyS b)=(a==b):=by intro a b; cases a<;>cases b<;>decide +kernel
 cases f with
 | cell x y c =>
  cases g with
  | cell x' y' c' =>
   simp only [Fct.dat,PyData.eqv,PyData.eqvAll,Bool.and_true,beq_self_eq_true,Bool.true_and]
   by_cases h1:x=x'<;>by_cases h2:y=y'<;>by_cases h3:c=c'<;>simp [h1,h2,h3]
  | line col' k' s' b' =>
   simp only [Fct.dat,PyData.eqv,PyData.eqvAll]
   rw [decide_eq_false (by intro z; cases z)]
   have:(("cell":Str)==wyS col')=false:=by cases col'<;>decide +kernel
   rw [this]; rfl
 | line col k s b =>
  cases g with
  | cell x' y' c' =>
   simp only [Fct.dat,PyData.eqv,PyData.eqvAll]
   rw [decide_eq_false (by intro z; cases z)]
   have:(wyS col==("cell":Str))=false:=by cases col<;>decide +kernel
   rw [this]; rfl
  | line col' k' s' b' =>
   simp only [Fct.dat,PyData.eqv,PyData.eqvAll,Bool.and_true,hw]
   by_cases h1:col=col'<;>by_cases h2:k=k'<;>by_cases h3:s=s'<;>by_cases h4:b=b'<;>simp [h1,h2,h3,h4]
theorem repL_facts {H:Hp}:∀ {xs:List V} {fs:List Fct},PwF H xs fs→RepL H (fs.map Fct.dat) xs
 | [],[],_=>by simp only [List.map_nil,RepL]
 | [],_::_,h=>by have:=h.1; simp at this
 | _::_,[],h=>by have:=h.1; simp at this
 | x::xs,f::fs,h=>by
  simp only [List.map_cons,RepL]
  obtain ⟨a,rfl,ha⟩:=h.2 0 x f rfl rfl
  refine ⟨_,_,rfl,Fct.rep ha,repL_facts ⟨?_,fun i v g h1 h2=>h.2 (i+1) v g (by simpa using h1) (by simpa using h2)⟩⟩
  have:=h.1
  simpa using this
theorem lay_facts:∀ fs:List Fct,PyData.canLayAll0 (fs.map Fct.dat)=true
 | []=>rfl
 | f::fs=>by rw [List.map_cons,PyData.canLayAll0,f.lay.1,lay_facts fs]; rfl
theorem any_facts (fs:List Fct) (f:Fct):((fs.map Fct.dat).any fun y=>PyData.eqv y f.dat)=decide (f∈fs):=by
 rw [List.any_map]
 induction fs with
 | nil=>rfl
 | cons g fs ih =>
  rw [List.any_cons,ih]
  show (PyData.eqv g.dat f.dat||_)=_
  rw [Fct.eqv]
  rw [show decide (g=f)=decide (f=g) from decide_eq_decide.mpr eq_comm]
  by_cases h1:f=g<;>by_cases h2:f∈fs<;>simp [h1,h2]
theorem rd_inF {H:Hp} {Q:VK} {l a:Addr} {xs:List V} {fs:List Fct} {f:Fct} (hl:H l=some (.lst xs)) (pf:PwF H xs fs) (ha:H a=some (.tup f.vs)) (q:Q (.bl (decide (f∈fs))) H):rInD (.ref a) (.ref l) H Q :=
 ⟨_,_,by simp only [Rep]; exact ⟨l,xs,rfl,hl,repL_facts pf⟩,Fct.rep ha,lay_facts fs,f.lay.1,f.lay.2,by rw [any_facts]; exact q⟩
theorem PwN.snoc {H:Hp} {kf:List (Key×V)} {F:List (Int×Fct)} {n:Int} {f:Fct} {a:Addr} (h:PwN H kf F) (ha:H a=some (.tup f.vs)):PwN H (kf++[(.inl n,.ref a)]) (F++[(n,f)]):=by
 refine ⟨by rw [List.length_append,List.length_append,h.1]; rfl,fun i k v nf h1 h2=>?_⟩
 by_cases hi:i<kf.length
 ·rw [List.getElem?_append_left hi] at h1
  rw [List.getElem?_append_left (by rw [← h.1]; exact hi)] at h2
  exact h.2 i k v nf h1 h2
 ·rw [List.getElem?_append_right (by omega)] at h1
  rw [List.getElem?_append_right (by rw [← h.1]; omega),← h.1] at h2
  cases hk:i - kf.length with
  | zero =>
   rw [hk] at h1 h2
   simp only [List.getElem?_cons_zero,Option.some.injEq,Prod.mk.injEq] at h1 h2
   obtain ⟨rfl,rfl⟩:=h1
   subst h2
   exact ⟨rfl,a,rfl,ha⟩
  | succ k' => rw [hk] at h1; simp at h1
theorem PwN.tail {H:Hp} {k:Key} {v:V} {kf:List (Key×V)} {nf:Int×Fct} {F:List (Int×Fct)} (h:PwN H ((k,v)::kf) (nf::F)):(k=.inl nf.1∧∃ a,v=.ref a∧H a=some (.tup nf.2.vs))∧PwN H kf F :=
 ⟨h.2 0 k v nf rfl rfl,by have:=h.1; simpa using this,fun i k' v' nf' h1 h2=>h.2 (i+1) k' v' nf' (by simpa using h1) (by simpa using h2)⟩
theorem PwN.cons {H:Hp} {k:Key} {v:V} {kf:List (Key×V)} {nf:Int×Fct} {F:List (Int×Fct)} (h1:k=.inl nf.1∧∃ a,v=.ref a∧H a=some (.tup nf.2.vs)) (h:PwN H kf F):PwN H ((k,v)::kf) (nf::F):=by
 refine ⟨by rw [List.length_cons,List.length_cons,h.1],fun i k' v' nf' e1 e2=>?_⟩
 cases i with
 | zero =>
  simp only [List.getElem?_cons_zero,Option.some.injEq,Prod.mk.injEq] at e1 e2
  obtain ⟨rfl,rfl⟩:=e1
  subst e2
  exact h1
 | succ i=>simp only [List.getElem?_cons_succ] at e1 e2; exact h.2 i k' v' nf' e1 e2
theorem PwN.drop {H:Hp} {j:Int}:∀ {kf:List (Key×V)} {F:List (Int×Fct)},PwN H kf F→PwN H (dropK kf (.inl j)) (F.filter fun nf=>decide (nf.1≠j))
 | [],[],_=>⟨rfl,fun i k v nf h1=>by simp [dropK] at h1⟩
 | [],_::_,h=>by have:=h.1; simp at this
 | _::_,[],h=>by have:=h.1; simp at this
 | (k,v)::kf,nf::F,h=>by
  obtain ⟨h1,h2⟩:=h.tail
  have ih:=PwN.drop (j:=j) h2
  unfold dropK at ih ⊢
  rw [List.filter_cons,List.filter_cons]
  have e:decide (k≠Sum.inl j)=decide (nf.1≠j):=by
   rw [h1.1]
   exact decide_eq_decide.mpr (not_congr ⟨fun z=>by injection z,fun z=>by rw [z]⟩)
  simp only [e]
  by_cases c:nf.1≠j
  ·rw [if_pos (decide_eq_true c),if_pos (decide_eq_true c)]; exact PwN.cons h1 ih
  ·rw [if_neg (by rw [decide_eq_false c]; decide),if_neg (by rw [decide_eq_false c]; decide)]; exact ih
def outF (F:List (Int×Fct)) (j:Int):List (Int×Fct):=F.filter fun nf=>decide (nf.1≠j)
def grpF (F:List (Int×Fct)):List Key→List Key×Int:=Fm.tiesG ((F.map (·.2)).map Fct.tie) Fm.lone
end
section
variable {P:Program} {w:World} {K:PySem.W.Frag} {mg:Str→Option Value} {base:Heap} {t:Ad}
def spx_Findswithdraw (C NF:Addr):Sp:=fun vs H Q E=>∃ (p df dg:Addr) (wd ht:Nat) (F:List (Int×Fct)) (n j:Int) (G:List Key→List Key×Int),vs=[.ref p,.int j]∧FdAt C H p df dg wd ht F n G∧wd≤40∧ht≤40∧(∀ nf∈F,nf.2.inW wd ht) ∧
 (j∉F.map (·.1)→E (.ref NF) none H)∧(j∈F.map (·.1)→∀ dg' H',ButL [p,df,dg] H H'→H dg'=none→FdAt C H' p df dg' wd ht (outF F j) n (grpF (outF F j))→Q .non H')
theorem okx_Findswithdraw (T:Txt K mg t):FnOk P w K mg base (CX1 P w) 5 t.f_Findswithdraw t.d_Findswithdraw ["self","number"] (spx_Findswithdraw t.a_Finds t.a_NoFact):=by
 have G_isnumber:=ok_isnumber (P:=P) (w:=w) (base:=base) T
 have G_groupsof:=ok_groupsof (P:=P) (w:=w) (base:=base) T
 have G_Findswide:=ok_Findswide (P:=P) (w:=w) (base:=base) T
 have G_Findstall:=ok_Findstall (P:=P) (w:=w) (base:=base) T
 refine T.F_Findswithdraw.ok1 sc_Findswithdraw (fun vs H Q E h=>?_) (fun cdv A outer s H vs Q E hr h=>?_)
 ·obtain ⟨p,df,dg,wd,ht,F,n,j,G,rfl,_⟩:=h; rfl
 ·obtain ⟨p,df,dg,wd,ht,F,n,j,G,rfl,fd,lw,lh,hin,k1,k2⟩:=h
  obtain ⟨dx,fs,hp,fl⟩:=fd.ob
  obtain ⟨kf,hdf,pf⟩:=fd.fa
  have fp:df≠p:=ne_of hdf hp (fun z=>nomatch z)
  refine cutC (ps_if (PW.pt (pw_or (pt_not (pt_val (pe_call G_isnumber.up (hr.mono (by first | decide | omega)) rfl T.mg_isnumber T.F_isnumber.kp T.b_isnumber .nil pass1 (pa_cons (pv 1) pa_nil)))) (pw_or1 (pt_cmp (pc_dnotin (hu_of hr) (pv 1) (pe_fldK K rfl (pv 0) rfl)))))) (pss_one (ps_raiseK T.mg_NoFact T.x_NoFact PySem.F.excBase_ValueError rfl rfl (fun _ _ _ _ _ _ _ _ I m q=>xe_new I m q) (pa_cons pe_str pa_nil))) pss_nil) fun _ _=>cutC (ps_expr (pe_dpop1 (pe_fldK K rfl (pv 0) rfl) (pv 1) ⟨rfl,rfl,rfl,rfl⟩)) fun _ _=>cutE (ps_fld (pv 0) (pe_call G_groupsof.up (hr.mono (by first | decide | omega)) rfl T.mg_groupsof T.F_groupsof.kp T.b_groupsof .nil pass1 (pa_cons (pe_meth0 (pv 0) T.cl_Finds T.m_Findswide G_Findswide.up (hr.mono (by first | decide | omega)) T.b_Findswide .nil pass1) (pa_cons (pe_meth0 (pv 0) T.cl_Finds T.m_Findstall G_Findstall.up (hr.mono (by first | decide | omega)) T.b_Findstall .nil pass1) (pa_cons (pe_callTy (cI_listV rfl) rfl T.no_list (by rfl) (pa_cons (pe_bm0 PySem.F.plainAttrs_dict PySem.F.slot_dict_values PySem.F.type_dict_values mt_values (pe_fldK K rfl (pv 0) rfl)) pa_nil)) pa_nil)))) rfl) fun _ _=>?_
  walk_at "rdf"
  refine ⟨j,rfl,?_⟩
  walk_at "rdf"
  refine rd_fldv hp T.cl_Finds T.naF_facts fl.f ?_
  walk_at "rdf"
  refine ⟨df,_,rfl,DGet.k (k:=.inl j) hdf,?_⟩
  have hmem:(valV kf (.inl j)).isSome=true↔j∈F.map (·.1):=by
   rw [valV_mem,pf.keys]
   constructor
   ·intro z
    obtain ⟨nf,hm,e⟩:=List.mem_map.mp z
    injection e with e
    exact List.mem_map.mpr ⟨nf,hm,e⟩
   ·intro z
    obtain ⟨nf,hm,e⟩:=List.mem_map.mp z
    exact List.mem_map.mpr ⟨nf,hm,by rw [e]⟩
  cases hv:valV kf (.inl j) with
  | none =>
   walk_at "rdf"
   exact ⟨by show 1≤sizeLine; decide,k1 fun z=>by have:=hmem.mpr z; rw [hv] at this; cases this⟩
  | some v =>
   have k2:=k2 (hmem.mp (by rw [hv]; rfl))
   rw [Option.isSome_some]
   walk_at "rdf"
   refine rd_fldv hp T.cl_Finds T.naF_facts fl.f ?_
   refine rd_isDK hdf ?_
   walk_at "rdf"
   refine ⟨kf,.inl j,v,hdf,rfl,hv,?_⟩
   have e1:=upd_same (H:=H) (a:=df) (o:=HO.dK (dropK kf (.inl j)))
   have hp1:upd H df (HO.dK (dropK kf (.inl j))) p=some (.ins t.a_Finds dx fs):=by rw [upd_ne fp.symm]; exact hp
   have m1:ButL [p,df] H (upd H df (HO.dK (dropK kf (.inl j)))):=(ButL.refl _ _).upd (by simp)
   generalize upd H df (HO.dK (dropK kf (.inl j)))=H1 at e1 hp1 m1 ⊢
   have nt0:NoT H [p,df]:=fun x hx=>fd.not x (by simp only [List.mem_cons,List.not_mem_nil,or_false] at hx ⊢; rcases hx with z | z<;>simp [z])
   have pf1:=(pf.drop (j:=j)).but m1 nt0
   have sz1:SzAt t.a_Finds H1 p wd ht:=⟨dx,fs,hp1,fl.w,fl.h,fl.no⟩
   walk_at "rdf"
   refine rd_methv hp1 (fl.no _ (by decide +kernel)) ?_
   walk_at "rdf"
   refine ⟨p,wd,ht,rfl,sz1,?_⟩
   walk_at "rdf"
   refine rd_methv hp1 (fl.no _ (by decide +kernel)) ?_
   walk_at "rdf"
   refine ⟨p,wd,ht,rfl,sz1,?_⟩
   walk_at "rdf"
   refine rd_fldv hp1 T.cl_Finds T.naF_facts fl.f ?_
   walk_at "rdf"
   refine rd_bmD e1 ?_
   refine rd_viewv e1 fun v nv=>?_
   have sv:=Same.new (o:=ViewO "dict_values" v df) nv
   have ev:=upd_same (H:=H1) (a:=v) (o:=ViewO "dict_values" v df)
   generalize upd H1 v (ViewO "dict_values" v df)=H2 at sv ev ⊢
   walk_at "rdf"
   refine rd_listV ev (sv _ _ e1) fun l nl=>?_
   have sl:=Same.new (o:=HO.lst ((dropK kf (.inl j)).map (·.2))) nl
   have el:=upd_same (H:=H2) (a:=l) (o:=HO.lst ((dropK kf (.inl j)).map (·.2)))
   generalize upd H2 l (HO.lst ((dropK kf (.inl j)).map (·.2)))=H3 at sl el ⊢
   have s3:=sv.trans sl
   walk_at "rdf"
   refine ⟨wd,ht,l,_,(outF F j).map (·.2),rfl,lw,lh,el,pf1.vals.mono s3,fun f hf=>?_,fun dg' H4 s4 ng g4=>?_⟩
   ·obtain ⟨nf,hm,rfl⟩:=List.mem_map.mp hf
    exact hin nf (List.mem_filter.mp hm).1
   ·have s4:=s3.trans s4
    have hp4:=s4 _ _ hp1
    have ng1:H dg'=none:=by
     have z1:=(sv.trans sl).free ng
     cases z:H dg' with
     | none=>rfl
     | some o =>
      by_cases hq:dg'∈[p,df]
      ·simp only [List.mem_cons,List.not_mem_nil,or_false] at hq
       rcases hq with rfl | rfl
       ·rw [hp1] at z1; cases z1
       ·rw [e1] at z1; cases z1
      ·have:=m1 dg' o z hq; rw [z1] at this; cases this
    walk_at "rdf"
    refine rd_sfldv hp4 T.cl_Finds T.naF_groups (by have:=fl.len; omega) ?_
    walk_at "rdf"
    obtain ⟨⟨kg,hkg,_⟩,_⟩:=id g4
    have pdg:dg'≠p:=ne_of hkg hp4 (fun z=>nomatch z)
    have m5:ButL [p] H4 (upd H4 p (.ins t.a_Finds dx (putF (Str.ofString "groups") (.ref dg') fs))):=(ButL.refl _ _).upd (by simp)
    have nt4:NoT H4 [p]:=fun x hx xs=>by rw [List.mem_singleton.mp hx,hp4]; intro z; cases z
    refine k2 dg' _ (fun b o e nb=>m5 b o (s4 _ _ (m1 b o e (fun z=>nb (by simp only [List.mem_cons,List.not_mem_nil,or_false] at z ⊢; rcases z with z | z<;>simp [z])))) (fun z=>nb (by rw [List.mem_singleton.mp z]; simp))) ng1 ⟨⟨dx,_,upd_same,fl.grp⟩,⟨_,(by rw [upd_ne fp]; exact s4 _ _ e1),(pf1.but (s4.butL []) (fun x hx=>nomatch hx)).but m5 nt4⟩,g4.but m5 nt4 (by rw [List.mem_singleton]; exact pdg)⟩
end
section
variable {P:Program} {w:World} {K:PySem.W.Frag} {mg:Str→Option Value} {base:Heap} {t:Ad}
def endsT (nf:Int×Fct) (s:List Key):List (List Key×Int):=(if nf.2.tie.1=s then [(nf.2.tie.2.1,nf.1)] else [])++(if nf.2.tie.2.1=s then [(nf.2.tie.1,nf.1)] else [])
def tiesT (F:List (Int×Fct)) (s:List Key):List (List Key×Int):=F.flatMap fun nf=>endsT nf s
def PrN (H:Hp) (v:V) (q:List Key×Int):Prop:=∃ b a,v=.ref b∧H b=some (.tup [.ref a,.int q.2])∧H a=some (.tup (q.1.map kV))
theorem PrN.but {S:List Addr} {H H':Hp} {v:V} {q:List Key×Int} (h:PrN H v q) (m:ButL S H H') (n:NoT H S):PrN H' v q:=by
 obtain ⟨b,a,e,h1,h2⟩:=h
 exact ⟨b,a,e,but_tup m n h1,but_tup m n h2⟩
def PwPN (H:Hp) (xs:List V) (ps:List (List Key×Int)):Prop:=xs.length=ps.length∧∀ (i:Nat) v q,xs[i]?=some v→ps[i]?=some q→PrN H v q
theorem PwPN.but {S:List Addr} {H H':Hp} {xs:List V} {ps:List (List Key×Int)} (h:PwPN H xs ps) (m:ButL S H H') (n:NoT H S):PwPN H' xs ps:=⟨h.1,fun i v q e1 e2=>(h.2 i v q e1 e2).but m n⟩
theorem PwPN.snoc {H:Hp} {xs:List V} {ps:List (List Key×Int)} {v:V} {q:List Key×Int} (h:PwPN H xs ps) (hv:PrN H v q):PwPN H (xs++[v]) (ps++[q]):=by
 refine ⟨by rw [List.length_append,List.length_append,h.1]; rfl,fun i u r h1 h2=>?_⟩
 by_cases hi:i<xs.length
 ·rw [List.getElem?_append_left hi] at h1
  rw [List.getElem?_append_left (by rw [← h.1]; exact hi)] at h2
  exact h.2 i u r h1 h2
 ·rw [List.getElem?_append_right (by omega)] at h1
  rw [List.getElem?_append_right (by rw [← h.1]; omega),← h.1] at h2
  cases hk:i - xs.length with
  | zero =>
   rw [hk] at h1 h2
   simp only [List.getElem?_cons_zero,Option.some.injEq] at h1 h2
   subst h1 h2
   exact hv
  | succ k' => rw [hk] at h1; simp at h1
structure TyAt (H0 H:Hp) (d:Addr) (M:List Key→List (List Key×Int)) (n:Nat):Prop where
 nd:H0 d=none
 ob:∃ kvs:List (List Key×V),H d=some (.dT kvs)∧kvs.length≤n∧(∀ s,valV kvs s=none→M s=[])∧(∀ s v,valV kvs s=some v→∃ l xs,v=.ref l∧l≠d∧H0 l=none∧H l=some (.lst xs)∧PwPN H xs (M s))∧∀ s s' v,valV kvs s=some v→valV kvs s'=some v→s=s'
theorem TyAt.new {H0 H:Hp} {d:Addr} (n:H0 d=none) (e:H d=some (.dT [])):TyAt H0 H d (fun _=>[]) 0 :=
 ⟨n,[],e,Nat.le_refl _,fun _ _=>rfl,fun s v h=>(by cases h),fun s s' v h=>(by cases h)⟩
theorem TyAt.but {H0 H H':Hp} {S:List Addr} {d:Addr} {M:List Key→List (List Key×Int)} {n:Nat} (h:TyAt H0 H d M n) (m:ButL S H H') (nt:NoT H S) (hS:∀ x∈S,∃ o,H0 x=some o):TyAt H0 H' d M n:=by
 obtain ⟨kvs,h1,h2,h3,h4,h5⟩:=h.ob
 have out:∀ {x:Addr},H0 x=none→x∉S:=fun {x} hx hm=>by
  obtain ⟨o,ho⟩:=hS x hm
  rw [hx] at ho; cases ho
 refine ⟨h.nd,kvs,m _ _ h1 (out h.nd),h2,h3,fun s v hv=>?_,h5⟩
 obtain ⟨l,xs,e,q1,q2,q3,q5⟩:=h4 s v hv
 exact ⟨l,xs,e,q1,q2,m _ _ q3 (out q2),q5.but m nt⟩
theorem TyAt.mono {H0 H H':Hp} {d:Addr} {M:List Key→List (List Key×Int)} {n:Nat} (h:TyAt H0 H d M n) (m:Same H H'):TyAt H0 H' d M n :=
 h.but (m.butL []) (fun x hx=>nomatch hx) (fun x hx=>nomatch hx)
theorem TyAt.le {H0 H:Hp} {d:Addr} {M:List Key→List (List Key×Int)} {n m:Nat} (h:TyAt H0 H d M n) (hm:n≤m):TyAt H0 H d M m :=
 let ⟨kvs,h1,h2,h3⟩:=h.ob; ⟨h.nd,kvs,h1,Nat.le_trans h2 hm,h3⟩
def addM (M:List Key→List (List Key×Int)) (k:List Key) (q:List Key×Int):List Key→List (List Key×Int):=fun s=>if s=k then M s++[q] else M s
theorem TyAt.add {H0 H:Hp} {d l b:Addr} {M:List Key→List (List Key×Int)} {n:Nat} {kvs:List (List Key×V)} {k:List Key} {q:List Key×Int} {xs:List V} (h:TyAt H0 H d M n) (e:H d=some (.dT kvs)) (hv:valV kvs k=some (.ref l)) (hl:H l=some (.lst xs)) (hb:PrN H (.ref b) q):TyAt H0 (L2.upd H l (.lst (xs++[.ref b]))) d (addM M k q) n:=by
 obtain ⟨kvs',h1,h2,h3,h4,h5⟩:=h.ob
 rw [e] at h1
 cases h1
 have mb:ButL [l] H (L2.upd H l (.lst (xs++[.ref b]))):=(ButL.refl _ _).upd (by simp)
 have nt:NoT H [l]:=fun x hx ys=>by rw [List.mem_singleton.mp hx,hl]; intro z; cases z
 obtain ⟨l',xs',e',q1,q2,q3,q5⟩:=h4 k _ hv
 cases e'
 rw [hl] at q3
 cases q3
 refine ⟨h.nd,kvs,by rw [upd_ne q1.symm]; exact e,h2,fun s hs=>?_,fun s v hs=>?_,h5⟩
 ·unfold addM
  rw [if_neg (fun z=>by rw [z,hv] at hs; cases hs)]
  exact h3 s hs
 ·unfold addM
  by_cases hk:s=k
  ·subst hk
   rw [hv] at hs
   cases hs
   rw [if_pos rfl]
   exact ⟨l,_,rfl,q1,q2,upd_same,(q5.but mb nt).snoc (hb.but mb nt)⟩
  ·rw [if_neg hk]
   obtain ⟨l2,xs2,e2,r1,r2,r3,r5⟩:=h4 s v hs
   have:l2≠l:=fun z=>hk (h5 s k v hs (by rw [hv,e2,z]))
   exact ⟨l2,xs2,e2,r1,r2,by rw [upd_ne this]; exact r3,r5.but mb nt⟩
theorem TyAt.put {H0 H:Hp} {d l:Addr} {M:List Key→List (List Key×Int)} {n:Nat} {kvs:List (List Key×V)} {k:List Key} (h:TyAt H0 H d M n) (e:H d=some (.dT kvs)) (hv:valV kvs k=none) (hl:H l=some (.lst [])) (n0:H0 l=none) (nd:l≠d) (fr:∀ s v,valV kvs s=some v→v≠.ref l):TyAt H0 (L2.upd H d (.dT (putK kvs k (.ref l)))) d M (n+1):=by
 obtain ⟨kvs',h1,h2,h3,h4,h5⟩:=h.ob
 rw [e] at h1
 cases h1
 have mb:ButL [d] H (L2.upd H d (.dT (putK kvs k (.ref l)))):=(ButL.refl _ _).upd (by simp)
 have nt:NoT H [d]:=fun x hx ys=>by rw [List.mem_singleton.mp hx,e]; intro z; cases z
 refine ⟨h.nd,_,upd_same,by have:=length_putK kvs k (.ref l); omega,fun s hs=>?_,fun s v hs=>?_,fun s s' v h1 h2=>?_⟩
 ·rw [valV_put] at hs
  by_cases hk:s=k
  ·rw [if_pos hk] at hs; cases hs
  ·rw [if_neg hk] at hs; exact h3 s hs
 ·rw [valV_put] at hs
  by_cases hk:s=k
  ·rw [if_pos hk] at hs
   cases hs
   subst hk
   exact ⟨l,[],rfl,nd,n0,by rw [upd_ne nd]; exact hl,by rw [h3 _ hv]; exact ⟨rfl,fun i v q z=>by simp at z⟩⟩
  ·rw [if_neg hk] at hs
   obtain ⟨l2,xs2,e2,r1,r2,r3,r5⟩:=h4 s v hs
   exact ⟨l2,xs2,e2,r1,r2,by rw [upd_ne r1]; exact r3,r5.but mb nt⟩
 ·rw [valV_put] at h1 h2
  by_cases hk:s=k
  ·by_cases hk':s'=k
   ·rw [hk,hk']
   ·rw [if_pos hk] at h1
    rw [if_neg hk'] at h2
    cases h1
    exact absurd rfl (fr s' _ h2)
  ·by_cases hk':s'=k
   ·rw [if_neg hk] at h1
    rw [if_pos hk'] at h2
    cases h2
    exact absurd rfl (fr s _ h1)
   ·rw [if_neg hk] at h1
    rw [if_neg hk'] at h2
    exact h5 s s' v h1 h2
theorem tiesT_snoc {F:List (Int×Fct)} {nf:Int×Fct}:tiesT (F++[nf])=addM (addM (tiesT F) nf.2.tie.1 (nf.2.tie.2.1,nf.1)) nf.2.tie.2.1 (nf.2.tie.1,nf.1):=by
 funext s
 unfold addM tiesT endsT
 rw [List.flatMap_append]
 have e:[nf].flatMap (fun nf:Int×Fct=>(if nf.2.tie.1=s then [(nf.2.tie.2.1,nf.1)] else [])++(if nf.2.tie.2.1=s then [(nf.2.tie.1,nf.1)] else []))=(if nf.2.tie.1=s then [(nf.2.tie.2.1,nf.1)] else [])++(if nf.2.tie.2.1=s then [(nf.2.tie.1,nf.1)] else []):=by simp
 rw [e]
 by_cases h1:s=nf.2.tie.1<;>by_cases h2:s=nf.2.tie.2.1
 ·rw [if_pos h1,if_pos h2,if_pos h1.symm,if_pos h2.symm,List.append_assoc]
 ·rw [if_pos h1,if_neg h2,if_pos h1.symm,if_neg (fun z=>h2 z.symm),List.append_nil]
 ·rw [if_neg h1,if_pos h2,if_neg (fun z=>h1 z.symm),if_pos h2.symm,List.nil_append]
 ·rw [if_neg h1,if_neg h2,if_neg (fun z=>h1 z.symm),if_neg (fun z=>h2 z.symm),List.append_nil,List.append_nil]
theorem tiesT_len (F:List (Int×Fct)) (s:List Key):(tiesT F s).length≤2*F.length:=by
 unfold tiesT
 induction F with
 | nil=>exact Nat.zero_le _
 | cons nf F ih =>
  rw [List.flatMap_cons,List.length_append,List.length_cons]
  have:(endsT nf s).length≤2:=by
   unfold endsT
   rw [List.length_append]
   split<;>split<;>simp
  omega
def sp_tiesbystrip:Sp:=fun vs H Q _=>∃ (df:Addr) (kf:List (Key×V)) (F:List (Int×Fct)),vs=[.ref df]∧H df=some (.dK kf)∧PwN H kf F∧F.length≤400∧∀ d H',Same H H'→TyAt H H' d (tiesT F) (2*F.length)→Q (.ref d) H'
theorem ok_tiesbystrip (T:Txt K mg t):FnOk P w K mg base CX0 3 t.f_tiesbystrip t.d_tiesbystrip ["facts"] sp_tiesbystrip:=by
  have G_factstrips:=ok_factstrips (P:=P) (w:=w) (base:=base) T
  refine T.F_tiesbystrip.ok sc_tiesbystrip (fun vs H Q E h=>?_) (fun cdv A outer s H vs Q E hr h=>?_)
  · obtain ⟨df,kf,F,rfl,_⟩:=h; rfl
  · obtain ⟨df,kf,F,rfl,hdf,pn,lF,k⟩:=h
    refine cutC (ps_set (i:=1) sc_tiesbystrip.nd rfl (Or.inl rfl) pe_dnewT) fun _ _=>cutC (ps_thaw (ps_for PassesOwn.never rfl (pi_items (pe_bm0 PySem.F.plainAttrs_dict PySem.F.slot_dict_items PySem.F.type_dict_items mt_items (pv 0))) (pg_tupK (n:=2) K rfl rfl (pgs_cons (pg_name (i:=2) sc_tiesbystrip.nd rfl (Or.inl rfl)) (pgs_cons (pg_name (i:=3) sc_tiesbystrip.nd rfl (Or.inl rfl)) pgs_nil))) (pss_cons (ps_set (i:=4) sc_tiesbystrip.nd rfl (Or.inl rfl) (pe_call G_factstrips (hr.mono (by first | decide | omega)) rfl T.mg_factstrips T.F_factstrips.kp T.b_factstrips .nil pass0 (pa_cons (pv 3) pa_nil))) (pss_cons (ps_join (ps_expr (pe_bm PySem.F.plainAttrs_list PySem.F.slot_list_append PySem.F.type_list_append mt_append (pe_dsetd (hu_of hr) (pv 1) (pe_ix (ix_tupK K rfl) (pv 4) pe_int (fun _ _=>rfl)) (pe_lst pa_nil) ⟨rfl,rfl,rfl,rfl⟩) (pa_cons (pe_tup (pa_cons (pe_ix (ix_tupK K rfl) (pv 4) pe_int (fun _ _=>rfl)) (pa_cons (pv 2) pa_nil))) pa_nil)))) (pss_one (ps_expr (pe_bm PySem.F.plainAttrs_list PySem.F.slot_list_append PySem.F.type_list_append mt_append (pe_dsetd (hu_of hr) (pv 1) (pe_ix (ix_tupK K rfl) (pv 4) pe_int (fun _ _=>rfl)) (pe_lst pa_nil) ⟨rfl,rfl,rfl,rfl⟩) (pa_cons (pe_tup (pa_cons (pe_ix (ix_tupK K rfl) (pv 4) pe_int (fun _ _=>rfl)) (pa_cons (pv 2) pa_nil))) pa_nil)))))))) fun _ _=>cutE (ps_ret (pv 1)) fun _ _=>?_
    walk_at "rdf"
    intro d nd
    have s1:=Same.new (o:=HO.dT []) nd
    have e1:=upd_same (H:=H) (a:=d) (o:=HO.dT [])
    generalize upd H d (HO.dT [])=H1 at s1 e1 ⊢
    walk_at "rdf"
    refine rd_bmD (s1 _ _ hdf) ?_
    refine rd_viewv (s1 _ _ hdf) fun v nv=>?_
    have sv:=Same.new (o:=ViewO "dict_items" v df) nv
    have ev:=upd_same (H:=H1) (a:=v) (o:=ViewO "dict_items" v df)
    generalize upd H1 v (ViewO "dict_items" v df)=H2 at sv ev ⊢
    have hd2:=sv _ _ (s1 _ _ hdf)
    refine ⟨v,df,kf,rfl,ev,hd2,fun FF hFF=>?_⟩
    have ndf:d≠df:=(ne_of_none hdf nd).symm
    have b3:ButL [df] H (upd H2 df FF):=fun b o e hb=>by rw [upd_ne (fun z=>hb (by rw [z]; exact List.mem_singleton.mpr rfl))]; exact sv _ _ (s1 _ _ e)
    have e3:=upd_same (H:=H2) (a:=df) (o:=FF)
    have d3:upd H2 df FF d=some (.dT []):=by rw [upd_ne ndf]; exact sv _ _ e1
    have nt:NoT H [df]:=fun x hx ys=>by rw [List.mem_singleton.mp hx,hdf]; intro z; cases z
    generalize upd H2 df FF=H3 at b3 e3 d3 ⊢
    refine forW_items (fun i σ' H'=>∃ (o2 o3 o4:Option V),σ'=[some (.ref df),some (.ref d),o2,o3,o4]∧ButL [df] H H'∧H' df=some FF∧TyAt H H' d (tiesT (F.take i)) (2*i)) ⟨none,none,none,rfl,b3,e3,TyAt.new nd d3⟩ ?_ ?_ ?_
    · rintro i σ' H' _ ⟨_,_,_,rfl,_,e,_⟩
      exact e
    · rintro i kk x b σ' H4 hk ⟨o2,o3,o4,rfl,b4,e4,ty4⟩ nb
      have hi:i<F.length:=by rw [← pn.1]; exact (List.getElem?_eq_some_iff.mp hk).1
      have hnf:=List.getElem?_eq_getElem hi
      have htk:F.take (i+1)=F.take i++[F[i]]:=(List.take_append_getElem hi).symm
      generalize F[i]=nf at hnf htk
      obtain ⟨rfl,a,rfl,ha⟩:=pn.2 i kk x nf hk hnf
      rw [show kV (Sum.inl nf.1)=V.int nf.1 from rfl]
      have s5:=Same.new (o:=HO.tup [V.int nf.1,V.ref a]) nb
      have e5:=upd_same (H:=H4) (a:=b) (o:=HO.tup [V.int nf.1,V.ref a])
      generalize upd H4 b (HO.tup [V.int nf.1,V.ref a])=H5 at s5 e5 ⊢
      have ha5:=s5 _ _ (but_tup b4 nt ha)
      refine rd_gtup e5 rfl ?_
      walk_at "rdf"
      refine ⟨a,nf.2,rfl,ha5,fun Ts c0 c1 H6 s6 pr=>?_⟩
      have s46:=s5.trans s6
      have b6:=b4.trans (s46.butL _)
      have ty6:=ty4.mono s46
      have e6:=s46 _ _ e4
      walk_at "rdf"
      have ml6:∀ s,(tiesT (F.take i) s).length≤801:=fun s=>by have:=tiesT_len (F.take i) s; rw [List.length_take] at this; omega
      refine rd_join (fun σ' H'=>σ'=[some (.ref df),some (.ref d),some (.int nf.1),some (.ref a),some (.ref Ts)]∧ButL [df] H H'∧H' df=some FF∧TyAt H H' d (addM (tiesT (F.take i)) nf.2.tie.1 (nf.2.tie.2.1,nf.1)) (2*i+1)∧PrAt H' Ts c0 c1 nf.2.tie.1 nf.2.tie.2.1) ?_ ?_
      · walk_at "rdf"
        obtain ⟨kvs,g1,g2,g3,g4,g5⟩:=ty6.ob
        refine rd_dsetd ?_
        walk_at "rdf"
        refine ⟨.inr ⟨kvs,.inl g1⟩,?_⟩
        walk_at "rdf"
        refine rd_ixT (SqT.of pr.1) (v:=.ref c0) rfl ?_
        walk_at "rdf"
        refine ⟨by show 0≤sizeLine; decide,fun l0 nl0=>?_⟩
        have sl0:=Same.new (o:=HO.lst []) nl0
        have el0:=upd_same (H:=H6) (a:=l0) (o:=HO.lst [])
        generalize upd H6 l0 (HO.lst [])=H7 at sl0 el0 ⊢
        have ty7:=ty6.mono sl0
        have pr7:=pr.mono sl0
        have b7:=b6.trans (sl0.butL _)
        have e7:=sl0 _ _ e6
        refine ⟨kvs,nf.2.tie.1,c0,rfl,sl0 _ _ g1,sl0 _ _ pr.2.1,small1000 (by omega),fun v hv=>?_,fun hv=>?_⟩
        · obtain ⟨l,xs,rfl,r1,r2,r3,r4⟩:=g4 _ _ hv
          have lx:xs.length≤801:=by rw [r4.1]; exact ml6 _
          walk_at "rdf"
          refine rd_bmL (sl0 _ _ r3) ?_
          walk_at "rdf"
          refine rd_ixT (SqT.of pr7.1) (v:=.ref c1) rfl ?_
          walk_at "rdf"
          refine ⟨by show 2≤sizeLine; decide,fun b2 nb2=>?_⟩
          have sb2:=Same.new (o:=HO.tup [V.ref c1,V.int nf.1]) nb2
          have eb2:=upd_same (H:=H7) (a:=b2) (o:=HO.tup [V.ref c1,V.int nf.1])
          generalize upd H7 b2 (HO.tup [V.ref c1,V.int nf.1])=H8 at sb2 eb2 ⊢
          walk_at "rdf"
          refine rd_append (sb2 _ _ (sl0 _ _ r3)) (small1000 (by omega)) ?_
          have tyF:=(ty7.mono sb2).add (k:=nf.2.tie.1) (q:=(nf.2.tie.2.1,nf.1)) (sb2 _ _ (sl0 _ _ g1)) hv (sb2 _ _ (sl0 _ _ r3)) ⟨b2,c1,rfl,eb2,sb2 _ _ (sl0 _ _ pr.2.2)⟩
          have bF:ButL [df] H (upd H8 l (.lst (xs++[.ref b2]))):=fun c o e hc=>by rw [upd_ne (ne_of_none e r2)]; exact sb2 _ _ (b7 _ _ e hc)
          have eF:upd H8 l (.lst (xs++[.ref b2])) df=some FF:=by rw [upd_ne (ne_of_none hdf r2)]; exact sb2 _ _ e7
          have prF:PrAt (upd H8 l (.lst (xs++[.ref b2]))) Ts c0 c1 nf.2.tie.1 nf.2.tie.2.1:=by
            have q:=pr7.mono sb2
            have nn:∀ {x:Addr} {ys:List V},H8 x=some (.tup ys)→upd H8 l (.lst (xs++[.ref b2])) x=some (.tup ys):=fun {x ys} h=>by rw [upd_ne (fun z=>by rw [z,sb2 _ _ (sl0 _ _ r3)] at h; cases h)]; exact h
            exact ⟨nn q.1,nn q.2.1,nn q.2.2⟩
          walk_at "rdf"
          exact ⟨rfl,bF,eF,tyF.le (by omega),prF⟩
        · have nl0H:H l0=none:=by
            cases z:H l0 with
            | none=>rfl
            | some o =>
              by_cases hz:l0=df
              · rw [hz,e6] at nl0; cases nl0
              · rw [b6 _ _ z (by rw [List.mem_singleton]; exact hz)] at nl0; cases nl0
          have l0d:l0≠d:=(ne_of_none g1 nl0).symm
          have ty8:=ty7.put (k:=nf.2.tie.1) (l:=l0) (sl0 _ _ g1) hv el0 nl0H l0d fun s v hs z=>by
            obtain ⟨l2,xs2,e2,r1,r2,r3,_⟩:=g4 s v hs
            rw [e2] at z
            cases z
            rw [r3] at nl0; cases nl0
          have nT:∀ {x:Addr} {ys:List V},H7 x=some (.tup ys)→upd H7 d (.dT (putK kvs nf.2.tie.1 (.ref l0))) x=some (.tup ys):=fun {x ys} h=>by rw [upd_ne (fun z=>by rw [z,sl0 _ _ g1] at h; cases h)]; exact h
          have pr8:PrAt (upd H7 d (.dT (putK kvs nf.2.tie.1 (.ref l0)))) Ts c0 c1 nf.2.tie.1 nf.2.tie.2.1:=⟨nT pr7.1,nT pr7.2.1,nT pr7.2.2⟩
          have b8:ButL [df] H (upd H7 d (.dT (putK kvs nf.2.tie.1 (.ref l0)))):=fun c o e hc=>by rw [upd_ne (ne_of_none e nd)]; exact b7 _ _ e hc
          have e8:upd H7 d (.dT (putK kvs nf.2.tie.1 (.ref l0))) df=some FF:=by rw [upd_ne ndf.symm]; exact e7
          have el8:upd H7 d (.dT (putK kvs nf.2.tie.1 (.ref l0))) l0=some (.lst []):=by rw [upd_ne l0d]; exact el0
          have ed8:=upd_same (H:=H7) (a:=d) (o:=HO.dT (putK kvs nf.2.tie.1 (.ref l0)))
          generalize upd H7 d (.dT (putK kvs nf.2.tie.1 (.ref l0)))=H8 at ty8 pr8 b8 e8 el8 ed8 ⊢
          walk_at "rdf"
          refine rd_bmL el8 ?_
          walk_at "rdf"
          refine rd_ixT (SqT.of pr8.1) (v:=.ref c1) rfl ?_
          walk_at "rdf"
          refine ⟨by show 2≤sizeLine; decide,fun b2 nb2=>?_⟩
          have sb2:=Same.new (o:=HO.tup [V.ref c1,V.int nf.1]) nb2
          have eb2:=upd_same (H:=H8) (a:=b2) (o:=HO.tup [V.ref c1,V.int nf.1])
          generalize upd H8 b2 (HO.tup [V.ref c1,V.int nf.1])=H9 at sb2 eb2 ⊢
          walk_at "rdf"
          refine rd_append (sb2 _ _ el8) (by decide) ?_
          have tyF:=(ty8.mono sb2).add (k:=nf.2.tie.1) (q:=(nf.2.tie.2.1,nf.1)) (sb2 _ _ ed8) (by rw [valV_put,if_pos rfl]) (sb2 _ _ el8) ⟨b2,c1,rfl,eb2,sb2 _ _ pr8.2.2⟩
          have bF:ButL [df] H (upd H9 l0 (.lst ([]++[.ref b2]))):=fun c o e hc=>by rw [upd_ne (ne_of_none e nl0H)]; exact sb2 _ _ (b8 _ _ e hc)
          have eF:upd H9 l0 (.lst ([]++[.ref b2])) df=some FF:=by rw [upd_ne (ne_of_none hdf nl0H)]; exact sb2 _ _ e8
          have prF:PrAt (upd H9 l0 (.lst ([]++[.ref b2]))) Ts c0 c1 nf.2.tie.1 nf.2.tie.2.1:=by
            have q:=pr8.mono sb2
            have nn:∀ {x:Addr} {ys:List V},H9 x=some (.tup ys)→upd H9 l0 (.lst ([]++[.ref b2])) x=some (.tup ys):=fun {x ys} h=>by rw [upd_ne (fun z=>by rw [z,sb2 _ _ el8] at h; cases h)]; exact h
            exact ⟨nn q.1,nn q.2.1,nn q.2.2⟩
          walk_at "rdf"
          exact ⟨rfl,bF,eF,tyF.le (by omega),prF⟩
      · clear pr ty6 e6 b6 s46 s6 s5 e5 ha5 ty4 e4 b4
        rintro σ' H6 ⟨rfl,b6,e6,ty6,pr⟩
        have ml6:∀ s,(addM (tiesT (F.take i)) nf.2.tie.1 (nf.2.tie.2.1,nf.1) s).length≤801:=fun s=>by
          have:=ml6 s
          have h2:=tiesT_len (F.take i) s
          rw [List.length_take] at h2
          unfold addM
          split
          · rw [List.length_append]; show _+1≤_; omega
          · exact this
        walk_at "rdf"
        obtain ⟨kvs,g1,g2,g3,g4,g5⟩:=ty6.ob
        refine rd_dsetd ?_
        walk_at "rdf"
        refine ⟨.inr ⟨kvs,.inl g1⟩,?_⟩
        walk_at "rdf"
        refine rd_ixT (SqT.of pr.1) (v:=.ref c1) rfl ?_
        walk_at "rdf"
        refine ⟨by show 0≤sizeLine; decide,fun l0 nl0=>?_⟩
        have sl0:=Same.new (o:=HO.lst []) nl0
        have el0:=upd_same (H:=H6) (a:=l0) (o:=HO.lst [])
        generalize upd H6 l0 (HO.lst [])=H7 at sl0 el0 ⊢
        have ty7:=ty6.mono sl0
        have pr7:=pr.mono sl0
        have b7:=b6.trans (sl0.butL _)
        have e7:=sl0 _ _ e6
        refine ⟨kvs,nf.2.tie.2.1,c1,rfl,sl0 _ _ g1,sl0 _ _ pr.2.2,small1000 (by omega),fun v hv=>?_,fun hv=>?_⟩
        · obtain ⟨l,xs,rfl,r1,r2,r3,r4⟩:=g4 _ _ hv
          have lx:xs.length≤801:=by rw [r4.1]; exact ml6 _
          walk_at "rdf"
          refine rd_bmL (sl0 _ _ r3) ?_
          walk_at "rdf"
          refine rd_ixT (SqT.of pr7.1) (v:=.ref c0) rfl ?_
          walk_at "rdf"
          refine ⟨by show 2≤sizeLine; decide,fun b2 nb2=>?_⟩
          have sb2:=Same.new (o:=HO.tup [V.ref c0,V.int nf.1]) nb2
          have eb2:=upd_same (H:=H7) (a:=b2) (o:=HO.tup [V.ref c0,V.int nf.1])
          generalize upd H7 b2 (HO.tup [V.ref c0,V.int nf.1])=H8 at sb2 eb2 ⊢
          walk_at "rdf"
          refine rd_append (sb2 _ _ (sl0 _ _ r3)) (small1000 (by omega)) ?_
          have tyF:=(ty7.mono sb2).add (k:=nf.2.tie.2.1) (q:=(nf.2.tie.1,nf.1)) (sb2 _ _ (sl0 _ _ g1)) hv (sb2 _ _ (sl0 _ _ r3)) ⟨b2,c0,rfl,eb2,sb2 _ _ (sl0 _ _ pr.2.1)⟩
          have bF:ButL [df] H (upd H8 l (.lst (xs++[.ref b2]))):=fun c o e hc=>by rw [upd_ne (ne_of_none e r2)]; exact sb2 _ _ (b7 _ _ e hc)
          have eF:upd H8 l (.lst (xs++[.ref b2])) df=some FF:=by rw [upd_ne (ne_of_none hdf r2)]; exact sb2 _ _ e7
          have prF:PrAt (upd H8 l (.lst (xs++[.ref b2]))) Ts c0 c1 nf.2.tie.1 nf.2.tie.2.1:=by
            have q:=pr7.mono sb2
            have nn:∀ {x:Addr} {ys:List V},H8 x=some (.tup ys)→upd H8 l (.lst (xs++[.ref b2])) x=some (.tup ys):=fun {x ys} h=>by rw [upd_ne (fun z=>by rw [z,sb2 _ _ (sl0 _ _ r3)] at h; cases h)]; exact h
            exact ⟨nn q.1,nn q.2.1,nn q.2.2⟩
          walk_at "rdf"
          exact ⟨_,_,_,rfl,bF,eF,by rw [htk,tiesT_snoc]; exact tyF.le (by omega)⟩
        · have nl0H:H l0=none:=by
            cases z:H l0 with
            | none=>rfl
            | some o =>
              by_cases hz:l0=df
              · rw [hz,e6] at nl0; cases nl0
              · rw [b6 _ _ z (by rw [List.mem_singleton]; exact hz)] at nl0; cases nl0
          have l0d:l0≠d:=(ne_of_none g1 nl0).symm
          have ty8:=ty7.put (k:=nf.2.tie.2.1) (l:=l0) (sl0 _ _ g1) hv el0 nl0H l0d fun s v hs z=>by
            obtain ⟨l2,xs2,e2,r1,r2,r3,_⟩:=g4 s v hs
            rw [e2] at z
            cases z
            rw [r3] at nl0; cases nl0
          have nT:∀ {x:Addr} {ys:List V},H7 x=some (.tup ys)→upd H7 d (.dT (putK kvs nf.2.tie.2.1 (.ref l0))) x=some (.tup ys):=fun {x ys} h=>by rw [upd_ne (fun z=>by rw [z,sl0 _ _ g1] at h; cases h)]; exact h
          have pr8:PrAt (upd H7 d (.dT (putK kvs nf.2.tie.2.1 (.ref l0)))) Ts c0 c1 nf.2.tie.1 nf.2.tie.2.1:=⟨nT pr7.1,nT pr7.2.1,nT pr7.2.2⟩
          have b8:ButL [df] H (upd H7 d (.dT (putK kvs nf.2.tie.2.1 (.ref l0)))):=fun c o e hc=>by rw [upd_ne (ne_of_none e nd)]; exact b7 _ _ e hc
          have e8:upd H7 d (.dT (putK kvs nf.2.tie.2.1 (.ref l0))) df=some FF:=by rw [upd_ne ndf.symm]; exact e7
          have el8:upd H7 d (.dT (putK kvs nf.2.tie.2.1 (.ref l0))) l0=some (.lst []):=by rw [upd_ne l0d]; exact el0
          have ed8:=upd_same (H:=H7) (a:=d) (o:=HO.dT (putK kvs nf.2.tie.2.1 (.ref l0)))
          generalize upd H7 d (.dT (putK kvs nf.2.tie.2.1 (.ref l0)))=H8 at ty8 pr8 b8 e8 el8 ed8 ⊢
          walk_at "rdf"
          refine rd_bmL el8 ?_
          walk_at "rdf"
          refine rd_ixT (SqT.of pr8.1) (v:=.ref c0) rfl ?_
          walk_at "rdf"
          refine ⟨by show 2≤sizeLine; decide,fun b2 nb2=>?_⟩
          have sb2:=Same.new (o:=HO.tup [V.ref c0,V.int nf.1]) nb2
          have eb2:=upd_same (H:=H8) (a:=b2) (o:=HO.tup [V.ref c0,V.int nf.1])
          generalize upd H8 b2 (HO.tup [V.ref c0,V.int nf.1])=H9 at sb2 eb2 ⊢
          walk_at "rdf"
          refine rd_append (sb2 _ _ el8) (by decide) ?_
          have tyF:=(ty8.mono sb2).add (k:=nf.2.tie.2.1) (q:=(nf.2.tie.1,nf.1)) (sb2 _ _ ed8) (by rw [valV_put,if_pos rfl]) (sb2 _ _ el8) ⟨b2,c0,rfl,eb2,sb2 _ _ pr8.2.1⟩
          have bF:ButL [df] H (upd H9 l0 (.lst ([]++[.ref b2]))):=fun c o e hc=>by rw [upd_ne (ne_of_none e nl0H)]; exact sb2 _ _ (b8 _ _ e hc)
          have eF:upd H9 l0 (.lst ([]++[.ref b2])) df=some FF:=by rw [upd_ne (ne_of_none hdf nl0H)]; exact sb2 _ _ e8
          have prF:PrAt (upd H9 l0 (.lst ([]++[.ref b2]))) Ts c0 c1 nf.2.tie.1 nf.2.tie.2.1:=by
            have q:=pr8.mono sb2
            have nn:∀ {x:Addr} {ys:List V},H9 x=some (.tup ys)→upd H9 l0 (.lst ([]++[.ref b2])) x=some (.tup ys):=fun {x ys} h=>by rw [upd_ne (fun z=>by rw [z,sb2 _ _ el8] at h; cases h)]; exact h
            exact ⟨nn q.1,nn q.2.1,nn q.2.2⟩
          walk_at "rdf"
          exact ⟨_,_,_,rfl,bF,eF,by rw [htk,tiesT_snoc]; exact tyF.le (by omega)⟩
    · rintro σ' H4 ⟨o2,o3,o4,rfl,b4,e4,ty4⟩
      have hl:kf.length=F.length:=pn.1
      rw [hl,List.take_of_length_le (Nat.le_refl _)] at ty4
      have fin:Same H (upd H4 df (.dK kf)):=fun c o e=>by
        by_cases hc:c=df
        · subst hc; rw [upd_same,← hdf,e]
        · rw [upd_ne hc]; exact b4 _ _ e (by rw [List.mem_singleton]; exact hc)
      refine ⟨_,⟨df,kf,FF,hFF,e4,rfl⟩,?_⟩
      obtain ⟨φ,rfl⟩:=hFF.ext
      have mb:ButL [df] H4 (upd H4 df (.dK kf)):=(ButL.refl _ _).upd (by simp)
      have ty5:=ty4.but mb (fun x hx ys=>by rw [List.mem_singleton.mp hx,e4]; intro z; cases z) (fun x hx=>⟨.dK kf,by rw [List.mem_singleton.mp hx]; exact hdf⟩)
      walk_at "rdf"
      exact k d _ fin ty5
end
section
variable {P:Program} {w:World} {K:PySem.W.Frag} {mg:Str→Option Value} {base:Heap} {t:Ad}
def edgeF (F:List (Int×Fct)):List Key→List Key→Int→Prop:=fun s s' n=>∃ f,(n,f)∈F∧((f.tie.1=s∧f.tie.2.1=s')∨(f.tie.2.1=s∧f.tie.1=s'))
theorem mem_tiesT {F:List (Int×Fct)} {s:List Key} {q:List Key×Int} (h:q∈tiesT F s):edgeF F q.1 s q.2:=by
 unfold tiesT at h
 obtain ⟨nf,hm,h⟩:=List.mem_flatMap.mp h
 unfold endsT at h
 rcases List.mem_append.mp h with h | h
 ·split at h
  ·rename_i e
   rw [List.mem_singleton.mp h]
   exact ⟨nf.2,hm,.inr ⟨rfl,e⟩⟩
  ·cases h
 ·split at h
  ·rename_i e
   rw [List.mem_singleton.mp h]
   exact ⟨nf.2,hm,.inl ⟨rfl,e⟩⟩
  ·cases h
theorem edge_tiesT {F:List (Int×Fct)} {s s':List Key} {n:Int} (h:edgeF F s s' n):(s',n)∈tiesT F s:=by
 obtain ⟨f,hm,h⟩:=h
 refine List.mem_flatMap.mpr ⟨(n,f),hm,?_⟩
 unfold endsT
 rcases h with ⟨h1,h2⟩ | ⟨h1,h2⟩
 ·exact List.mem_append_left _ (by rw [if_pos h1,← h2]; exact List.mem_singleton.mpr rfl)
 ·exact List.mem_append_right _ (by rw [if_pos h1,← h2]; exact List.mem_singleton.mpr rfl)
theorem edge_one {F:List (Int×Fct)} (nd:(F.map (·.1)).Nodup):Fm.OneEdge (edgeF F):=fun s s' u u' n ⟨f,hf,h1⟩ ⟨g,hg,h2⟩=>by
 have e:f=g:=by
  obtain ⟨i,hi⟩:=List.mem_iff_getElem?.mp hf
  obtain ⟨j,hj⟩:=List.mem_iff_getElem?.mp hg
  obtain ⟨il,ei⟩:=List.getElem?_eq_some_iff.mp hi
  obtain ⟨jl,ej⟩:=List.getElem?_eq_some_iff.mp hj
  have:i=j:=(List.getElem_inj (h₀:=by rw [List.length_map]; exact il) (h₁:=by rw [List.length_map]; exact jl) nd).mp (by rw [List.getElem_map,List.getElem_map,ei,ej])
  subst this
  rw [ei] at ej
  injection ej
 subst e
 rcases h1 with ⟨a,b⟩ | ⟨a,b⟩<;>rcases h2 with ⟨c,d⟩ | ⟨c,d⟩
 ·exact .inl (a.symm.trans c)
 ·exact .inr (a.symm.trans d)
 ·exact .inr (a.symm.trans d)
 ·exact .inl (a.symm.trans c)
def MtAt (H:Hp) (xs:List V) (ms:List (List Key)):Prop:=xs.length=ms.length∧∀ (j:Nat) v s,xs[j]?=some v→ms[j]?=some s→∃ a,v=.ref a∧H a=some (.tup (s.map kV))
theorem MtAt.but {S:List Addr} {H H':Hp} {xs:List V} {ms:List (List Key)} (h:MtAt H xs ms) (m:ButL S H H') (n:NoT H S):MtAt H' xs ms:=⟨h.1,fun j v s e1 e2=>let ⟨a,e,q⟩:=h.2 j v s e1 e2; ⟨a,e,but_tup m n q⟩⟩
theorem MtAt.snoc {H:Hp} {xs:List V} {ms:List (List Key)} {a:Addr} {s:List Key} (h:MtAt H xs ms) (ha:H a=some (.tup (s.map kV))):MtAt H (xs++[.ref a]) (ms++[s]):=by
 refine ⟨by rw [List.length_append,List.length_append,h.1]; rfl,fun j v u e1 e2=>?_⟩
 by_cases hi:j<xs.length
 ·rw [List.getElem?_append_left hi] at e1
  rw [List.getElem?_append_left (by rw [← h.1]; exact hi)] at e2
  exact h.2 j v u e1 e2
 ·rw [List.getElem?_append_right (by omega)] at e1
  rw [List.getElem?_append_right (by rw [← h.1]; omega),← h.1] at e2
  have:j - xs.length=0:=by
   have hh:=(List.getElem?_eq_some_iff.mp e1).1
   rw [List.length_singleton] at hh
   omega
  rw [this] at e1 e2
  cases e1; cases e2
  exact ⟨a,rfl,ha⟩
structure OnAt (H:Hp) (on:Addr) (root:List Key) (ms:List (List Key)) (ps:List (Nat×Int)):Prop where
 ob:∃ kvs:List (List Key×V),H on=some (.dT kvs)∧kvs.length≤ms.length∧(∀ s,s∉ms→valV kvs s=none)∧valV kvs root=some .non ∧
  ∀ (j:Nat) s p n,0<j→ms[j]?=some s→ps[j]?=some (p,n)→∃ b a s',valV kvs s=some (.ref b)∧H b=some (.tup [.ref a,.int n])∧ms[p]?=some s'∧H a=some (.tup (s'.map kV))
theorem OnAt.but {S:List Addr} {H H':Hp} {on:Addr} {root:List Key} {ms:List (List Key)} {ps:List (Nat×Int)} (h:OnAt H on root ms ps) (m:ButL S H H') (n:NoT H S) (ho:on∉S):OnAt H' on root ms ps:=by
 obtain ⟨kvs,h1,h2,h3,h4,h5⟩:=h.ob
 exact ⟨kvs,m _ _ h1 ho,h2,h3,h4,fun j s p q a b c=>let ⟨b',a',s',e1,e2,e3,e4⟩:=h5 j s p q a b c; ⟨b',a',s',e1,but_tup m n e2,e3,but_tup m n e4⟩⟩
theorem OnAt.put {E:List Key→List Key→Int→Prop} {H:Hp} {on b a:Addr} {root s s':List Key} {ms:List (List Key)} {ps:List (Nat×Int)} {kvs:List (List Key×V)} {p:Nat} {n:Int} (tr:Fm.Tree E root ms ps) (h:OnAt H on root ms ps) (e:H on=some (.dT kvs)) (hs:s∉ms) (hb:H b=some (.tup [.ref a,.int n])) (hp:ms[p]?=some s') (ha:H a=some (.tup (s'.map kV))):OnAt (L2.upd H on (.dT (putK kvs s (.ref b)))) on root (ms++[s]) (ps++[(p,n)]):=by
 obtain ⟨kvs',h1,h2,h3,h4,h5⟩:=h.ob
 rw [e] at h1
 cases h1
 have mb:ButL [on] H (L2.upd H on (.dT (putK kvs s (.ref b)))):=(ButL.refl _ _).upd (by simp)
 have nt:NoT H [on]:=fun x hx ys=>by rw [List.mem_singleton.mp hx,e]; intro z; cases z
 have lp:p<ms.length:=(List.getElem?_eq_some_iff.mp hp).1
 refine ⟨_,upd_same,by have:=length_putK kvs s (.ref b); rw [List.length_append]; show _≤_+1; omega,fun u hu=>?_,?_,fun j u q m h0 e1 e2=>?_⟩
 ·rw [valV_put,if_neg (fun z=>hu (by rw [z]; exact List.mem_append_right _ (List.mem_singleton.mpr rfl)))]
  exact h3 u fun z=>hu (List.mem_append_left _ z)
 ·rw [valV_put,if_neg (fun z=>hs (by rw [← z]; exact List.mem_of_getElem? tr.hd))]
  exact h4
 ·by_cases hj:j<ms.length
  ·rw [List.getElem?_append_left hj] at e1
   rw [List.getElem?_append_left (by rw [tr.len]; exact hj)] at e2
   obtain ⟨b',a',s2,q1,q2,q3,q4⟩:=h5 j u q m h0 e1 e2
   obtain ⟨lq,_⟩:=tr.par j u q m h0 e1 e2
   exact ⟨b',a',s2,by rw [valV_put,if_neg (fun z=>hs (by rw [← z]; exact List.mem_of_getElem? e1))]; exact q1,but_tup mb nt q2,by rw [List.getElem?_append_left (by omega)]; exact q3,but_tup mb nt q4⟩
  ·rw [List.getElem?_append_right (by omega)] at e1
   rw [List.getElem?_append_right (by rw [tr.len]; omega),tr.len] at e2
   have:j - ms.length=0:=by
    have hh:=(List.getElem?_eq_some_iff.mp e1).1
    rw [List.length_singleton] at hh
    omega
   rw [this] at e1 e2
   cases e1; cases e2
   exact ⟨b,a,s',by rw [valV_put,if_pos rfl],but_tup mb nt hb,by rw [List.getElem?_append_left lp]; exact hp,but_tup mb nt ha⟩
theorem OnAt.isIn {E:List Key→List Key→Int→Prop} {H:Hp} {on:Addr} {root s:List Key} {ms:List (List Key)} {ps:List (Nat×Int)} {kvs:List (List Key×V)} (tr:Fm.Tree E root ms ps) (h:OnAt H on root ms ps) (e:H on=some (.dT kvs)):(valV kvs s).isSome=decide (s∈ms):=by
 obtain ⟨kvs',h1,h2,h3,h4,h5⟩:=h.ob
 rw [e] at h1
 cases h1
 by_cases hs:s∈ms
 ·rw [decide_eq_true hs]
  obtain ⟨j,hj⟩:=List.mem_iff_getElem?.mp hs
  by_cases h0:j=0
  ·subst h0
   rw [tr.hd] at hj
   cases hj
   rw [h4]; rfl
  ·have jl:=(List.getElem?_eq_some_iff.mp hj).1
   obtain ⟨b,_,_,q,_⟩:=h5 j s _ _ (by omega) hj (List.getElem?_eq_getElem (by rw [tr.len]; exact jl))
   rw [q]; rfl
 ·rw [decide_eq_false hs,h3 s hs]; rfl
end
section
variable {P:Program} {w:World} {K:PySem.W.Frag} {mg:Str→Option Value} {base:Heap} {t:Ad}
theorem nodup_leR {α:Type} [DecidableEq α]:∀ (a b:List α),a.Nodup→(∀ x∈a,x∈b)→a.length≤b.length
 | [],_,_,_=>Nat.zero_le _
 | x::a,b,nd,h=>by
  have hx:=h x List.mem_cons_self
  obtain ⟨hn,nd⟩:=List.nodup_cons.mp nd
  have:=nodup_leR a (b.erase x) nd fun y hy=>(List.mem_erase_of_ne fun e=>hn (by rw [← e]; exact hy)).mpr (h y (List.mem_cons_of_mem _ hy))
  rw [List.length_erase_of_mem hx] at this
  have:=List.length_pos_of_mem hx
  rw [List.length_cons]
  omega
def tiesL (F:List (Int×Fct)):List Fm.Tie:=F.map fun nf=>nf.2.tie
theorem met_all {F:List (Int×Fct)} {ms:List (List Key)} {s0 s1:List Key} (h1:s1∈ms) (cl:∀ s∈ms,∀ q∈tiesT F s,q.1∈ms) (hc:Fm.Con (tiesL F) s1 s0):s0∈ms:=by
 refine Fm.closed_con h1 (fun e he=>?_) hc
 obtain ⟨nf,hm,rfl⟩:=List.mem_map.mp he
 exact ⟨fun z=>cl _ z (nf.2.tie.2.1,nf.1) (edge_tiesT ⟨nf.2,hm,.inl ⟨rfl,rfl⟩⟩),fun z=>cl _ z (nf.2.tie.1,nf.1) (edge_tiesT ⟨nf.2,hm,.inr ⟨rfl,rfl⟩⟩)⟩
def LinkAt (H:Hp) (ms:List (List Key)) (ps:List (Nat×Int)) (j:Nat) (v:V):Prop:=(j=0∧v=.non)∨(0<j∧∃ b a p n s',ps[j]?=some (p,n)∧v=.ref b∧H b=some (.tup [.ref a,.int n])∧ms[p]?=some s'∧H a=some (.tup (List.map kV s')))
theorem OnAt.link {E:List Key→List Key→Int→Prop} {H:Hp} {on:Addr} {root s:List Key} {ms:List (List Key)} {ps:List (Nat×Int)} {kvs:List (List Key×V)} (tr:Fm.Tree E root ms ps) (h:OnAt H on root ms ps) (e:H on=some (.dT kvs)) {j:Nat} (hj:ms[j]?=some s):∃ v,valV kvs s=some v∧LinkAt H ms ps j v:=by
 obtain ⟨kvs',h1,h2,h3,h4,h5⟩:=h.ob
 rw [e] at h1
 cases h1
 by_cases h0:j=0
 ·subst h0
  rw [tr.hd] at hj
  cases hj
  exact ⟨_,h4,.inl ⟨rfl,rfl⟩⟩
 ·have jl:=(List.getElem?_eq_some_iff.mp hj).1
  have hp:=List.getElem?_eq_getElem (show j<ps.length by rw [tr.len]; exact jl)
  obtain ⟨b,a,s',q1,q2,q3,q4⟩:=h5 j s _ _ (by omega) hj hp
  exact ⟨_,q1,.inr ⟨by omega,b,a,_,_,s',hp,rfl,q2,q3,q4⟩⟩
def sp_reasons:Sp:=fun vs H Q _=>∃ (df T a b:Addr) (kf:List (Key×V)) (F:List (Int×Fct)) (D:List (List Key)) (s0 s1:List Key),vs=[.ref df,.ref T]∧H df=some (.dK kf)∧PwN H kf F∧F.length≤400∧(F.map (·.1)).Nodup∧PrAt H T a b s0 s1∧s0≠s1∧s1∈D∧D.length≤80∧(∀ nf∈F,nf.2.tie.1∈D∧nf.2.tie.2.1∈D)∧Fm.Con (tiesL F) s1 s0 ∧
 ∀ l ns H',Same H H'→H l=none→H' l=some (.lst (List.map V.int ns))→Fm.Way (edgeF F) s1 s0 ns→ns.Nodup→Q (.ref l) H'
theorem ok_reasons (T:Txt K mg t):FnOk P w K mg base CX0 4 t.f_reasons t.d_reasons ["facts","strips"] sp_reasons:=by
  have G_tiesbystrip:=ok_tiesbystrip (P:=P) (w:=w) (base:=base) T
  refine T.F_reasons.ok sc_reasons (fun vs H Q E h=>?_) (fun cdv A outer s H vs Q E hr h=>?_)
  · obtain ⟨df,Ts,a,b,kf,F,D,s0,s1,rfl,_⟩:=h; rfl
  · obtain ⟨df,Ts,a,b,kf,F,D,s0,s1,rfl,hdf,pn,lF,ndF,pr,hne,hs1,lD,hD,hcon,k⟩:=h
    refine cutC (ps_set (i:=2) sc_reasons.nd rfl (Or.inl rfl) (pe_call G_tiesbystrip (hr.mono (by first | decide | omega)) rfl T.mg_tiesbystrip T.F_tiesbystrip.kp T.b_tiesbystrip .nil pass0 (pa_cons (pv 0) pa_nil))) fun _ _=>cutC (ps_set (i:=3) sc_reasons.nd rfl (Or.inl rfl) (pe_disp1 (hu_of hr) (pe_ix (ix_tupK K rfl) (pv 1) pe_int (fun _ _=>rfl)) pe_non)) fun _ _=>cutC (ps_set (i:=4) sc_reasons.nd rfl (Or.inl rfl) (pe_lst (pa_cons (pe_ix (ix_tupK K rfl) (pv 1) pe_int (fun _ _=>rfl)) pa_nil))) fun _ _=>cutC (ps_set (i:=5) sc_reasons.nd rfl (Or.inl rfl) pe_int) fun _ _=>cutC (ps_while PassesOwn.never (pt_cmp (pc_dnotin (hu_of hr) (pe_ix (ix_tupK K rfl) (pv 1) pe_int (fun _ _=>rfl)) (pv 3))) (pss_cons (ps_set (i:=6) sc_reasons.nd rfl (Or.inl rfl) (pe_ix (ix_listK K rfl) (pv 4) (pv 5) (fun _ _=>rfl))) (pss_cons (ps_for PassesOwn.never rfl (pi_list (pe_dget (hu_of hr) (pv 2) (pv 6) (fun _ _=>rfl))) (pg_tupK (n:=2) K rfl rfl (pgs_cons (pg_name (i:=7) sc_reasons.nd rfl (Or.inl rfl)) (pgs_cons (pg_name (i:=8) sc_reasons.nd rfl (Or.inl rfl)) pgs_nil))) (pss_one (ps_if (pt_cmp (pc_dnotin (hu_of hr) (pv 7) (pv 3))) (pss_cons (ps_dput (hu_of hr) (pv 3) (pv 7) (pe_tup (pa_cons (pv 6) (pa_cons (pv 8) pa_nil))) rfl) (pss_one (ps_expr (pe_bm PySem.F.plainAttrs_list PySem.F.slot_list_append PySem.F.type_list_append mt_append (pv 4) (pa_cons (pv 7) pa_nil))))) pss_nil))) (pss_one (ps_aug (i:=5) sc_reasons.nd rfl (Or.inl rfl) pe_int ip_add))))) fun _ _=>cutC (ps_set (i:=9) sc_reasons.nd rfl (Or.inl rfl) (pe_lst pa_nil)) fun _ _=>cutC (ps_set (i:=10) sc_reasons.nd rfl (Or.inl rfl) (pe_dget (hu_of hr) (pv 3) (pe_ix (ix_tupK K rfl) (pv 1) pe_int (fun _ _=>rfl)) (fun _ _=>rfl))) fun _ _=>cutC (ps_while PassesOwn.never (pt_cmpR op_notN (pv 10) pe_non (nomark _)) (pss_cons (ps_expr (pe_bm PySem.F.plainAttrs_list PySem.F.slot_list_append PySem.F.type_list_append mt_append (pv 9) (pa_cons (pe_ix (ix_tupK K rfl) (pv 10) pe_int (fun _ _=>rfl)) pa_nil))) (pss_one (ps_set (i:=10) sc_reasons.nd rfl (Or.inl rfl) (pe_dget (hu_of hr) (pv 3) (pe_ix (ix_tupK K rfl) (pv 10) pe_int (fun _ _=>rfl)) (fun _ _=>rfl)))))) fun _ _=>cutE (ps_ret (pv 9)) fun _ _=>?_
    walk_at "rdf"
    refine ⟨df,kf,F,rfl,hdf,pn,lF,fun dt H1 s1' ty1=>?_⟩
    have pr1:=pr.mono s1'
    obtain ⟨tkv,t1,t2,t3,t4,t5⟩:=ty1.ob
    walk_at "rdf"
    intro on non
    have s2:=Same.new (o:=HO.dT []) non
    have e2:=upd_same (H:=H1) (a:=on) (o:=HO.dT [])
    generalize upd H1 on (HO.dT [])=H2 at s2 e2 ⊢
    walk_at "rdf"
    refine rd_ixT (SqT.of (s2 _ _ pr1.1)) (v:=.ref b) rfl ?_
    walk_at "rdf"
    refine ⟨b,s1,.non,rfl,s2 _ _ pr1.2.2,e2,?_⟩
    have s3:Same H1 (upd H2 on (.dT [(s1,V.non)])):=fun c o e=>by rw [upd_ne (ne_of_none e non)]; exact s2 _ _ e
    have e3:=upd_same (H:=H2) (a:=on) (o:=HO.dT [(s1,V.non)])
    generalize upd H2 on (HO.dT [(s1,V.non)])=H3 at s3 e3 ⊢
    walk_at "rdf"
    refine rd_ixT (SqT.of (s3 _ _ pr1.1)) (v:=.ref b) rfl ?_
    walk_at "rdf"
    refine ⟨by show 1≤sizeLine; decide,fun lm nlm=>?_⟩
    have slm:=Same.new (o:=HO.lst [V.ref b]) nlm
    have elm:=upd_same (H:=H3) (a:=lm) (o:=HO.lst [V.ref b])
    generalize upd H3 lm (HO.lst [V.ref b])=H4 at slm elm ⊢
    have s4:=s3.trans slm
    have nlm1:H1 lm=none:=s3.free nlm
    have lmo:lm≠on:=(ne_of_none e3 nlm).symm
    have on4:OnAt H4 on s1 [s1] [(0,0)]:=⟨[(s1,V.non)],slm _ _ e3,Nat.le_refl _,fun s hs=>by rw [valV_none (by simpa using fun z=>hs (List.mem_singleton.mpr z))],by simp [valV],fun j s p n h0 e=>by
      cases j with
      | zero=>exact absurd h0 (Nat.lt_irrefl _)
      | succ j=>simp at e⟩
    have mt4:MtAt H4 [V.ref b] [s1]:=⟨rfl,fun j v s e1 e2=>by
      cases j with
      | zero =>
        simp only [List.getElem?_cons_zero,Option.some.injEq] at e1 e2
        subst e1 e2
        exact ⟨b,rfl,s4 _ _ pr1.2.2⟩
      | succ j=>simp at e1⟩
    walk_at "rdf"
    refine ⟨fun m σ' H'=>∃ (ms:List (List Key)) (ps:List (Nat×Int)) (xs:List V) (place:Nat) (o6 o7 o8:Option V),m=D.length - place∧σ'=[some (.ref df),some (.ref Ts),some (.ref dt),some (.ref on),some (.ref lm),some (.int place),o6,o7,o8,none,none]∧Same H1 H'∧Fm.Tree (edgeF F) s1 ms ps∧H' lm=some (.lst xs)∧MtAt H' xs ms∧OnAt H' on s1 ms ps∧place≤ms.length∧(place=0→ms=[s1]) ∧
        (∀ (j:Nat) s,j<place→ms[j]?=some s→∀ q∈tiesT F s,q.1∈ms)∧(∀ s∈ms,s∈D),⟨_,[s1],[(0,0)],[V.ref b],0,none,none,none,rfl,rfl,s4,Fm.Tree.one,elm,mt4,on4,Nat.zero_le _,fun _=>rfl,fun j s h=>absurd h (Nat.not_lt_zero _),fun s hs=>by rw [List.mem_singleton.mp hs]; exact hs1⟩,?_⟩
    rintro m σ' H5 ⟨ms,ps,xs,place,o6,o7,o8,rfl,rfl,s5,tr,e5,mt,oa,hpl,hp0,hdone,hsub⟩
    have pr5:=pr1.mono s5
    obtain ⟨kvs,ok1,ok2,ok3,ok4,ok5⟩:=oa.ob
    have lms:ms.length≤D.length:=nodup_leR ms D tr.nd hsub
    walk_at "rdf"
    refine rd_ixT (SqT.of pr5.1) (v:=.ref a) rfl ?_
    walk_at "rdf"
    refine ⟨on,_,rfl,DGet.t ok1 pr5.2.1,?_⟩
    rw [oa.isIn tr ok1]
    by_cases hm:s0∈ms
    · rw [decide_eq_true hm]
      walk_at "rdf"
      refine ⟨by show 0≤sizeLine; decide,fun ln nln=>?_⟩
      have sln:=Same.new (o:=HO.lst []) nln
      have eln:=upd_same (H:=H5) (a:=ln) (o:=HO.lst [])
      generalize upd H5 ln (HO.lst [])=H6 at sln eln ⊢
      have s6:=s5.trans sln
      have oa6:=oa.but (sln.butL []) (fun x hx=>nomatch hx) (fun z=>nomatch z)
      have ok6:=sln _ _ ok1
      have lno:ln≠on:=(ne_of_none ok1 nln).symm
      have nlnH:H ln=none:=s1'.free (s5.free nln)
      obtain ⟨j,hj⟩:=List.mem_iff_getElem?.mp hm
      have jl:=(List.getElem?_eq_some_iff.mp hj).1
      obtain ⟨ns,bk⟩:=tr.back j jl
      have way:=bk.way tr hj
      have nsd:=(bk.nodup (edge_one ndF) tr jl).1
      obtain ⟨v,hv,lk⟩:=oa6.link tr ok6 hj
      walk_at "rdf"
      refine rd_ixT (SqT.of (sln _ _ pr5.1)) (v:=.ref a) rfl ?_
      walk_at "rdf"
      refine rd_dgetT ok6 (sln _ _ pr5.2.1) hv ?_
      walk_at "rdf"
      refine ⟨fun m σ' H'=>∃ (j:Nat) (acc rest:List Int) (v:V),m=j∧σ'=[some (.ref df),some (.ref Ts),some (.ref dt),some (.ref on),some (.ref lm),some (.int place),o6,o7,o8,some (.ref ln),some v]∧Same H H'∧H' on=some (.dT kvs)∧OnAt H' on s1 ms ps∧H' ln=some (.lst (acc.map V.int))∧j<ms.length∧acc.length+j≤80∧LinkAt H' ms ps j v∧Fm.Back ps j rest∧acc++rest=ns,⟨_,j,[],ns,v,rfl,rfl,s1'.trans s6,ok6,oa6,eln,jl,by show 0+j≤80; omega,lk,bk,rfl⟩,?_⟩
      rintro m σ' H7 ⟨j,acc,rest,v,rfl,rfl,s7,ok7,oa7,e7,jl7,la,lk7,bk7,hns⟩
      rcases lk7 with ⟨rfl,rfl⟩ | ⟨h0,b',a',p,n,s',hp,rfl,hb',hs',ha'⟩
      · cases bk7 with
        | zero =>
          rw [List.append_nil] at hns
          subst hns
          walk_at "rdf"
          refine ⟨rfl,_,rfl,?_⟩
          rw [decide_eq_true (rfl:V.non=V.non)]
          walk_at "rdf"
          exact k ln acc H7 s7 nlnH e7 way nsd
        | succ h0 _ _ _=>exact absurd h0 (Nat.lt_irrefl _)
      · cases bk7 with
        | zero=>exact absurd h0 (Nat.lt_irrefl _)
        | @succ _ p2 n2 rest2 _ hp2 lt bk8 =>
          rw [hp] at hp2
          cases hp2
          walk_at "rdf"
          refine ⟨rfl,_,rfl,?_⟩
          rw [decide_eq_false (show ¬ V.ref b'=V.non from fun z=>by cases z)]
          refine iteT ?_
          refine ⟨fun σ' H'=>∃ v,σ'=[some (.ref df),some (.ref Ts),some (.ref dt),some (.ref on),some (.ref lm),some (.int place),o6,o7,o8,some (.ref ln),some v]∧Same H H'∧H' on=some (.dT kvs)∧OnAt H' on s1 ms ps∧H' ln=some (.lst ((acc++[n]).map V.int))∧LinkAt H' ms ps p v,?_,?_⟩
          · rintro σ' H' ⟨v,rfl,q1,q2,q3,q4,q5⟩
            exact ⟨p,lt,p,acc++[n],rest2,v,rfl,rfl,q1,q2,q3,q4,by omega,by rw [List.length_append]; show acc.length+1+p≤80; omega,q5,bk8,by rw [List.append_assoc]; exact hns⟩
          · walk_at "rdf"
            refine rd_bmL e7 ?_
            walk_at "rdf"
            refine rd_ixT (SqT.of hb') (v:=.int n) rfl ?_
            walk_at "rdf"
            refine rd_append e7 (by rw [List.length_map]; exact small1000 (by omega)) ?_
            have mb:ButL [ln] H7 (upd H7 ln (.lst (acc.map V.int++[V.int n]))):=(ButL.refl _ _).upd (by simp)
            have nt:NoT H7 [ln]:=fun x hx ys=>by rw [List.mem_singleton.mp hx,e7]; intro z; cases z
            have oa8:=oa7.but mb nt (by rw [List.mem_singleton]; exact lno.symm)
            have ok8:=mb _ _ ok7 (by rw [List.mem_singleton]; exact lno.symm)
            have hb8:=but_tup mb nt hb'
            have ha8:=but_tup mb nt ha'
            have s8:Same H (upd H7 ln (.lst (acc.map V.int++[V.int n]))):=fun c o e=>by rw [upd_ne (ne_of_none e nlnH)]; exact s7 _ _ e
            have e8:upd H7 ln (.lst (acc.map V.int++[V.int n])) ln=some (.lst ((acc++[n]).map V.int)):=by rw [upd_same,List.map_append]; rfl
            generalize upd H7 ln (.lst (acc.map V.int++[V.int n]))=H8 at oa8 ok8 hb8 ha8 s8 e8 ⊢
            obtain ⟨v',hv',lk'⟩:=oa8.link tr ok8 hs'
            walk_at "rdf"
            refine rd_ixT (SqT.of hb8) (v:=.ref a') rfl ?_
            walk_at "rdf"
            refine rd_dgetT ok8 ha8 hv' ?_
            walk_at "rdf"
            exact ⟨v',rfl,s8,ok8,oa8,e8,lk'⟩
    · rw [decide_eq_false hm]
      have hlt:place<ms.length:=by
        rcases Nat.lt_or_ge place ms.length with h | h
        · exact h
        · exact absurd (met_all (List.mem_of_getElem? tr.hd) (fun s hs q hq=>by
            obtain ⟨j,hj⟩:=List.mem_iff_getElem?.mp hs
            exact hdone j s (Nat.lt_of_lt_of_le (List.getElem?_eq_some_iff.mp hj).1 h) hj q hq) hcon) hm
      have hsh:=List.getElem?_eq_getElem hlt
      generalize ms[place]=sh at hsh
      obtain ⟨xv,hx⟩:∃ xv,xs[place]?=some xv:=⟨_,List.getElem?_eq_getElem (by rw [mt.1]; exact hlt)⟩
      obtain ⟨ah,rfl,hah⟩:=mt.2 place xv sh hx hsh
      have hne':tiesT F sh≠[]:=fun z=>by
        by_cases h0:place=0
        · have hms:=hp0 h0
          subst h0
          rw [hms] at hsh hm
          cases hsh
          exact hm (met_all List.mem_cons_self (fun s hs q hq=>by rw [List.mem_singleton.mp hs,z] at hq; cases hq) hcon)
        · have hp:=List.getElem?_eq_getElem (show place<ps.length by rw [tr.len]; exact hlt)
          obtain ⟨_,s',_,e⟩:=tr.par place sh _ _ (by omega) hsh hp
          have:=edge_tiesT e
          rw [z] at this
          cases this
      obtain ⟨v,hv⟩:∃ v,valV tkv sh=some v:=by
        cases hv:valV tkv sh with
        | none=>exact absurd (t3 sh hv) hne'
        | some v=>exact ⟨v,rfl⟩
      obtain ⟨l,ys,rfl,r1,r2,r3,r4⟩:=t4 sh v hv
      walk_at "rdf"
      refine ⟨fun σ' H'=>∃ (ms':List (List Key)) (ps':List (Nat×Int)) (xs':List V) (o6 o7 o8:Option V),σ'=[some (.ref df),some (.ref Ts),some (.ref dt),some (.ref on),some (.ref lm),some (.int ((place:Int)+1)),o6,o7,o8,none,none]∧Same H1 H'∧Fm.Tree (edgeF F) s1 ms' ps'∧H' lm=some (.lst xs')∧MtAt H' xs' ms'∧OnAt H' on s1 ms' ps'∧place+1≤ms'.length ∧
        (∀ (j:Nat) s,j<place+1→ms'[j]?=some s→∀ q∈tiesT F s,q.1∈ms')∧(∀ s∈ms',s∈D),?_,?_⟩
      · rintro σ' H' ⟨ms',ps',xs',o6,o7,o8,rfl,q1,q2,q3,q4,q5,q6,q7,q8⟩
        exact ⟨D.length - (place+1),by omega,ms',ps',xs',place+1,o6,o7,o8,rfl,rfl,q1,q2,q3,q4,q5,q6,fun z=>absurd z (Nat.succ_ne_zero _),q7,q8⟩
      · walk_at "rdf"
        refine rd_ixL (SqL.of e5) (atI_nat hx) ?_
        walk_at "rdf"
        refine rd_dgetT (s5 _ _ t1) hah hv ?_
        walk_at "rdf"
        refine ⟨⟨_,SqL.of (s5 _ _ r3)⟩,?_⟩
        refine forW_list (K:=K) (a:=l) (xs:=ys) (fun i σ' H'=>∃ (ms':List (List Key)) (ps':List (Nat×Int)) (xs':List V) (o7 o8:Option V),σ'=[some (.ref df),some (.ref Ts),some (.ref dt),some (.ref on),some (.ref lm),some (.int place),some (.ref ah),o7,o8,none,none]∧Same H1 H'∧Fm.Tree (edgeF F) s1 ms' ps'∧H' lm=some (.lst xs')∧MtAt H' xs' ms'∧OnAt H' on s1 ms' ps'∧H' ah=some (.tup (sh.map kV)) ∧
            (∀ (j:Nat) s,ms[j]?=some s→ms'[j]?=some s)∧(∀ s∈ms,s∈ms')∧(∀ q∈(tiesT F sh).take i,q.1∈ms')∧(∀ s∈ms',s∈D))
          ⟨ms,ps,xs,o7,o8,rfl,s5,tr,e5,mt,oa,hah,fun _ _ h=>h,fun _ h=>h,(fun q hq=>by rw [List.take_zero] at hq; cases hq),hsub⟩ ?_ ?_ ?_
        · rintro i σ' H' _ ⟨_,_,_,_,_,rfl,z,_⟩
          exact SqL.of (z _ _ r3)
        · rintro i y σ' H6 hy ⟨ms',ps',xs',o7,o8,rfl,s6,tr6,e6,mt6,oa6,hah6,pre,sub,don,hsub6⟩
          have hi:i<(tiesT F sh).length:=by rw [← r4.1]; exact (List.getElem?_eq_some_iff.mp hy).1
          have hq:=List.getElem?_eq_getElem hi
          have tk:(tiesT F sh).take (i+1)=(tiesT F sh).take i++[(tiesT F sh)[i]]:=(List.take_append_getElem hi).symm
          have hqm:=List.getElem_mem hi
          generalize (tiesT F sh)[i]=q at hq tk hqm
          obtain ⟨b2,as,rfl,hb2,has⟩:=r4.2 i y q hy hq
          have hed:=mem_tiesT hqm
          have hqD:q.1∈D:=by
            obtain ⟨f,hf,h | h⟩:=hed
            · rw [← h.1]; exact (hD _ hf).1
            · rw [← h.1]; exact (hD _ hf).2
          obtain ⟨kv6,ok6,lk6,_⟩:=oa6.ob
          have l6:ms'.length≤D.length:=nodup_leR ms' D tr6.nd hsub6
          refine rd_gtup (s6 _ _ hb2) rfl ?_
          walk_at "rdf"
          refine ⟨on,_,rfl,DGet.t ok6 (s6 _ _ has),?_⟩
          rw [oa6.isIn tr6 ok6]
          by_cases hu:q.1∈ms'
          · rw [decide_eq_true hu]
            walk_at "rdf"
            refine ⟨ms',ps',xs',_,_,rfl,s6,tr6,e6,mt6,oa6,hah6,pre,sub,fun r hr=>?_,hsub6⟩
            rw [tk] at hr
            rcases List.mem_append.mp hr with hr | hr
            · exact don r hr
            · rw [List.mem_singleton.mp hr]; exact hu
          · rw [decide_eq_false hu]
            walk_at "rdf"
            refine ⟨by show 2≤sizeLine; decide,fun b3 nb3=>?_⟩
            have sb3:=Same.new (o:=HO.tup [V.ref ah,V.int q.2]) nb3
            have eb3:=upd_same (H:=H6) (a:=b3) (o:=HO.tup [V.ref ah,V.int q.2])
            generalize upd H6 b3 (HO.tup [V.ref ah,V.int q.2])=H7 at sb3 eb3 ⊢
            have s7:=s6.trans sb3
            have oa7:=oa6.but (sb3.butL []) (fun x hx=>nomatch hx) (fun z=>nomatch z)
            have mt7:=mt6.but (sb3.butL []) (fun x hx=>nomatch hx)
            have e7:=sb3 _ _ e6
            walk_at "rdf"
            refine ⟨on,_,rfl,DPut.t (k:=q.1) (sb3 _ _ ok6) (s7 _ _ has) (small1000 (by omega)),?_⟩
            have lmo':lm≠on:=lmo
            have oa8:=oa7.put (p:=place) (s':=sh) (a:=ah) (b:=b3) tr6 (sb3 _ _ ok6) hu eb3 (pre _ _ hsh) (sb3 _ _ hah6)
            have mb:ButL [on] H7 (upd H7 on (.dT (putK kv6 q.1 (.ref b3)))):=(ButL.refl _ _).upd (by simp)
            have nt:NoT H7 [on]:=fun x hx ys=>by rw [List.mem_singleton.mp hx,sb3 _ _ ok6]; intro z; cases z
            have mt8:=mt7.but mb nt
            have e8:=mb _ _ e7 (by rw [List.mem_singleton]; exact lmo)
            have hah8:=but_tup mb nt (sb3 _ _ hah6)
            have s8:Same H1 (upd H7 on (.dT (putK kv6 q.1 (.ref b3)))):=fun c o e=>by rw [upd_ne (ne_of_none e non)]; exact s7 _ _ e
            generalize upd H7 on (.dT (putK kv6 q.1 (.ref b3)))=H8 at oa8 mt8 e8 hah8 s8 ⊢
            walk_at "rdf"
            refine rd_bmL e8 ?_
            walk_at "rdf"
            refine rd_append e8 (by rw [mt6.1]; exact small1000 (by omega)) ?_
            have mb2:ButL [lm] H8 (upd H8 lm (.lst (xs'++[.ref as]))):=(ButL.refl _ _).upd (by simp)
            have nt2:NoT H8 [lm]:=fun x hx ys=>by rw [List.mem_singleton.mp hx,e8]; intro z; cases z
            walk_at "rdf"
            refine ⟨ms'++[q.1],ps'++[(place,q.2)],xs'++[.ref as],_,_,rfl,fun c o e=>by rw [upd_ne (ne_of_none e nlm1)]; exact s8 _ _ e,tr6.snoc hu (pre _ _ hsh) hed,upd_same,(mt8.snoc (s8 _ _ has)).but mb2 nt2,oa8.but mb2 nt2 (by rw [List.mem_singleton]; exact lmo.symm),but_tup mb2 nt2 hah8,fun j s h=>?_,fun s h=>List.mem_append_left _ (sub s h),fun r hr=>?_,fun s h=>?_⟩
            · have:=pre j s h
              rw [List.getElem?_append_left (List.getElem?_eq_some_iff.mp this).1]
              exact this
            · rw [tk] at hr
              rcases List.mem_append.mp hr with hr | hr
              · exact List.mem_append_left _ (don r hr)
              · rw [List.mem_singleton.mp hr]; exact List.mem_append_right _ (List.mem_singleton.mpr rfl)
            · rcases List.mem_append.mp h with h | h
              · exact hsub6 s h
              · rw [List.mem_singleton.mp h]; exact hqD
        · rintro σ' H6 ⟨ms',ps',xs',o7,o8,rfl,s6,tr6,e6,mt6,oa6,hah6,pre,sub,don,hsub6⟩
          rw [r4.1,List.take_of_length_le (Nat.le_refl _)] at don
          have hpl':=(List.getElem?_eq_some_iff.mp (pre _ _ hsh)).1
          walk_at "rdf"
          refine ⟨ms',ps',xs',_,_,_,rfl,s6,tr6,e6,mt6,oa6,hpl',fun j s hj hjs q hq=>?_,hsub6⟩
          by_cases hjp:j=place
          · subst hjp
            rw [pre _ _ hsh] at hjs
            cases hjs
            exact don q hq
          · have hjm:=List.getElem?_eq_getElem (show j<ms.length by omega)
            have:=pre _ _ hjm
            rw [hjs] at this
            cases this
            exact sub _ (hdone j _ (by omega) hjm q hq)
end
local macro_rules | `(tactic| walk_at "rd1") => `(tactic| first
 | ((with_reducible refine' rd_var (v:=?kv) ?ke ?kh); (case ke=>exact rfl))
 | (with_reducible refine rd_seqA fun _ _=>?_) | (with_reducible refine rd_asg ?_) | (with_reducible refine rd_name ?_) | (with_reducible refine rd_ret ?_) | (with_reducible refine rd_retN ?_) | (with_reducible refine rd_drop ?_)
 | (with_reducible refine rd_ifS ?_) | (with_reducible refine rd_tB ?_) | (with_reducible refine rd_tTest ?_) | (with_reducible refine rd_exbl ?_) | (with_reducible refine rd_c ?_) | (with_reducible refine rd_op ?_) | (with_reducible refine rd_un ?_)
 | (with_reducible refine rd_andV ?_) | (with_reducible refine rd_orV ?_) | (with_reducible refine rd_notV ?_) | (with_reducible refine rd_and ?_) | (with_reducible refine rd_or ?_) | (with_reducible refine rd_not ?_) | (with_reducible refine rd_if ?_) | (with_reducible refine rd_true ?_)
 | (with_reducible refine rd_I0 ?_) | (with_reducible refine rd_U ?_) | (with_reducible refine rd_eqI ?_) | (with_reducible refine rd_neI ?_) | (with_reducible refine rd_eqS ?_) | (with_reducible refine rd_eqB ?_) | (with_reducible refine rd_neB ?_)
 | (with_reducible refine rd_chain ?_) | (with_reducible refine rd_call ?_) | (with_reducible refine rd_nil ?_) | (with_reducible refine rd_cons ?_) | (with_reducible refine rd_CB ?_) | (with_reducible refine rd_tup ?_) | (with_reducible refine rd_lst ?_)
 | (with_reducible refine rd_next ?_) | ((with_reducible refine' rd_aug (x:=?kv) ?ke ?kh); (case ke=>exact rfl)) | (with_reducible refine rd_ipI ?_) | (with_reducible refine rd_gcons ?_) | (with_reducible refine rd_gnil ?_) | (with_reducible refine rd_gsub ?_) | (with_reducible refine rd_sfld ?_) | (with_reducible refine rd_while ?_) | (with_reducible refine rd_comp ?_) | (with_reducible refine rd_fld ?_) | (with_reducible refine rd_meth ?_) | (with_reducible refine rd_make ?_) | (with_reducible refine rd_raise ?_) | (with_reducible refine rd_try ?_) | (with_reducible refine rd_callS ?_) | (with_reducible refine rd_methS ?_) | (with_reducible refine rd_makeS ?_) | (with_reducible refine rd_bm ?_) | (with_reducible refine rd_bm0 ?_) | (with_reducible refine rd_sl ?_) | (with_reducible refine rd_nopart ?_) | (with_reducible refine rd_part ?_) | (with_reducible refine rd_exint ?_) | (with_reducible refine rd_exref ?_)
 | (with_reducible refine rd_abs ?_) | (with_reducible refine rd_min2 ?_) | (with_reducible refine rd_max2 ?_) | (with_reducible refine rd_intB ?_) | (with_reducible refine rd_for ?_) | (with_reducible refine rd_rng1 ?_) | (with_reducible refine rd_ilist ?_) | (with_reducible refine rd_itup ?_) | (with_reducible refine rd_izipS ?_) | (with_reducible refine iteT ?_) | (with_reducible refine iteF ?_) | (with_reducible refine if_true_do ?_) | (with_reducible refine iteNN ?_) | (with_reducible refine iteTA ?_) | (with_reducible refine iteFA ?_) | ((with_reducible refine' rd_cut (r:=?kr) ?ke ?kh); (case ke=>assumption)) | (dsimp only))
local macro_rules | `(tactic| walk_at "rd") => `(tactic| repeat walk_at "rd1")
section
variable {P:Program} {w:World} {K:PySem.W.Frag} {mg:Str→Option Value} {base:Heap} {t:Ad}
def Sm (z:Int):Prop:=-1000000000000000000<z∧z<1000000000000000000
theorem sm_snoc {zs:List Int} {z:Int} (h:∀ y∈zs,Sm y) (hz:Sm z):∀ y∈zs++[z],Sm y:=fun y hy=>by
 rcases List.mem_append.mp hy with q | q
 ·exact h y q
 ·rw [List.mem_singleton.mp q]; exact hz
theorem sm_mod (r:Int) {m:Int} (h0:0<m) (h1:m≤1000003):Sm (r%m):=by
 have:=Int.emod_nonneg r (by omega:m≠0)
 have:=Int.emod_lt_of_pos r h0
 unfold Sm; omega
def sp_Ldraws (K:PySem.W.Frag):Sp:=fun vs H Q _=>∃ (a:Addr) (m:Nat) (ns:List Int),vs=[.ref a,.int m]∧SqL K H a (ns.map V.int)∧ns.length≤63∧m≤200 ∧
 ∀ (l:Addr) (zs:List Int) (H':Hp),Same H H'→H' l=some (.lst (zs.map V.int))→m≤zs.length→zs.length≤300→(∀ z∈zs,Sm z)→Q (.ref l) H'
theorem map_snoc (zs:List Int) (z:Int):zs.map V.int++[V.int z]=(zs++[z]).map V.int:=by simp
theorem ok_Ldraws (T:Txt K mg t):FnOk P w K mg base CX0 1 t.f_Ldraws t.d_Ldraws ["_law_script","_law_many"] (sp_Ldraws K):=by
 refine T.F_Ldraws.ok sc_Ldraws (fun vs H Q E h=>?_) (fun cdv A outer s H vs Q E hr h=>?_)
 ·obtain ⟨a,m,ns,rfl,_⟩:=h; rfl
 ·obtain ⟨a,m,ns,rfl,hS,hl,hm,k⟩:=h
  refine cutC (ps_set (i:=2) sc_Ldraws.nd rfl (Or.inl rfl) (pe_lst pa_nil)) fun _ _=>cutC (ps_set (i:=3) sc_Ldraws.nd rfl (Or.inl rfl) pe_int) fun _ _=>cutC (ps_for PassesOwn.never rfl (pi_list (pv 0)) (pg_name (i:=4) sc_Ldraws.nd rfl (Or.inl rfl)) (pss_cons (ps_set (i:=3) sc_Ldraws.nd rfl (Or.inl rfl) (pe_op op_mod (pe_op op_add (pe_op op_mul (pv 3) pe_int) (pv 4)) pe_int)) (pss_cons (ps_set (i:=5) sc_Ldraws.nd rfl (Or.inl rfl) (pe_callB cI_abs rfl T.no_abs (by rfl) (pa_cons (pv 4) pa_nil))) (pss_cons (ps_if (pt_cmpR op_lt (pv 5) (pe_op op_pow pe_int pe_int) (nomark _)) (pss_cons (ps_expr (pe_bm PySem.F.plainAttrs_list PySem.F.slot_list_append PySem.F.type_list_append mt_append (pv 2) (pa_cons (pv 4) pa_nil))) (pss_one (ps_set (i:=5) sc_Ldraws.nd rfl (Or.inl rfl) pe_int))) pss_nil) (pss_one (ps_while PassesOwn.never (PW.pt (pw_and (pt_cmpR op_gt (pv 5) pe_int (nomark _)) (pw_and1 (pt_cmpR op_lt (pe_callB (cI_lenK K rfl) rfl T.no_len (by rfl) (pa_cons (pv 2) pa_nil)) (pv 1) (nomark _))))) (pss_cons (ps_expr (pe_bm PySem.F.plainAttrs_list PySem.F.slot_list_append PySem.F.type_list_append mt_append (pv 2) (pa_cons (pe_op op_mod (pv 5) pe_int) pa_nil))) (pss_one (ps_set (i:=5) sc_Ldraws.nd rfl (Or.inl rfl) (pe_op op_fdiv (pv 5) pe_int)))))))))) fun _ _=>cutC (ps_while PassesOwn.never (pt_cmpR op_lt (pe_callB (cI_lenK K rfl) rfl T.no_len (by rfl) (pa_cons (pv 2) pa_nil)) (pv 1) (nomark _)) (pss_cons (ps_set (i:=3) sc_Ldraws.nd rfl (Or.inl rfl) (pe_op op_mod (pe_op op_add (pe_op op_mul (pv 3) pe_int) pe_int) pe_int)) (pss_one (ps_expr (pe_bm PySem.F.plainAttrs_list PySem.F.slot_list_append PySem.F.type_list_append mt_append (pv 2) (pa_cons (pe_op op_mod (pe_op op_mul (pv 3) (pv 3)) pe_int) pa_nil)))))) fun _ _=>cutE (ps_ret (pv 2)) fun _ _=>?_
  walk_at "rd"
  refine ⟨Nat.zero_le _,fun l hn=>?_⟩
  walk_at "rd"
  have hz:∀ {zs:List Int},zs.length≤300→(zs.map V.int).length<sizeLine:=fun h=>by rw [List.length_map]; exact small1000 (by omega)
  refine ⟨⟨_,(Same.new hn).seq hS⟩,forW_list (K:=K) (a:=a) (xs:=ns.map V.int) (fun i σ' H'=>∃ (zs:List Int) (mix:Int) (c r:Option V),σ'=[some (.ref a),some (.int m),some (.ref l),some (.int mix),c,r]∧Same H H'∧H' l=some (.lst (zs.map V.int))∧zs.length≤i+m∧∀ z∈zs,Sm z)
   ⟨[],1,none,none,rfl,Same.new hn,upd_same,Nat.zero_le _,fun z hz=>by cases hz⟩ (fun i σ' H' _ ⟨_,_,_,_,_,s,_⟩=>s.seq hS) ?_ ?_⟩
  ·rintro i y σ' H' hi ⟨zs,mix,c,r,rfl,s1,e1,lz,sm⟩
   have hil:i<ns.length:=by have:=(List.getElem?_eq_some_iff.mp hi).1; rwa [List.length_map] at this
   obtain ⟨z,rfl⟩:∃ z,y=V.int z:=by
    rw [List.getElem?_map] at hi
    cases e:ns[i]? with
    | none=>rw [e] at hi; cases hi
    | some z=>rw [e] at hi; exact ⟨z,(Option.some.inj hi).symm⟩
   walk_at "rd"
   refine rd_I (.inr ⟨by decide,by decide⟩) ?_
   walk_at "rd"
   refine rd_I (by decide) ?_
   walk_at "rd"
   refine rd_I ⟨by decide,by decide,by decide⟩ ?_
   walk_at "rd"
   refine ite2 (fun hc=>?_) (fun _=>?_)
   ·have hc:=of_decide_eq_true hc
    have hcz:Sm z:=by
     unfold Sm
     have e18:(10:Int) ^ 18=1000000000000000000:=by decide
     by_cases hz0:z<0
     ·rw [if_pos hz0] at hc; change -z<(10:Int) ^ 18 at hc; omega
     ·rw [if_neg hz0] at hc; change z<(10:Int) ^ 18 at hc; omega
    walk_at "rd"
    refine rd_bmL e1 ?_
    walk_at "rd"
    refine rd_append e1 (hz (by omega)) ?_
    rw [map_snoc]
    walk_at "rd"
    refine ⟨fun n σ' H'=>∃ (zs:List Int) (mix:Int) (r:Int),σ'=[some (.ref a),some (.int m),some (.ref l),some (.int mix),some (.int z),some (.int r)]∧Same H H'∧H' l=some (.lst (zs.map V.int))∧zs.length≤i+1+m∧n=m - zs.length∧∀ z∈zs,Sm z,
     ⟨_,zs++[z],_,_,rfl,s1.later hn,upd_same,by rw [List.length_append,List.length_singleton]; omega,rfl,sm_snoc sm hcz⟩,?_⟩
    rintro n σ' H' ⟨zs,mix,r,rfl,s1,e1,lz,rfl,sm⟩
    walk_at "rd"
    refine ite2 (fun _=>?_) (fun _=>?_)
    ·walk_at "rd"
     refine rd_lenL e1 ?_
     walk_at "rd"
     rw [List.length_map]
     refine ite2 (fun h2=>?_) (fun h2=>?_)
     ·have h2:=of_decide_eq_true h2
      refine ⟨fun σ' H'=>∃ (zs':List Int) (mix:Int) (r:Int),σ'=[some (.ref a),some (.int m),some (.ref l),some (.int mix),some (.int z),some (.int r)]∧Same H H'∧H' l=some (.lst (zs'.map V.int))∧zs'.length=zs.length+1∧∀ z∈zs',Sm z,?_,?_⟩
      ·rintro σ' H' ⟨zs',mix,r,rfl,s1,e1,lz',sm'⟩
       exact ⟨m - zs'.length,by omega,zs',mix,r,rfl,s1,e1,by omega,rfl,sm'⟩
      ·walk_at "rd"
       refine rd_bmL e1 ?_
       walk_at "rd"
       refine rd_I (by decide) ?_
       walk_at "rd"
       refine rd_append e1 (hz (by omega)) ?_
       rw [map_snoc]
       walk_at "rd"
       refine rd_I ⟨by decide,by decide⟩ ?_
       walk_at "rd"
       exact ⟨zs++[r%1000003],mix,_,rfl,s1.later hn,upd_same,by rw [List.length_append,List.length_singleton],sm_snoc sm (sm_mod r (by decide) (by decide))⟩
     ·walk_at "rd"
      exact ⟨zs,mix,_,_,rfl,s1,e1,lz,sm⟩
    ·walk_at "rd"
     exact ⟨zs,mix,_,_,rfl,s1,e1,lz,sm⟩
   ·walk_at "rd"
    refine ⟨fun n σ' H'=>∃ (zs:List Int) (mix:Int) (r:Int),σ'=[some (.ref a),some (.int m),some (.ref l),some (.int mix),some (.int z),some (.int r)]∧Same H H'∧H' l=some (.lst (zs.map V.int))∧zs.length≤i+1+m∧n=m - zs.length∧∀ z∈zs,Sm z,
     ⟨_,zs,_,_,rfl,s1,e1,by omega,rfl,sm⟩,?_⟩
    rintro n σ' H' ⟨zs,mix,r,rfl,s1,e1,lz,rfl,sm⟩
    walk_at "rd"
    refine ite2 (fun _=>?_) (fun _=>?_)
    ·walk_at "rd"
     refine rd_lenL e1 ?_
     walk_at "rd"
     rw [List.length_map]
     refine ite2 (fun h2=>?_) (fun h2=>?_)
     ·have h2:=of_decide_eq_true h2
      refine ⟨fun σ' H'=>∃ (zs':List Int) (mix:Int) (r:Int),σ'=[some (.ref a),some (.int m),some (.ref l),some (.int mix),some (.int z),some (.int r)]∧Same H H'∧H' l=some (.lst (zs'.map V.int))∧zs'.length=zs.length+1∧∀ z∈zs',Sm z,?_,?_⟩
      ·rintro σ' H' ⟨zs',mix,r,rfl,s1,e1,lz',sm'⟩
       exact ⟨m - zs'.length,by omega,zs',mix,r,rfl,s1,e1,by omega,rfl,sm'⟩
      ·walk_at "rd"
       refine rd_bmL e1 ?_
       walk_at "rd"
       refine rd_I (by decide) ?_
       walk_at "rd"
       refine rd_append e1 (hz (by omega)) ?_
       rw [map_snoc]
       walk_at "rd"
       refine rd_I ⟨by decide,by decide⟩ ?_
       walk_at "rd"
       exact ⟨zs++[r%1000003],mix,_,rfl,s1.later hn,upd_same,by rw [List.length_append,List.length_singleton],sm_snoc sm (sm_mod r (by decide) (by decide))⟩
     ·walk_at "rd"
      exact ⟨zs,mix,_,_,rfl,s1,e1,lz,sm⟩
    ·walk_at "rd"
     exact ⟨zs,mix,_,_,rfl,s1,e1,lz,sm⟩
  ·rintro σ' H' ⟨zs,mix,c,r,rfl,s1,e1,lz,sm⟩
   rw [List.length_map] at lz
   walk_at "rd"
   refine ⟨fun n σ' H'=>∃ (zs:List Int) (mix:Int),σ'=[some (.ref a),some (.int m),some (.ref l),some (.int mix),c,r]∧(-(2 ^ 64)<mix∧mix<2 ^ 64∨True)∧Same H H'∧H' l=some (.lst (zs.map V.int))∧zs.length≤300∧n=m - zs.length∧∀ z∈zs,Sm z,
    ⟨_,zs,mix,rfl,.inr trivial,s1,e1,by omega,rfl,sm⟩,?_⟩
   rintro n σ' H' ⟨zs,mix,rfl,_,s1,e1,lz,rfl,sm⟩
   walk_at "rd"
   refine rd_lenL e1 ?_
   walk_at "rd"
   rw [List.length_map]
   refine ite2 (fun h2=>?_) (fun h2=>?_)
   ·have h2:=of_decide_eq_true h2
    refine ⟨fun σ' H'=>∃ (zs':List Int) (mix:Int),σ'=[some (.ref a),some (.int m),some (.ref l),some (.int mix),c,r]∧Same H H'∧H' l=some (.lst (zs'.map V.int))∧zs'.length=zs.length+1∧∀ z∈zs',Sm z,?_,?_⟩
    ·rintro σ' H' ⟨zs',mix,rfl,s1,e1,lz',sm'⟩
     exact ⟨m - zs'.length,by omega,zs',mix,rfl,.inr trivial,s1,e1,by omega,rfl,sm'⟩
    ·walk_at "rd"
     refine rd_I (.inr ⟨by decide,by decide⟩) ?_
     walk_at "rd"
     refine rd_I (by decide) ?_
     walk_at "rd"
     refine rd_bmL e1 ?_
     walk_at "rd"
     refine rd_I (.inl ⟨by omega,by omega⟩) ?_
     walk_at "rd"
     refine rd_I (by decide) ?_
     walk_at "rd"
     refine rd_append e1 (hz (by omega)) ?_
     rw [map_snoc]
     walk_at "rd"
     exact ⟨zs++[_],_,rfl,s1.later hn,upd_same,by rw [List.length_append,List.length_singleton],sm_snoc sm (sm_mod _ (by decide) (by decide))⟩
   ·have h2:¬ ((zs.length:Int)<m):=fun z=>h2 (decide_eq_true z)
    walk_at "rd"
    exact k l zs H' s1 e1 (by omega) (by omega) sm
end
section
variable {P:Program} {w:World} {K:PySem.W.Frag} {mg:Str→Option Value} {base:Heap} {t:Ad}
theorem bits_sum {l:List Int} (h:∀ z∈l,z=0∨z=1):0≤l.sum∧l.sum≤l.length:=by
 induction l with
 | nil=>exact ⟨Int.le_refl 0,Int.le_refl 0⟩
 | cons z r ih =>
  have:=ih fun y hy=>h y (List.mem_cons_of_mem _ hy)
  rw [List.sum_cons,List.length_cons]
  rcases h z List.mem_cons_self with rfl | rfl<;>omega
theorem bits_small {l:List Int} (h:∀ z∈l,z=0∨z=1) (hl:l.length≤1000):SmallSum l:=fun k hk=>by
 refine ⟨?_,fun n hn=>?_⟩
 ·have:=bits_sum (l:=l.take k) fun z hz=>h z (List.mem_of_mem_take hz)
  rw [List.length_take] at this
  unfold InLong
  omega
 ·unfold InLong
  rcases h n hn with rfl | rfl<;>decide
theorem cutV_take {zs:List Int} {x:Int} (h:0≤x):cutV (zs.map V.int) none (some x)=(zs.take x.toNat).map V.int:=by
 obtain ⟨k,rfl⟩:∃ k:Nat,x=(k:Int):=⟨x.toNat,by omega⟩
 unfold cutV
 rw [HT.sIx_none,HT.sIx_nat,List.drop_zero,Nat.sub_zero,Int.toNat_natCast,← List.map_take]
 congr 1
 rw [List.length_map]
 rcases Nat.le_total k zs.length with h | h
 ·rw [Nat.min_eq_left h]
 ·rw [Nat.min_eq_right h,List.take_of_length_le (Nat.le_refl _),List.take_of_length_le h]
end
def Bits (l:List Int):Prop:=l.length≤39∧∀ z∈l,z=0∨z=1
section
variable {P:Program} {w:World} {K:PySem.W.Frag} {mg:Str→Option Value} {base:Heap} {t:Ad}
def sp_Lbits:Sp:=fun vs H Q _=>∃ (n:Int) (m:Nat),vs=[.int n,.int m]∧m≤100∧∀ (l:Addr) (bs:List Int) (H':Hp),Same H H'→H l=none→H' l=some (.lst (bs.map V.int))→bs.length=m→(∀ z∈bs,z=0∨z=1)→Q (.ref l) H'
theorem emod_le {a b:Int} (ha:0≤a) (hb:0<b):a%b≤a:=by
 obtain ⟨m,rfl⟩:=Int.eq_ofNat_of_zero_le ha
 obtain ⟨n,rfl⟩:=Int.eq_ofNat_of_zero_le (Int.le_of_lt hb)
 rw [← Int.natCast_emod]
 exact Int.ofNat_le.mpr (Nat.mod_le _ _)
theorem mod2 (n:Int):n%2=0∨n%2=1:=by omega
theorem ok_Lbits (T:Txt K mg t):FnOk P w K mg base CX0 1 t.f_Lbits t.d_Lbits ["_law_number","_law_many"] sp_Lbits:=by
 refine T.F_Lbits.ok sc_Lbits (fun vs H Q E h=>?_) (fun cdv A outer s H vs Q E hr h=>?_)
 ·obtain ⟨n,m,rfl,_⟩:=h; rfl
 ·obtain ⟨n,m,rfl,hm,k⟩:=h
  refine cutC (ps_set (i:=2) sc_Lbits.nd rfl (Or.inl rfl) (pe_lst pa_nil)) fun _ _=>cutC (ps_for PassesOwn.never rfl (pi_range1 rfl T.no_range (pa_cons (pv 1) pa_nil)) (pg_name (i:=3) sc_Lbits.nd rfl (Or.inl rfl)) (pss_cons (ps_expr (pe_bm PySem.F.plainAttrs_list PySem.F.slot_list_append PySem.F.type_list_append mt_append (pv 2) (pa_cons (pe_op op_mod (pv 0) pe_int) pa_nil))) (pss_one (ps_set (i:=0) sc_Lbits.nd rfl (Or.inl rfl) (pe_op op_fdiv (pv 0) pe_int))))) fun _ _=>cutE (ps_ret (pv 2)) fun _ _=>?_
  walk_at "rd"
  refine ⟨Nat.zero_le _,fun l hn=>?_⟩
  walk_at "rd"
  refine ⟨m,rfl,by omega,by omega,?_⟩
  rw [Int.toNat_natCast]
  refine forW_range (fun i σ' H'=>∃ (n:Int) (bs:List Int) (c:Option V),σ'=[some (.int n),some (.int m),some (.ref l),c]∧Same H H'∧H' l=some (.lst (bs.map V.int))∧bs.length=i∧∀ z∈bs,z=0∨z=1)
   ⟨n,[],none,rfl,Same.new hn,upd_same,rfl,fun z hz=>by cases hz⟩ ?_ ?_
  ·rintro i σ' H' hi ⟨n,bs,c,rfl,s1,e1,lb,hb⟩
   walk_at "rd"
   refine rd_bmL e1 ?_
   walk_at "rd"
   refine rd_I (by decide) ?_
   walk_at "rd"
   refine rd_append e1 (by rw [List.length_map]; exact small1000 (by omega)) ?_
   rw [map_snoc]
   walk_at "rd"
   refine rd_I ⟨by decide,by decide⟩ ?_
   walk_at "rd"
   refine ⟨_,bs++[n%2],_,rfl,s1.later hn,upd_same,by rw [List.length_append,List.length_singleton]; omega,fun z hz=>?_⟩
   rcases List.mem_append.mp hz with h | h
   ·exact hb z h
   ·rw [List.mem_singleton.mp h]; exact mod2 n
  ·rintro σ' H' ⟨n,bs,c,rfl,s1,e1,lb,hb⟩
   walk_at "rd"
   exact k l bs H' s1 hn e1 lb hb
def sp_Lrow:Sp:=fun vs H Q _=>∃ (a:Addr) (m:Nat) (zs:List Int),vs=[.ref a,.int m]∧H a=some (.lst (zs.map V.int))∧4≤zs.length∧m≤100∧∀ (l:Addr) (bs:List Int) (H':Hp),Same H H'→H l=none→H' l=some (.lst (bs.map V.int))→bs.length=m→(∀ z∈bs,z=0∨z=1)→Q (.ref l) H'
theorem ok_Lrow (T:Txt K mg t):FnOk P w K mg base CX0 2 t.f_Lrow t.d_Lrow ["_law_some","_law_many"] sp_Lrow:=by
 have G_Lbits:=ok_Lbits (P:=P) (w:=w) (base:=base) T
 refine T.F_Lrow.ok sc_Lrow (fun vs H Q E h=>?_) (fun cdv A outer s H vs Q E hr h=>?_)
 ·obtain ⟨a,m,zs,rfl,_⟩:=h; rfl
 ·obtain ⟨a,m,zs,rfl,ha,hl,hm,k⟩:=h
  refine cutC (ps_set (i:=2) sc_Lrow.nd rfl (Or.inl rfl) (pe_op op_add (pe_op op_add (pe_ix (ix_listK K rfl) (pv 0) pe_int (fun _ _=>rfl)) (pe_op op_mul pe_int (pe_ix (ix_listK K rfl) (pv 0) pe_int (fun _ _=>rfl)))) (pe_op op_mul (pe_op op_mul pe_int pe_int) (pe_ix (ix_listK K rfl) (pv 0) pe_int (fun _ _=>rfl))))) fun _ _=>cutC (ps_if (pt_cmpR op_eq (pe_op op_mod (pe_ix (ix_listK K rfl) (pv 0) pe_int (fun _ _=>rfl)) pe_int) pe_int (nomark _)) (pss_one (ps_set (i:=2) sc_Lrow.nd rfl (Or.inl rfl) (pe_un un_neg (pe_op op_mod (pe_ix (ix_listK K rfl) (pv 0) pe_int (fun _ _=>rfl)) pe_int)))) pss_nil) fun _ _=>cutC (ps_set (i:=3) sc_Lrow.nd rfl (Or.inr rfl) (pe_call G_Lbits (hr.mono (by first | decide | omega)) rfl T.mg_Lbits T.F_Lbits.kp T.b_Lbits .nil pass0 (pa_cons (pv 2) (pa_cons (pv 1) pa_nil)))) fun _ _=>cutC (ps_if (pt_cmpR op_eq (pe_op op_mod (pe_ix (ix_listK K rfl) (pv 0) pe_int (fun _ _=>rfl)) pe_int) pe_int (nomark _)) (pss_one (ps_set (i:=3) sc_Lrow.nd rfl (Or.inr rfl) (pe_comp (N:=["_law_k","_law_row_here","_law_some"]) (cap:=[none,some 3,some 0]) rfl ⟨rfl,rfl,rfl,rfl,rfl,rfl⟩ (pi_range1 rfl T.no_range (pa_cons (pv 1) pa_nil)) (fun _ _ _=>(pg_name (i:=0) (show (["_law_k","_law_row_here","_law_some"]:List Str).Nodup by decide +kernel) rfl (Or.inl rfl))) (fun _ _ _=>pts_nil) (fun _ _ _=>(pe_ix (ix_listK K rfl) (pv 1) (pe_op op_mod (pv 0) (pe_op op_add pe_int (pe_op op_mod (pe_ix (ix_listK K rfl) (pv 2) pe_int (fun _ _=>rfl)) pe_int))) (fun _ _=>rfl)))))) pss_nil) fun _ _=>cutE (ps_ret (pv 3)) fun _ _=>?_
  have I0:atI (zs.map V.int) 0=_:=atI_ints (by decide) (by omega)
  have I1:atI (zs.map V.int) 1=_:=atI_ints (by decide) (by omega)
  have I2:atI (zs.map V.int) 2=_:=atI_ints (by decide) (by omega)
  have I3:atI (zs.map V.int) 3=_:=atI_ints (by decide) (by omega)
  generalize zs.getD (0:Int).toNat 0=z0 at I0
  generalize zs.getD (1:Int).toNat 0=z1 at I1
  generalize zs.getD (2:Int).toNat 0=z2 at I2
  generalize zs.getD (3:Int).toNat 0=z3 at I3
  -- behind the raw number: the bits,and the pattern
  walk_at "rd"
  refine rd_ixL (SqL.of ha) I0 ?_
  walk_at "rd"
  refine rd_ixL (SqL.of ha) I1 ?_
  walk_at "rd"
  refine rd_I (.inl ⟨by decide,by decide⟩) ?_
  walk_at "rd"
  refine rd_I (.inl ⟨by decide,by decide⟩) ?_
  walk_at "rd"
  refine rd_ixL (SqL.of ha) I2 ?_
  walk_at "rd"
  refine rd_I (.inl ⟨by decide,by decide⟩) ?_
  walk_at "rd"
  refine rd_ixL (SqL.of ha) I3 ?_
  walk_at "rd"
  refine rd_I (by decide) ?_
  walk_at "rd"
  refine ite2 (fun _=>?_) (fun _=>?_)
  ·walk_at "rd"
   refine rd_ixL (SqL.of ha) I0 ?_
   walk_at "rd"
   refine rd_I (by decide) ?_
   walk_at "rd"
   refine ⟨_,m,rfl,hm,fun l bs H1 s1 n1 e1 lb hb=>?_⟩
   walk_at "rd"
   refine rd_ixL (SqL.of (s1 _ _ ha)) I3 ?_
   walk_at "rd"
   refine rd_I (by decide) ?_
   walk_at "rd"
   refine ite2 (fun _=>?_) (fun _=>?_)
   ·walk_at "rd"
    refine ⟨m,rfl,by omega,by omega,fun l2 hn=>?_⟩
    rw [Int.toNat_natCast]
    refine compW_range (fun i=>.int (bs.getD (((0:Int)+(i:Nat))%(1+z1%4)).toNat 0)) (by omega) hn (fun i o H' Q' hi s2 q=>?_) (fun H' s2 e2=>?_)
    ·walk_at "rd"
     refine rd_ixL (SqL.of (s2 _ _ (s1 _ _ ha))) I1 ?_
     walk_at "rd"
     refine rd_I (by decide) ?_
     walk_at "rd"
     have p1:0<1+z1%4:=by omega
     refine rd_I p1 ?_
     walk_at "rd"
     have q0:=Int.emod_nonneg ((0:Int)+(i:Nat)) (by omega:1+z1%4≠0)
     have q1:((0:Int)+(i:Nat))%(1+z1%4)≤(0:Int)+(i:Nat):=emod_le (by omega) (by omega)
     refine rd_ixL (SqL.of (s2 _ _ e1)) (atI_ints q0 (by omega)) ?_
     exact q H' (Same.refl _)
    ·walk_at "rd"
     refine k l2 ((List.range m).map fun i=>bs.getD (((0:Int)+(i:Nat))%(1+z1%4)).toNat 0) H' (s1.trans s2) (s1.free hn) (by rw [e2,List.map_map]; rfl) (by rw [List.length_map,List.length_range]) fun z hz=>?_
     obtain ⟨i,hi,rfl⟩:=List.mem_map.mp hz
     have hi:=List.mem_range.mp hi
     have q0:=Int.emod_nonneg ((0:Int)+(i:Nat)) (by omega:1+z1%4≠0)
     have q1:((0:Int)+(i:Nat))%(1+z1%4)≤(0:Int)+(i:Nat):=emod_le (by omega) (by omega)
     exact hb _ (L2.getD_mem (by omega))
   ·walk_at "rd"
    exact k l bs H1 s1 n1 e1 lb hb
  ·walk_at "rd"
   refine ⟨_,m,rfl,hm,fun l bs H1 s1 n1 e1 lb hb=>?_⟩
   walk_at "rd"
   refine rd_ixL (SqL.of (s1 _ _ ha)) I3 ?_
   walk_at "rd"
   refine rd_I (by decide) ?_
   walk_at "rd"
   refine ite2 (fun _=>?_) (fun _=>?_)
   ·walk_at "rd"
    refine ⟨m,rfl,by omega,by omega,fun l2 hn=>?_⟩
    rw [Int.toNat_natCast]
    refine compW_range (fun i=>.int (bs.getD (((0:Int)+(i:Nat))%(1+z1%4)).toNat 0)) (by omega) hn (fun i o H' Q' hi s2 q=>?_) (fun H' s2 e2=>?_)
    ·walk_at "rd"
     refine rd_ixL (SqL.of (s2 _ _ (s1 _ _ ha))) I1 ?_
     walk_at "rd"
     refine rd_I (by decide) ?_
     walk_at "rd"
     have p1:0<1+z1%4:=by omega
     refine rd_I p1 ?_
     walk_at "rd"
     have q0:=Int.emod_nonneg ((0:Int)+(i:Nat)) (by omega:1+z1%4≠0)
     have q1:((0:Int)+(i:Nat))%(1+z1%4)≤(0:Int)+(i:Nat):=emod_le (by omega) (by omega)
     refine rd_ixL (SqL.of (s2 _ _ e1)) (atI_ints q0 (by omega)) ?_
     exact q H' (Same.refl _)
    ·walk_at "rd"
     refine k l2 ((List.range m).map fun i=>bs.getD (((0:Int)+(i:Nat))%(1+z1%4)).toNat 0) H' (s1.trans s2) (s1.free hn) (by rw [e2,List.map_map]; rfl) (by rw [List.length_map,List.length_range]) fun z hz=>?_
     obtain ⟨i,hi,rfl⟩:=List.mem_map.mp hz
     have hi:=List.mem_range.mp hi
     have q0:=Int.emod_nonneg ((0:Int)+(i:Nat)) (by omega:1+z1%4≠0)
     have q1:((0:Int)+(i:Nat))%(1+z1%4)≤(0:Int)+(i:Nat):=emod_le (by omega) (by omega)
     exact hb _ (L2.getD_mem (by omega))
   ·walk_at "rd"
    exact k l bs H1 s1 n1 e1 lb hb
end
section
variable {P:Program} {w:World} {K:PySem.W.Frag} {mg:Str→Option Value} {base:Heap} {t:Ad}
structure PlanAt (tupl:Bool) (H:Hp) (p:Addr) (s:Int) (cs rs:List Int):Prop where
 ob:∃ c r,H p=some (if tupl then .tup [.int s,.ref c,.ref r] else .lst [.int s,.ref c,.ref r])∧H c=some (.lst (cs.map V.int))∧H r=some (.lst (rs.map V.int))
 sh:s=0∨s=1
 bc:Bits cs
 br:Bits rs
theorem PlanAt.mono {b:Bool} {H H':Hp} {p:Addr} {s:Int} {cs rs:List Int} (e:Same H H') (c:PlanAt b H p s cs rs):PlanAt b H' p s cs rs:=by
 obtain ⟨⟨a,b,h1,h2,h3⟩,x,y,z⟩:=c
 exact ⟨⟨a,b,e _ _ h1,e _ _ h2,e _ _ h3⟩,x,y,z⟩
def sp_Lsmall:Sp:=fun vs H Q _=>∃ (a:Addr) (zs:List Int),vs=[.ref a]∧H a=some (.lst (zs.map V.int))∧12≤zs.length∧∀ p s cs rs H',Same H H'→PlanAt true H' p s cs rs→Q (.ref p) H'
theorem pick_a (i:Int):0<([5,9,16,40,5]:List Int).getD (i%5).toNat 0∧([5,9,16,40,5]:List Int).getD (i%5).toNat 0≤40:=by
 have h:=L2.getD_mem (zs:=([5,9,16,40,5]:List Int)) (k:=(i%5).toNat) (d:=0) (by simp; omega)
 simp only [List.mem_cons,List.not_mem_nil,or_false] at h
 rcases h with h | h | h | h | h<;>rw [h]<;>decide
theorem pick_b (i:Int):0<([5,9,12,5,40]:List Int).getD (i%5).toNat 0∧([5,9,12,5,40]:List Int).getD (i%5).toNat 0≤40:=by
 have h:=L2.getD_mem (zs:=([5,9,12,5,40]:List Int)) (k:=(i%5).toNat) (d:=0) (by simp; omega)
 simp only [List.mem_cons,List.not_mem_nil,or_false] at h
 rcases h with h | h | h | h | h<;>rw [h]<;>decide
theorem ok_Lsmall (T:Txt K mg t):FnOk P w K mg base CX0 3 t.f_Lsmall t.d_Lsmall ["_law_some"] sp_Lsmall:=by
 have G_Lrow:=ok_Lrow (P:=P) (w:=w) (base:=base) T
 refine T.F_Lsmall.ok sc_Lsmall (fun vs H Q E h=>?_) (fun cdv A outer s H vs Q E hr h=>?_)
 ·obtain ⟨a,zs,rfl,_⟩:=h; rfl
 ·obtain ⟨a,zs,rfl,ha,hl,k⟩:=h
  refine cutC (ps_set (i:=1) sc_Lsmall.nd rfl (Or.inl rfl) (pe_op op_add pe_int (pe_op op_mod (pe_ix (ix_listK K rfl) (pv 0) pe_int (fun _ _=>rfl)) (pe_ix (ix_listK K rfl) (pe_lst (pa_cons pe_int (pa_cons pe_int (pa_cons pe_int (pa_cons pe_int (pa_cons pe_int pa_nil)))))) (pe_op op_mod (pe_ix (ix_listK K rfl) (pv 0) pe_int (fun _ _=>rfl)) pe_int) (fun _ _=>rfl))))) fun _ _=>cutC (ps_set (i:=2) sc_Lsmall.nd rfl (Or.inl rfl) (pe_op op_add pe_int (pe_op op_mod (pe_ix (ix_listK K rfl) (pv 0) pe_int (fun _ _=>rfl)) (pe_ix (ix_listK K rfl) (pe_lst (pa_cons pe_int (pa_cons pe_int (pa_cons pe_int (pa_cons pe_int (pa_cons pe_int pa_nil)))))) (pe_op op_mod (pe_ix (ix_listK K rfl) (pv 0) pe_int (fun _ _=>rfl)) pe_int) (fun _ _=>rfl))))) fun _ _=>cutE (ps_ret (pe_tup (pa_cons (pe_op op_mod (pe_ix (ix_listK K rfl) (pv 0) pe_int (fun _ _=>rfl)) pe_int) (pa_cons (pe_call G_Lrow (hr.mono (by first | decide | omega)) rfl T.mg_Lrow T.F_Lrow.kp T.b_Lrow .nil pass0 (pa_cons (pe_slice (sl_listK K rfl) (pv 0) (po_some pe_int) po_none) (pa_cons (pe_op op_sub (pv 1) pe_int) pa_nil))) (pa_cons (pe_call G_Lrow (hr.mono (by first | decide | omega)) rfl T.mg_Lrow T.F_Lrow.kp T.b_Lrow .nil pass0 (pa_cons (pe_slice (sl_listK K rfl) (pv 0) (po_some pe_int) po_none) (pa_cons (pe_op op_sub (pv 2) pe_int) pa_nil))) pa_nil))))) fun _ _=>?_
  have I0:atI (zs.map V.int) 0=_:=atI_ints (by decide) (by omega)
  have I1:atI (zs.map V.int) 1=_:=atI_ints (by decide) (by omega)
  have I2:atI (zs.map V.int) 2=_:=atI_ints (by decide) (by omega)
  have I3:atI (zs.map V.int) 3=_:=atI_ints (by decide) (by omega)
  generalize zs.getD (0:Int).toNat 0=z0 at I0
  generalize zs.getD (1:Int).toNat 0=z1 at I1
  generalize zs.getD (2:Int).toNat 0=z2 at I2
  generalize zs.getD (3:Int).toNat 0=z3 at I3
  have m0:0≤z0%5:=by omega
  have m5:z0%5<5:=by omega
  walk_at "rd"
  refine rd_ixL (SqL.of ha) I1 ?_
  walk_at "rd"
  refine ⟨by show 5≤sizeLine; decide,fun l1 n1=>?_⟩
  have s1:=Same.new (o:=HO.lst (([5,9,16,40,5]:List Int).map V.int)) n1
  walk_at "rd"
  refine rd_ixL (SqL.of (s1 _ _ ha)) I0 ?_
  walk_at "rd"
  refine rd_I (by decide) ?_
  walk_at "rd"
  refine rd_ixL (SqL.of (xs:=([5,9,16,40,5]:List Int).map V.int) upd_same) (atI_ints m0 m5) ?_
  walk_at "rd"
  refine rd_I (pick_a z0).1 ?_
  walk_at "rd"
  refine rd_ixL (SqL.of (s1 _ _ ha)) I2 ?_
  walk_at "rd"
  refine ⟨by show 5≤sizeLine; decide,fun l2 n2=>?_⟩
  have s2:=Same.new (o:=HO.lst (([5,9,12,5,40]:List Int).map V.int)) n2
  walk_at "rd"
  refine rd_ixL (SqL.of (s2 _ _ (s1 _ _ ha))) I0 ?_
  walk_at "rd"
  refine rd_I (by decide) ?_
  walk_at "rd"
  refine rd_ixL (SqL.of (xs:=([5,9,12,5,40]:List Int).map V.int) upd_same) (atI_ints m0 m5) ?_
  walk_at "rd"
  refine rd_I (pick_b z0).1 ?_
  walk_at "rd"
  have ha2:=s2 _ _ (s1 _ _ ha)
  refine rd_ixL (SqL.of ha2) I3 ?_
  walk_at "rd"
  refine rd_I (by decide) ?_
  walk_at "rd"
  have va:=pick_a z0
  have vb:=pick_b z0
  generalize ([5,9,16,40,5]:List Int).getD (z0%5).toNat 0=va' at va ⊢
  generalize ([5,9,12,5,40]:List Int).getD (z0%5).toNat 0=vb' at vb ⊢
  have wa0:=Int.emod_nonneg z1 (by omega:va'≠0)
  have wa1:=Int.emod_lt_of_pos z1 va.1
  have wb0:=Int.emod_nonneg z2 (by omega:vb'≠0)
  have wb1:=Int.emod_lt_of_pos z2 vb.1
  refine rd_slL ha2 fun l3 n3=>?_
  have s3:=Same.new (o:=HO.lst (cutV (zs.map V.int) (some 4) none)) n3
  walk_at "rd"
  refine ⟨l3,(z1%va').toNat,zs.drop 4,(by show [V.ref l3,V.int (1+z1%va' - 1)]=_; rw [show (1+z1%va' - 1:Int)=(((z1%va').toNat:Nat):Int) by omega]),by rw [upd_same]; exact congrArg (fun x=>some (HO.lst x)) (cutV_drop (k:=4)),by rw [List.length_drop]; omega,by omega,fun c cs H1 s4 _ ec lc bc=>?_⟩
  walk_at "rd"
  have ha4:=s4 _ _ (s3 _ _ ha2)
  refine rd_slL ha4 fun l5 n5=>?_
  have s5:=Same.new (o:=HO.lst (cutV (zs.map V.int) (some 8) none)) n5
  walk_at "rd"
  refine ⟨l5,(z2%vb').toNat,zs.drop 8,(by show [V.ref l5,V.int (1+z2%vb' - 1)]=_; rw [show (1+z2%vb' - 1:Int)=(((z2%vb').toNat:Nat):Int) by omega]),by rw [upd_same]; exact congrArg (fun x=>some (HO.lst x)) (cutV_drop (k:=8)),by rw [List.length_drop]; omega,by omega,fun r rs H2 s6 _ er lr br=>?_⟩
  walk_at "rd"
  refine ⟨by show 3≤sizeLine; decide,fun p hp=>?_⟩
  have s7:=Same.new (o:=HO.tup [V.int (z3%2),V.ref c,V.ref r]) hp
  exact k p (z3%2) cs rs _ (s1.trans (s2.trans (s3.trans (s4.trans (s5.trans (s6.trans s7)))))) ⟨⟨c,r,upd_same,s7 _ _ (s6 _ _ (s5 _ _ ec)),s7 _ _ er⟩,mod2 z3,⟨by omega,bc⟩,⟨by omega,br⟩⟩
end
section
variable {P:Program} {w:World} {K:PySem.W.Frag} {mg:Str→Option Value} {base:Heap} {t:Ad}
def bitsOf (col:Bool) (cs rs:List Int):List Int:=if col=true then cs else rs
def sp_Lsewn:Sp:=fun vs H Q _=>∃ (q:Addr) (col:Bool) (k st s:Int) (cs rs:List Int),vs=[.ref q,.str (wyS col),.int k,.int st]∧PlanAt true H q s cs rs∧0≤k∧k<(bitsOf col cs rs).length∧Q (.bl (decide ((st+(bitsOf col cs rs).getD k.toNat 0)%2=1))) H
theorem wy_row (col:Bool):decide (wyS col="row")=!col:=by cases col<;>decide +kernel
theorem ok_Lsewn (T:Txt K mg t):FnOk P w K mg base CX0 1 t.f_Lsewn t.d_Lsewn ["_law_plan","_law_way","_law_k","_law_step"] sp_Lsewn:=by
 refine T.F_Lsewn.ok sc_Lsewn (fun vs H Q E h=>?_) (fun cdv A outer s H vs Q E hr h=>?_)
 ·obtain ⟨q,col,k,st,s,cs,rs,rfl,_⟩:=h; rfl
 ·obtain ⟨q,col,k,st,s,cs,rs,rfl,pl,h0,h1,z⟩:=h
  obtain ⟨⟨c,r,hq,hc,hr'⟩,sh,bc,br⟩:=id pl
  refine cutC (ps_set (i:=4) sc_Lsewn.nd rfl (Or.inl rfl) (pe_ix (ix_tupK K rfl) (pv 0) pe_int (fun _ _=>rfl))) fun _ _=>cutC (ps_if (pt_cmpR op_eq (pv 1) pe_str (nomark _)) (pss_one (ps_set (i:=4) sc_Lsewn.nd rfl (Or.inl rfl) (pe_ix (ix_tupK K rfl) (pv 0) pe_int (fun _ _=>rfl)))) pss_nil) fun _ _=>cutE (ps_ret (pe_cmpR op_eq (pe_op op_mod (pe_op op_add (pv 3) (pe_ix (ix_listK K rfl) (pv 4) (pv 2) (fun _ _=>rfl))) pe_int) pe_int (nomark _))) fun _ _=>?_
  walk_at "rdf"
  refine rd_ixT (SqT.of hq) (v:=.ref c) rfl ?_
  walk_at "rdf"
  rw [wy_row]
  cases col with
  | true =>
   walk_at "rdf"
   refine rd_ixL (SqL.of hc) (atI_ints h0 h1) ?_
   walk_at "rdf"
   refine rd_I (by decide) ?_
   walk_at "rdf"
   exact z
  | false =>
   walk_at "rdf"
   refine rd_ixT (SqT.of hq) (v:=.ref r) rfl ?_
   walk_at "rdf"
   refine rd_ixL (SqL.of hr') (atI_ints h0 h1) ?_
   walk_at "rdf"
   refine rd_I (by decide) ?_
   walk_at "rdf"
   exact z
def valC (s:Int) (cs rs:List Int) (x y:Int):Int:=(s+(cs.take x.toNat).sum+((rs.take y.toNat).sum+x*y))%2
def sp_Lvalue:Sp:=fun vs H Q _=>∃ (q:Addr) (x y s:Int) (cs rs:List Int),vs=[.ref q,.int x,.int y]∧PlanAt true H q s cs rs∧0≤x∧x≤40∧0≤y∧∀ H',Same H H'→Q (.int (valC s cs rs x y)) H'
theorem ok_Lvalue (T:Txt K mg t):FnOk P w K mg base CX0 1 t.f_Lvalue t.d_Lvalue ["_law_plan","_law_x","_law_y"] sp_Lvalue:=by
 refine T.F_Lvalue.ok sc_Lvalue (fun vs H Q E h=>?_) (fun cdv A outer s H vs Q E hr h=>?_)
 ·obtain ⟨q,x,y,s,cs,rs,rfl,_⟩:=h; rfl
 ·obtain ⟨q,x,y,s,cs,rs,rfl,pl,x0,x1,y0,z⟩:=h
  obtain ⟨⟨c,r,hq,hc,hr'⟩,sh,bc,br⟩:=id pl
  have bs1:=bits_small (l:=cs.take x.toNat) (fun z hz=>bc.2 z (List.mem_of_mem_take hz)) (by rw [List.length_take]; have:=bc.1; omega)
  have bs2:=bits_small (l:=rs.take y.toNat) (fun z hz=>br.2 z (List.mem_of_mem_take hz)) (by rw [List.length_take]; have:=br.1; omega)
  refine cutC (ps_set (i:=3) sc_Lvalue.nd rfl (Or.inl rfl) (pe_op op_add (pe_ix (ix_tupK K rfl) (pv 0) pe_int (fun _ _=>rfl)) (pe_callB (cI_sumK K rfl rfl) rfl T.no_sum (by rfl) (pa_cons (pe_slice (sl_listK K rfl) (pe_ix (ix_tupK K rfl) (pv 0) pe_int (fun _ _=>rfl)) po_none (po_some (pv 1))) pa_nil)))) fun _ _=>cutC (ps_aug (i:=3) sc_Lvalue.nd rfl (Or.inl rfl) (pe_op op_add (pe_callB (cI_sumK K rfl rfl) rfl T.no_sum (by rfl) (pa_cons (pe_slice (sl_listK K rfl) (pe_ix (ix_tupK K rfl) (pv 0) pe_int (fun _ _=>rfl)) po_none (po_some (pv 2))) pa_nil)) (pe_op op_mul (pv 1) (pv 2))) ip_add) fun _ _=>cutE (ps_ret (pe_op op_mod (pv 3) pe_int)) fun _ _=>?_
  walk_at "rdf"
  refine rd_ixT (SqT.of hq) (v:=.int s) rfl ?_
  walk_at "rdf"
  refine rd_ixT (SqT.of hq) (v:=.ref c) rfl ?_
  walk_at "rdf"
  refine rd_slL hc fun l1 n1=>?_
  rw [cutV_take x0]
  have s1:=Same.new (o:=HO.lst ((cs.take x.toNat).map V.int)) n1
  have e1:=upd_same (H:=H) (a:=l1) (o:=HO.lst ((cs.take x.toNat).map V.int))
  generalize upd H l1 (HO.lst ((cs.take x.toNat).map V.int))=H1 at s1 e1 ⊢
  walk_at "rdf"
  refine rd_sumL e1 bs1 ?_
  walk_at "rdf"
  refine rd_ixT (SqT.of (s1 _ _ hq)) (v:=.ref r) rfl ?_
  walk_at "rdf"
  refine rd_slL (s1 _ _ hr') fun l2 n2=>?_
  rw [cutV_take y0]
  have s2:=Same.new (o:=HO.lst ((rs.take y.toNat).map V.int)) n2
  have e2:=upd_same (H:=H1) (a:=l2) (o:=HO.lst ((rs.take y.toNat).map V.int))
  generalize upd H1 l2 (HO.lst ((rs.take y.toNat).map V.int))=H2 at s2 e2 ⊢
  walk_at "rdf"
  refine rd_sumL e2 bs2 ?_
  walk_at "rdf"
  refine rd_I (.inl ⟨by omega,by omega⟩) ?_
  walk_at "rdf"
  refine rd_I (by decide) ?_
  walk_at "rdf"
  exact z H2 (s1.trans s2)
def vP (s:Int) (cs rs:List Int):List Key→Int
 | [.inr c,.inl i]=>if c="x" then s+(cs.take i.toNat).sum else (rs.take i.toNat).sum
 | _=>0
theorem vP_x {s:Int} {cs rs:List Int} {i:Int}:vP s cs rs (sx i)=s+(cs.take i.toNat).sum:=by show (if ("x":Str)="x" then s+(cs.take i.toNat).sum else (rs.take i.toNat).sum)=_; rw [if_pos rfl]
theorem vP_y {s:Int} {cs rs:List Int} {i:Int}:vP s cs rs (sy i)=(rs.take i.toNat).sum:=by show (if ("y":Str)="x" then s+(cs.take i.toNat).sum else (rs.take i.toNat).sum)=_; rw [if_neg (by decide +kernel)]
def Tr (v:List Key→Int) (f:Fct):Prop:=f.tie.2.2=(v f.tie.1+v f.tie.2.1)%2
theorem sum_take1 {l:List Int} {k:Nat} (h:k<l.length):(l.take (k+1)).sum=(l.take k).sum+l.getD k 0:=by
 rw [List.take_add_one,List.getElem?_eq_getElem h,List.sum_append,List.getD_eq_getElem?_getD,List.getElem?_eq_getElem h]
 simp
theorem tr_cell {s:Int} {cs rs:List Int} {x y:Int}:Tr (vP s cs rs) (.cell x y (valC s cs rs x y)):=by
 show (valC s cs rs x y+x*y)%2=(vP s cs rs (sx x)+vP s cs rs (sy y))%2
 rw [vP_x,vP_y]
 unfold valC
 generalize x*y=m
 omega
theorem tr_line {s:Int} {cs rs:List Int} (bc:Bits cs) (br:Bits rs) {col:Bool} {k st:Int} (h0:0≤k) (h1:k<(bitsOf col cs rs).length):Tr (vP s cs rs) (.line col k st (decide ((st+(bitsOf col cs rs).getD k.toNat 0)%2=1))):=by
 have bit:(bitsOf col cs rs).getD k.toNat 0=0∨(bitsOf col cs rs).getD k.toNat 0=1:=by
  have hm:=L2.getD_mem (zs:=bitsOf col cs rs) (k:=k.toNat) (d:=0) (by omega)
  cases col with
  | true => exact bc.2 _ hm
  | false => exact br.2 _ hm
 have hs:(vP s cs rs (stS col k)+vP s cs rs (stS col (k+1)))%2=(bitsOf col cs rs).getD k.toNat 0:=by
  have e1:(k+1).toNat=k.toNat+1:=by omega
  cases col with
  | true =>
   show (vP s cs rs (sx k)+vP s cs rs (sx (k+1)))%2=_
   rw [vP_x,vP_x,e1,sum_take1 (show k.toNat<cs.length by have:(bitsOf true cs rs).length=cs.length:=rfl; omega)]
   show _=cs.getD k.toNat 0
   have:cs.getD k.toNat 0=0∨cs.getD k.toNat 0=1:=bit
   omega
  | false =>
   show (vP s cs rs (sy k)+vP s cs rs (sy (k+1)))%2=_
   rw [vP_y,vP_y,e1,sum_take1 (show k.toNat<rs.length by have:(bitsOf false cs rs).length=rs.length:=rfl; omega)]
   show _=rs.getD k.toNat 0
   have:rs.getD k.toNat 0=0∨rs.getD k.toNat 0=1:=bit
   omega
 show (if decide ((st+(bitsOf col cs rs).getD k.toNat 0)%2=1)=true then (st+1)%2 else st%2)=(vP s cs rs (stS col k)+vP s cs rs (stS col (k+1)))%2
 rw [hs]
 generalize (bitsOf col cs rs).getD k.toNat 0=b at bit
 by_cases c:(st+b)%2=1
 ·rw [if_pos (decide_eq_true c)]; omega
 ·rw [if_neg (by rw [decide_eq_false c]; decide)]; omega
def sp_Lfact:Sp:=fun vs H Q _=>∃ (q:Addr) (i j l s:Int) (cs rs:List Int),vs=[.ref q,.int i,.int j,.int l]∧PlanAt true H q s cs rs∧∀ a f H',Same H H'→H' a=some (.tup f.vs)→f.inW ((cs.length:Nat)+1:Nat) ((rs.length:Nat)+1:Nat)→Tr (vP s cs rs) f→Q (.ref a) H'
theorem valC_bit {s:Int} {cs rs:List Int} {x y:Int}:valC s cs rs x y=0∨valC s cs rs x y=1:=by unfold valC; omega
theorem ok_Lfact (T:Txt K mg t):FnOk P w K mg base CX0 2 t.f_Lfact t.d_Lfact ["_law_plan","_law_one","_law_two","_law_three"] sp_Lfact:=by
 have G_Lsewn:=ok_Lsewn (P:=P) (w:=w) (base:=base) T
 have G_Lvalue:=ok_Lvalue (P:=P) (w:=w) (base:=base) T
 refine T.F_Lfact.ok sc_Lfact (fun vs H Q E h=>?_) (fun cdv A outer s H vs Q E hr h=>?_)
 ·obtain ⟨q,i,j,l,s,cs,rs,rfl,_⟩:=h; rfl
 ·obtain ⟨q,i,j,l,s,cs,rs,rfl,pl,z⟩:=h
  obtain ⟨⟨c,r,hq,hc,hr'⟩,sh,bc,br⟩:=id pl
  have lc:=bc.1
  have lr:=br.1
  refine cutC (ps_set (i:=4) sc_Lfact.nd rfl (Or.inl rfl) (pe_op op_add (pe_callB (cI_lenK K rfl) rfl T.no_len (by rfl) (pa_cons (pe_ix (ix_tupK K rfl) (pv 0) pe_int (fun _ _=>rfl)) pa_nil)) pe_int)) fun _ _=>cutC (ps_set (i:=5) sc_Lfact.nd rfl (Or.inl rfl) (pe_op op_add (pe_callB (cI_lenK K rfl) rfl T.no_len (by rfl) (pa_cons (pe_ix (ix_tupK K rfl) (pv 0) pe_int (fun _ _=>rfl)) pa_nil)) pe_int)) fun _ _=>cutC (ps_join (ps_if (PW.pt (pw_and (pt_cmpR op_eq (pe_op op_mod (pv 1) pe_int) pe_int (nomark _)) (pw_and1 (pt_cmpR op_gt (pv 4) pe_int (nomark _))))) (pss_cons (ps_par (i:=6) (j:=7) rfl sc_Lfact.nd rfl rfl (by decide) rfl rfl (pa_cons (pe_op op_mod (pv 2) (pe_op op_sub (pv 4) pe_int)) (pa_cons (pe_op op_mod (pv 3) (pv 5)) pa_nil)) (by rfl)) (pss_one (ps_ret (pe_tup (pa_cons pe_str (pa_cons (pv 6) (pa_cons (pv 7) (pa_cons (pe_call G_Lsewn (hr.mono (by first | decide | omega)) rfl T.mg_Lsewn T.F_Lsewn.kp T.b_Lsewn .nil pass0 (pa_cons (pv 0) (pa_cons pe_str (pa_cons (pv 6) (pa_cons (pv 7) pa_nil))))) pa_nil)))))))) pss_nil)) fun _ _=>cutC (ps_join (ps_if (PW.pt (pw_and (pt_cmpR op_eq (pe_op op_mod (pv 1) pe_int) pe_int (nomark _)) (pw_and1 (pt_cmpR op_gt (pv 5) pe_int (nomark _))))) (pss_cons (ps_par (i:=6) (j:=7) rfl sc_Lfact.nd rfl rfl (by decide) rfl rfl (pa_cons (pe_op op_mod (pv 2) (pe_op op_sub (pv 5) pe_int)) (pa_cons (pe_op op_mod (pv 3) (pv 4)) pa_nil)) (by rfl)) (pss_one (ps_ret (pe_tup (pa_cons pe_str (pa_cons (pv 6) (pa_cons (pv 7) (pa_cons (pe_call G_Lsewn (hr.mono (by first | decide | omega)) rfl T.mg_Lsewn T.F_Lsewn.kp T.b_Lsewn .nil pass0 (pa_cons (pv 0) (pa_cons pe_str (pa_cons (pv 6) (pa_cons (pv 7) pa_nil))))) pa_nil)))))))) pss_nil)) fun _ _=>cutC (ps_par (i:=8) (j:=9) rfl sc_Lfact.nd rfl rfl (by decide) rfl rfl (pa_cons (pe_op op_mod (pv 2) (pv 4)) (pa_cons (pe_op op_mod (pv 3) (pv 5)) pa_nil)) (by rfl)) fun _ _=>cutE (ps_ret (pe_tup (pa_cons pe_str (pa_cons (pv 8) (pa_cons (pv 9) (pa_cons (pe_call G_Lvalue (hr.mono (by first | decide | omega)) rfl T.mg_Lvalue T.F_Lvalue.kp T.b_Lvalue .nil pass0 (pa_cons (pv 0) (pa_cons (pv 8) (pa_cons (pv 9) pa_nil)))) pa_nil)))))) fun _ _=>?_
  walk_at "rdf"
  refine rd_ixT (SqT.of hq) (v:=.ref c) rfl ?_
  walk_at "rdf"
  refine rd_lenL hc ?_
  rw [List.length_map]
  walk_at "rdf"
  refine rd_ixT (SqT.of hq) (v:=.ref r) rfl ?_
  walk_at "rdf"
  refine rd_lenL hr' ?_
  rw [List.length_map]
  walk_at "rdf"
  have ec:((cs.length:Nat):Int)+1=(((cs.length+1:Nat)):Int):=by omega
  have er:((rs.length:Nat):Int)+1=(((rs.length+1:Nat)):Int):=by omega
  refine rd_join (fun σ' H'=>σ'=[some (.ref q),some (.int i),some (.int j),some (.int l),some (.int ((cs.length:Nat)+1)),some (.int ((rs.length:Nat)+1)),none,none,none,none]∧H=H') ?_ ?_
  ·walk_at "rdf"
   refine rd_I (by decide) ?_
   walk_at "rdf"
   refine ite2 (fun _=>?_) (fun _=>?_)
   ·walk_at "rdf"
    refine ite2 (fun c1=>?_) (fun _=>?_)
    ·have c1:=of_decide_eq_true c1
     walk_at "rdf"
     refine rd_I (show (0:Int)<(cs.length:Nat)+1 - 1 by omega) ?_
     walk_at "rdf"
     refine rd_I (show (0:Int)<(rs.length:Nat)+1 by omega) ?_
     refine ⟨_,_,rfl,?_⟩
     have k0:=Int.emod_nonneg j (show ((cs.length:Nat)+1 - 1:Int)≠0 by omega)
     have k1:=Int.emod_lt_of_pos j (show (0:Int)<(cs.length:Nat)+1 - 1 by omega)
     have t0:=Int.emod_nonneg l (show ((rs.length:Nat)+1:Int)≠0 by omega)
     have t1:=Int.emod_lt_of_pos l (show (0:Int)<(rs.length:Nat)+1 by omega)
     generalize j%((cs.length:Nat)+1 - 1:Int)=kk at k0 k1 ⊢
     generalize l%((rs.length:Nat)+1:Int)=st at t0 t1 ⊢
     have kl:kk<(bitsOf true cs rs).length:=by show kk<cs.length; omega
     walk_at "rdf"
     refine ⟨q,true,kk,st,s,cs,rs,rfl,pl,k0,kl,?_⟩
     walk_at "rdf"
     refine ⟨by show 4≤sizeLine; decide,fun a na=>?_⟩
     have sa:=Same.new (o:=HO.tup [V.str (Str.ofString "col"),V.int kk,V.int st,V.bl (decide ((st+(bitsOf true cs rs).getD kk.toNat 0)%2=1))]) na
     have ea:=upd_same (H:=H) (a:=a) (o:=HO.tup [V.str (Str.ofString "col"),V.int kk,V.int st,V.bl (decide ((st+(bitsOf true cs rs).getD kk.toNat 0)%2=1))])
     generalize upd H a (HO.tup [V.str (Str.ofString "col"),V.int kk,V.int st,V.bl (decide ((st+(bitsOf true cs rs).getD kk.toNat 0)%2=1))])=H1 at sa ea ⊢
     walk_at "rdf"
     exact z a (.line true kk st _) H1 sa ea ⟨⟨k0,by omega⟩,t0,by omega⟩ (tr_line bc br k0 kl)
    ·walk_at "rdf"
     exact ⟨rfl,rfl⟩
   ·walk_at "rdf"
    exact ⟨rfl,rfl⟩
  ·rintro σ' H' ⟨rfl,rfl⟩
   walk_at "rdf"
   refine rd_join (fun σ' H'=>σ'=[some (.ref q),some (.int i),some (.int j),some (.int l),some (.int ((cs.length:Nat)+1)),some (.int ((rs.length:Nat)+1)),none,none,none,none]∧H=H') ?_ ?_
   ·walk_at "rdf"
    refine rd_I (by decide) ?_
    walk_at "rdf"
    refine ite2 (fun _=>?_) (fun _=>?_)
    ·walk_at "rdf"
     refine ite2 (fun c1=>?_) (fun _=>?_)
     ·have c1:=of_decide_eq_true c1
      walk_at "rdf"
      refine rd_I (show (0:Int)<(rs.length:Nat)+1 - 1 by omega) ?_
      walk_at "rdf"
      refine rd_I (show (0:Int)<(cs.length:Nat)+1 by omega) ?_
      refine ⟨_,_,rfl,?_⟩
      have k0:=Int.emod_nonneg j (show ((rs.length:Nat)+1 - 1:Int)≠0 by omega)
      have k1:=Int.emod_lt_of_pos j (show (0:Int)<(rs.length:Nat)+1 - 1 by omega)
      have t0:=Int.emod_nonneg l (show ((cs.length:Nat)+1:Int)≠0 by omega)
      have t1:=Int.emod_lt_of_pos l (show (0:Int)<(cs.length:Nat)+1 by omega)
      generalize j%((rs.length:Nat)+1 - 1:Int)=kk at k0 k1 ⊢
      generalize l%((cs.length:Nat)+1:Int)=st at t0 t1 ⊢
      have kl:kk<(bitsOf false cs rs).length:=by show kk<rs.length; omega
      walk_at "rdf"
      refine ⟨q,false,kk,st,s,cs,rs,rfl,pl,k0,kl,?_⟩
      walk_at "rdf"
      refine ⟨by show 4≤sizeLine; decide,fun a na=>?_⟩
      have sa:=Same.new (o:=HO.tup [V.str (Str.ofString "row"),V.int kk,V.int st,V.bl (decide ((st+(bitsOf false cs rs).getD kk.toNat 0)%2=1))]) na
      have ea:=upd_same (H:=H) (a:=a) (o:=HO.tup [V.str (Str.ofString "row"),V.int kk,V.int st,V.bl (decide ((st+(bitsOf false cs rs).getD kk.toNat 0)%2=1))])
      generalize upd H a (HO.tup [V.str (Str.ofString "row"),V.int kk,V.int st,V.bl (decide ((st+(bitsOf false cs rs).getD kk.toNat 0)%2=1))])=H1 at sa ea ⊢
      walk_at "rdf"
      exact z a (.line false kk st _) H1 sa ea ⟨⟨k0,by omega⟩,t0,by omega⟩ (tr_line bc br k0 kl)
     ·walk_at "rdf"
      exact ⟨rfl,rfl⟩
    ·walk_at "rdf"
     exact ⟨rfl,rfl⟩
   ·rintro σ' H' ⟨rfl,rfl⟩
    walk_at "rdf"
    refine rd_I (show (0:Int)<(cs.length:Nat)+1 by omega) ?_
    walk_at "rdf"
    refine rd_I (show (0:Int)<(rs.length:Nat)+1 by omega) ?_
    refine ⟨_,_,rfl,?_⟩
    have k0:=Int.emod_nonneg j (show ((cs.length:Nat)+1:Int)≠0 by omega)
    have k1:=Int.emod_lt_of_pos j (show (0:Int)<(cs.length:Nat)+1 by omega)
    have t0:=Int.emod_nonneg l (show ((rs.length:Nat)+1:Int)≠0 by omega)
    have t1:=Int.emod_lt_of_pos l (show (0:Int)<(rs.length:Nat)+1 by omega)
    generalize j%((cs.length:Nat)+1:Int)=x at k0 k1 ⊢
    generalize l%((rs.length:Nat)+1:Int)=y at t0 t1 ⊢
    walk_at "rdf"
    refine ⟨q,x,y,s,cs,rs,rfl,pl,k0,by omega,t0,fun H2 s2=>?_⟩
    walk_at "rdf"
    refine ⟨by show 4≤sizeLine; decide,fun a na=>?_⟩
    have sa:=Same.new (o:=HO.tup [V.str (Str.ofString "cell"),V.int x,V.int y,V.int (valC s cs rs x y)]) na
    have ea:=upd_same (H:=H2) (a:=a) (o:=HO.tup [V.str (Str.ofString "cell"),V.int x,V.int y,V.int (valC s cs rs x y)])
    generalize upd H2 a (HO.tup [V.str (Str.ofString "cell"),V.int x,V.int y,V.int (valC s cs rs x y)])=H3 at sa ea ⊢
    walk_at "rdf"
    exact z a (.cell x y (valC s cs rs x y)) H3 (s2.trans sa) ea ⟨⟨k0,by omega⟩,⟨t0,by omega⟩,valC_bit⟩ tr_cell
end
section
variable {P:Program} {w:World} {K:PySem.W.Frag} {mg:Str→Option Value} {base:Heap} {t:Ad}
def tiesOf (F:List (Int×Fct)):List Fm.Tie:=F.map fun nf=>nf.2.tie
structure FOk (v:List Key→Int) (wd ht:Nat) (F:List (Int×Fct)) (n:Int) (G:List Key→List Key×Int):Prop where
 inw:∀ nf∈F,nf.2.inW wd ht
 tr:∀ nf∈F,Tr v nf.2
 lt:∀ nf∈F,nf.1<n
 nd:(F.map (·.1)).Nodup
 gr:Fm.GrOk (stripsD wd ht) (tiesOf F) v G
theorem FOk.nil {v:List Key→Int} {wd ht:Nat}:FOk v wd ht [] 0 Fm.lone:=⟨(fun _ h=>nomatch h),(fun _ h=>nomatch h),(fun _ h=>nomatch h),List.nodup_nil,Fm.GrOk.lone⟩
theorem FOk.snoc {v:List Key→Int} {wd ht:Nat} {F:List (Int×Fct)} {n:Int} {G:List Key→List Key×Int} (h:FOk v wd ht F n G) {f:Fct} (hi:f.inW wd ht) (ht':Tr v f):FOk v wd ht (F++[(n,f)]) (n+1) (Fm.tieG G f.tie):=by
 have sp:∀ nf∈F++[(n,f)],nf∈F∨nf=(n,f):=fun nf hm=>by
  rcases List.mem_append.mp hm with z | z
  ·exact .inl z
  ·exact .inr (List.mem_singleton.mp z)
 refine ⟨fun nf hm=>?_,fun nf hm=>?_,fun nf hm=>?_,?_,?_⟩
 ·rcases sp nf hm with z | rfl
  ·exact h.inw nf z
  ·exact hi
 ·rcases sp nf hm with z | rfl
  ·exact h.tr nf z
  ·exact ht'
 ·rcases sp nf hm with z | rfl
  ·have:=h.lt nf z; omega
  ·show n<n+1; omega
 ·rw [List.map_append,List.nodup_append]
  refine ⟨h.nd,by simp,fun a ha b hb e=>?_⟩
  obtain ⟨nf,hm,rfl⟩:=List.mem_map.mp ha
  have:=h.lt nf hm
  simp only [List.map_cons,List.map_nil,List.mem_singleton] at hb
  omega
 ·unfold tiesOf
  rw [List.map_append]
  exact h.gr.tie (Fct.inD hi).1 (Fct.inD hi).2 ht'
theorem FOk.out {v:List Key→Int} {wd ht:Nat} {F:List (Int×Fct)} {n:Int} {G:List Key→List Key×Int} (h:FOk v wd ht F n G) (j:Int):FOk v wd ht (outF F j) n (grpF (outF F j)):=by
 have sub:∀ nf∈outF F j,nf∈F:=fun nf hm=>(List.mem_filter.mp hm).1
 have ei:(outF F j |>.map (·.2)).map Fct.tie=tiesOf (outF F j):=by rw [List.map_map]; rfl
 refine ⟨fun nf hm=>h.inw nf (sub nf hm),fun nf hm=>h.tr nf (sub nf hm),fun nf hm=>h.lt nf (sub nf hm),?_,?_⟩
 ·exact h.nd.sublist (List.Sublist.map _ List.filter_sublist)
 ·unfold grpF
  rw [ei]
  refine Fm.GrOk.of (fun e he=>?_) fun e he=>?_
  ·obtain ⟨nf,hm,rfl⟩:=List.mem_map.mp he
   exact Fct.inD (h.inw nf (sub nf hm))
  ·obtain ⟨nf,hm,rfl⟩:=List.mem_map.mp he
   exact h.tr nf (sub nf hm)
def OutS (H:Hp) (S:List Addr):Prop:=∀ b∈S,∀ xs,H b≠some (.tup xs)∧H b≠some (.lst xs)
theorem OutS.noT {H:Hp} {S:List Addr} (h:OutS H S):NoT H S:=fun b hb xs=>(h b hb xs).1
theorem but_lst {S:List Addr} {H H':Hp} (m:ButL S H H') (o:OutS H S) {b:Addr} {xs:List V} (e:H b=some (.lst xs)):H' b=some (.lst xs):=m b _ e fun z=>(o b z xs).2 e
theorem FdAt.outS {C:Addr} {H:Hp} {p df dg:Addr} {wd ht:Nat} {F:List (Int×Fct)} {n:Int} {G:List Key→List Key×Int} (h:FdAt C H p df dg wd ht F n G):OutS H [p,df,dg]:=fun b hb xs=>⟨h.not b hb xs,fun e=>h.lst e hb⟩
theorem PlanAt.but {S:List Addr} {H H':Hp} {q:Addr} {s:Int} {cs rs:List Int} (h:PlanAt true H q s cs rs) (m:ButL S H H') (o:OutS H S):PlanAt true H' q s cs rs:=by
 obtain ⟨⟨a,b,h1,h2,h3⟩,x,y,z⟩:=h
 exact ⟨⟨a,b,but_tup m o.noT h1,but_lst m o h2,but_lst m o h3⟩,x,y,z⟩
def PwP (H:Hp) (xs:List V) (F:List (Int×Fct)):Prop:=xs.length=F.length∧∀ (i:Nat) v nf,xs[i]?=some v→F[i]?=some nf→∃ b a,v=.ref b∧H b=some (.tup [.int nf.1,.ref a])∧H a=some (.tup nf.2.vs)
theorem PwP.but {S:List Addr} {H H':Hp} {xs:List V} {F:List (Int×Fct)} (h:PwP H xs F) (m:ButL S H H') (n:NoT H S):PwP H' xs F :=
 ⟨h.1,fun i v nf h1 h2=>let ⟨b,a,e,q,r⟩:=h.2 i v nf h1 h2; ⟨b,a,e,but_tup m n q,but_tup m n r⟩⟩
theorem PwP.mono {H H':Hp} {xs:List V} {F:List (Int×Fct)} (h:PwP H xs F) (m:Same H H'):PwP H' xs F:=h.but (m.butL []) (fun x hx=>nomatch hx)
theorem PwP.snoc {H:Hp} {xs:List V} {F:List (Int×Fct)} {n:Int} {f:Fct} {b a:Addr} (h:PwP H xs F) (hb:H b=some (.tup [.int n,.ref a])) (ha:H a=some (.tup f.vs)):PwP H (xs++[.ref b]) (F++[(n,f)]):=by
 refine ⟨by rw [List.length_append,List.length_append,h.1]; rfl,fun i v nf h1 h2=>?_⟩
 by_cases hi:i<xs.length
 ·rw [List.getElem?_append_left hi] at h1
  rw [List.getElem?_append_left (by rw [← h.1]; exact hi)] at h2
  exact h.2 i v nf h1 h2
 ·rw [List.getElem?_append_right (by omega)] at h1
  rw [List.getElem?_append_right (by rw [← h.1]; omega),← h.1] at h2
  cases hk:i - xs.length with
  | zero =>
   rw [hk] at h1 h2
   simp only [List.getElem?_cons_zero,Option.some.injEq] at h1 h2
   subst h1 h2
   exact ⟨b,a,rfl,hb,ha⟩
  | succ k' => rw [hk] at h1; simp at h1
def sndOf (H:Hp):V→V
 | .ref b=>match H b with
  | some (.tup [_, x]) => x
  | _ => .non
 | _=>.non
theorem PwP.snds {H:Hp} {xs:List V} {F:List (Int×Fct)} (h:PwP H xs F):PwF H (xs.map (sndOf H)) (F.map (·.2)):=by
 refine ⟨by rw [List.length_map,List.length_map,h.1],fun i v f h1 h2=>?_⟩
 rw [List.getElem?_map] at h1 h2
 obtain ⟨x,e1,rfl⟩:=Option.map_eq_some_iff.mp h1
 obtain ⟨nf,e2,rfl⟩:=Option.map_eq_some_iff.mp h2
 obtain ⟨b,a,rfl,hb,ha⟩:=h.2 i x nf e1 e2
 exact ⟨a,by simp only [sndOf,hb],ha⟩
theorem PwP.mem {H:Hp} {xs:List V} {F:List (Int×Fct)} (h:PwP H xs F) {x:V} (hx:x∈xs):∃ b a nf,x=.ref b∧nf∈F∧H b=some (.tup [.int nf.1,.ref a])∧H a=some (.tup nf.2.vs):=by
 obtain ⟨i,hi⟩:=List.mem_iff_getElem?.mp hx
 have hl:i<F.length:=by rw [← h.1]; exact (List.getElem?_eq_some_iff.mp hi).1
 obtain ⟨b,a,e,q,r⟩:=h.2 i x _ hi (List.getElem?_eq_getElem hl)
 exact ⟨b,a,_,e,List.getElem_mem hl,q,r⟩
end
section
variable {P:Program} {w:World} {K:PySem.W.Frag} {mg:Str→Option Value} {base:Heap} {t:Ad}
theorem sx_sy (x y:Int):sx x≠sy y:=fun z=>by
 injection z with z _
 injection z with z
 exact absurd z (by decide +kernel)
theorem stS_ne (col:Bool) (k:Int):stS col k≠stS col (k+1):=fun z=>by
 cases col
 ·injection z with _ z
  injection z with z _
  injection z with z
  omega
 ·injection z with _ z
  injection z with z _
  injection z with z
  omega
def Clh (G:List Key→List Key×Int) (f:Fct):Prop:=(G f.tie.1).1=(G f.tie.2.1).1∧¬ ((G f.tie.1).2+(G f.tie.2.1).2)%2=f.tie.2.2
theorem way_mem {F:List (Int×Fct)} {root s:List Key} {ns:List Int} (h:Fm.Way (edgeF F) root s ns):∀ n∈ns,n∈F.map (·.1):=by
 induction h with
 | here=>intro n hn; cases hn
 | on e _ ih =>
  intro n hn
  rcases List.mem_cons.mp hn with rfl | hn
  ·obtain ⟨f,hf,_⟩:=e
   exact List.mem_map.mpr ⟨_,hf,rfl⟩
  ·exact ih n hn
theorem way_len {F:List (Int×Fct)} {root s:List Key} {ns:List Int} (h:Fm.Way (edgeF F) root s ns) (nd:ns.Nodup):ns.length≤F.length:=by
 have:=nodup_leR ns (F.map (·.1)) nd (way_mem h)
 rwa [List.length_map] at this
theorem tie_ne (f:Fct):f.tie.1≠f.tie.2.1:=by
 cases f with
 | cell x y c=>exact sx_sy x y
 | line col k s b=>exact stS_ne col k
def sp_ClashInit (C:Addr):Sp:=fun vs H Q _=>∃ (e l:Addr) (xs:List V),vs=[.ref e,.ref l]∧H l=some (.lst xs)∧H e=some (ExcM e C none) ∧
 ∀ d r H',(∀ b o,H b=some o→b≠e→H' b=some o)→d≠e→r≠e→H r=none→H' e=some (ExcM e C (some d))→H' d=some (XdO d [("ring",.ref r)])→H' r=some (.lst xs)→Q .non H'
theorem ok_ClashInit (T:Txt K mg t):FnOk P w K mg base CX0 1 t.f_ClashInit t.d_ClashInit ["self","ring"] (sp_ClashInit t.a_Clash):=by
 refine T.F_ClashInit.ok sc_ClashInit (fun vs H Q E h=>?_) (fun cdv A outer s H vs Q E hr h=>?_)
 ·obtain ⟨e,l,xs,rfl,_⟩:=h; rfl
 ·obtain ⟨e,l,xs,rfl,hl,he,k⟩:=h
  refine ⟨_,(pss_cons (ps_expr (pe_initX rfl T.mg_SewError T.bi_SewError (pa_cons (pv 0) (pa_cons pe_str pa_nil)))) (pss_one (ps_fldX (pv 0) (pe_callTy (cI_listK K rfl) rfl T.no_list (by rfl) (pa_cons (pv 1) pa_nil)) rfl))),?_⟩
  walk_at "rdf"
  refine rd_initX ?_
  walk_at "rdf"
  refine ⟨e,t.a_Clash,none,_,rfl,he,T.mx_Clash.ei,?_⟩
  walk_at "rdf"
  refine rd_fldXs ?_
  walk_at "rdf"
  refine rd_listL hl fun r nr=>?_
  walk_at "rdf"
  have ner:e≠r:=ne_of_none he nr
  have sr:=Same.new (o:=HO.lst xs) nr
  have er:=upd_same (H:=H) (a:=r) (o:=HO.lst xs)
  generalize upd H r (HO.lst xs)=H1 at sr er ⊢
  refine ⟨e,t.a_Clash,rfl,T.mx_Clash.ei,T.nx_Clash_ring,.inl ⟨sr _ _ he,fun d hd ne=>?_⟩⟩
  have nrd:r≠d:=ne_of_none er hd
  refine k d r _ (fun b o z q=>?_) ne ner.symm nr upd_same (by rw [upd_ne ne]; exact upd_same) (by rw [upd_ne ner.symm,upd_ne nrd]; exact er)
  rw [upd_ne q,upd_ne (ne_of_none (sr _ _ z) hd)]
  exact sr _ _ z
def spx_Findsnote (C KN CL:Addr):Sp:=fun vs H Q E=>∃ (p a df dg:Addr) (wd ht:Nat) (F:List (Int×Fct)) (n:Int) (G:List Key→List Key×Int) (f:Fct) (v:List Key→Int),vs=[.ref p,.ref a]∧FdAt C H p df dg wd ht F n G∧FOk v wd ht F n G∧wd≤40∧ht≤40∧F.length≤400 ∧
 H a=some (.tup f.vs)∧f.inW wd ht∧(f∈F.map (·.2)→∀ H',Same H H'→E (.ref KN) none H') ∧
 (f∉F.map (·.2)→Clh G f→∀ d r xs H',Same H H'→H r=none→H' d=some (XdO d [("ring",.ref r)])→H' r=some (.lst xs)→xs.length≤400→E (.ref CL) (some d) H') ∧
 (f∉F.map (·.2)→¬ Clh G f→∀ H',ButL [p,df,dg] H H'→FdAt C H' p df dg wd ht (F++[(n,f)]) (n+1) (Fm.tieG G f.tie)→Q (.int n) H')
theorem okx_Findsnote (T:Txt K mg t):FnOk P w K mg base (CX1 P w) 6 t.f_Findsnote t.d_Findsnote ["self","fact"] (spx_Findsnote t.a_Finds t.a_Known t.a_Clash):=by
 have G_factstrips:=ok_factstrips (P:=P) (w:=w) (base:=base) T
 have G_factweight:=ok_factweight (P:=P) (w:=w) (base:=base) T
 have G_weightbetween:=ok_weightbetween (P:=P) (w:=w) (base:=base) T
 have G_tie:=ok_tie (P:=P) (w:=w) (base:=base) T
 have G_reasons:=ok_reasons (P:=P) (w:=w) (base:=base) T
 have G_ClashInit:=ok_ClashInit (P:=P) (w:=w) (base:=base) T
 have GX_Findsneedfact:=okx_Findsneedfact (P:=P) (w:=w) (base:=base) T
 refine T.F_Findsnote.ok1 sc_Findsnote (fun vs H Q E h=>?_) (fun cdv A outer s H vs Q E hr h=>?_)
 ·obtain ⟨p,a,df,dg,wd,ht,F,n,G,f,v,rfl,_⟩:=h; rfl
 ·obtain ⟨p,a,df,dg,wd,ht,F,n,G,f,v,rfl,fd,fo,lw,lh,lF,ha,hin,k2,k4,k3⟩:=h
  have ln:=fo.lt
  obtain ⟨dx,fs,hp,fl⟩:=fd.ob
  obtain ⟨kf,hdf,pf⟩:=fd.fa
  refine cutC (ps_expr (pe_meth (pv 0) T.cl_Finds T.m_Findsneedfact GX_Findsneedfact (hr.mono (by first | decide | omega)) T.b_Findsneedfact .nil pass1 (pa_cons (pv 1) pa_nil))) fun _ _=>cutC (ps_if (pt_cmpR (op_inD hr.units) (pv 1) (pe_callTy (cI_listV rfl) rfl T.no_list (by rfl) (pa_cons (pe_bm0 PySem.F.plainAttrs_dict PySem.F.slot_dict_values PySem.F.type_dict_values mt_values (pe_fldK K rfl (pv 0) rfl)) pa_nil)) rfl) (pss_one (ps_raiseK T.mg_Known T.x_Known PySem.F.excBase_ValueError rfl rfl (fun _ _ _ _ _ _ _ _ I m q=>xe_new I m q) (pa_cons pe_str pa_nil))) pss_nil) fun _ _=>cutC (ps_set (i:=2) sc_Findsnote.nd rfl (Or.inl rfl) (pe_call G_factstrips.up (hr.mono (by first | decide | omega)) rfl T.mg_factstrips T.F_factstrips.kp T.b_factstrips .nil pass1 (pa_cons (pv 1) pa_nil))) fun _ _=>cutC (ps_set (i:=3) sc_Findsnote.nd rfl (Or.inl rfl) (pe_call G_weightbetween.up (hr.mono (by first | decide | omega)) rfl T.mg_weightbetween T.F_weightbetween.kp T.b_weightbetween .nil pass1 (pa_cons (pe_fldK K rfl (pv 0) rfl) (pa_cons (pv 2) pa_nil)))) fun _ _=>cutC (ps_join (ps_if (PW.pt (pw_and (pt_cmpR op_notN (pv 3) pe_non (nomark _)) (pw_and1 (pt_cmpR op_ne (pv 3) (pe_call G_factweight.up (hr.mono (by first | decide | omega)) rfl T.mg_factweight T.F_factweight.kp T.b_factweight .nil pass1 (pa_cons (pv 1) pa_nil)) (nomark _))))) (pss_one (ps_raiseI T.mx_Clash G_ClashInit (hr.mono (by first | decide | omega)) rfl T.mg_Clash T.b_ClashInit rfl rfl (fun _ _ _ _ _ _ _ _ I a b c d e f g h=>xe_made I a b c d e f g h) (pa_cons (pe_call G_reasons.up (hr.mono (by first | decide | omega)) rfl T.mg_reasons T.F_reasons.kp T.b_reasons .nil pass1 (pa_cons (pe_fldK K rfl (pv 0) rfl) (pa_cons (pv 2) pa_nil))) pa_nil))) pss_nil)) fun _ _=>cutC (ps_expr (pe_call G_tie.up (hr.mono (by first | decide | omega)) rfl T.mg_tie T.F_tie.kp T.b_tie .nil pass1 (pa_cons (pe_fldK K rfl (pv 0) rfl) (pa_cons (pv 2) (pa_cons (pe_call G_factweight.up (hr.mono (by first | decide | omega)) rfl T.mg_factweight T.F_factweight.kp T.b_factweight .nil pass1 (pa_cons (pv 1) pa_nil)) pa_nil))))) fun _ _=>cutC (ps_set (i:=4) sc_Findsnote.nd rfl (Or.inl rfl) (pe_fldK K rfl (pv 0) rfl)) fun _ _=>cutC (ps_dput (hu_of hr) (pe_fldK K rfl (pv 0) rfl) (pv 4) (pv 1) rfl) fun _ _=>cutC (ps_fld (pv 0) (pe_op op_add (pv 4) pe_int) rfl) fun _ _=>cutE (ps_ret (pv 4)) fun _ _=>?_
  walk_at "rdf"
  refine rd_methv hp (fl.no _ (by decide +kernel)) ?_
  walk_at "rdf"
  refine ⟨p,a,wd,ht,f,rfl,fd.sz,ha,fun _ H1 s1=>?_,fun X hX=>(by rw [Fct.no_iff.mpr hin] at hX; cases hX)⟩
  have fdD:=Fct.inD hin
  walk_at "rdf"
  refine rd_fldv (s1 _ _ hp) T.cl_Finds T.naF_facts fl.f ?_
  walk_at "rdf"
  refine rd_bmD (s1 _ _ hdf) ?_
  refine rd_viewv (s1 _ _ hdf) fun v nv=>?_
  have sv:=Same.new (o:=ViewO "dict_values" v df) nv
  have ev:=upd_same (H:=H1) (a:=v) (o:=ViewO "dict_values" v df)
  generalize upd H1 v (ViewO "dict_values" v df)=H2 at sv ev ⊢
  have s2:=s1.trans sv
  walk_at "rdf"
  refine rd_listV ev (s2 _ _ hdf) fun l nl=>?_
  have sl:=Same.new (o:=HO.lst (kf.map (·.2))) nl
  have el:=upd_same (H:=H2) (a:=l) (o:=HO.lst (kf.map (·.2)))
  generalize upd H2 l (HO.lst (kf.map (·.2)))=H3 at sl el ⊢
  have s3:=s2.trans sl
  walk_at "rdf"
  refine rd_inF el (pf.vals.mono s3) (s3 _ _ ha) ?_
  by_cases hm:f∈F.map (·.2)
  ·rw [decide_eq_true hm]
   walk_at "rdf"
   exact ⟨by show 1≤sizeLine; decide,k2 hm _ s3⟩
  ·rw [decide_eq_false hm]
   have k3:=k3 hm
   have k4:=k4 hm
   walk_at "rdf"
   refine ⟨a,f,rfl,s3 _ _ ha,fun T1 ta tb H4 s4 pr=>?_⟩
   have s4:=s3.trans s4
   have fd4:=fd.mono s4
   walk_at "rdf"
   refine rd_fldv (s4 _ _ hp) T.cl_Finds T.naF_groups fl.g ?_
   walk_at "rdf"
   refine ⟨dg,T1,ta,tb,_,G,_,_,rfl,fd4.gr,pr,fdD.1,fdD.2,?_⟩
   walk_at "rdf"
   refine rd_join (fun σ' H'=>σ'=[some (.ref p),some (.ref a),some (.ref T1),some (wtB G f.tie.1 f.tie.2.1),none]∧H'=H4∧¬ Clh G f) ?_ ?_
   ·walk_at "rdf"
    refine ⟨rfl,?_⟩
    by_cases cl:(G f.tie.1).1=(G f.tie.2.1).1
    rotate_left
    ·have e:wtB G f.tie.1 f.tie.2.1=.non:=by unfold wtB; rw [if_neg cl]
     rw [e,decide_eq_true rfl]
     walk_at "rdf"
     exact ⟨by rw [← e]; rfl,rfl,fun z=>cl z.1⟩
    ·have e:wtB G f.tie.1 f.tie.2.1=.int (((G f.tie.1).2+(G f.tie.2.1).2)%2):=by unfold wtB; rw [if_pos cl]
     rw [e,decide_eq_false (fun z=>nomatch z)]
     walk_at "rdf"
     refine ⟨a,f,wd,ht,rfl,s4 _ _ ha,hin,by omega,by omega,?_⟩
     walk_at "rdf"
     by_cases cw:((G f.tie.1).2+(G f.tie.2.1).2)%2=f.tie.2.2
     ·rw [decide_eq_true cw]
      walk_at "rdf"
      exact ⟨by rw [← e]; rfl,rfl,fun z=>z.2 cw⟩
     ·rw [decide_eq_false cw]
      walk_at "rdf"
      refine rd_raiseI ?_
      walk_at "rdf"
      refine rd_fldv (s4 _ _ hp) T.cl_Finds T.naF_facts fl.f ?_
      walk_at "rdf"
      have con:=((fo.gr.lead _ fdD.1 _ fdD.2).mp cl).symm
      refine ⟨df,T1,ta,tb,kf,F,stripsD wd ht,_,_,rfl,s4 _ _ hdf,pf.but (s4.butL []) (fun x hx=>nomatch hx),by omega,fo.nd,pr,tie_ne f,fdD.2,by rw [stripsD_len]; omega,fun nf hnf=>Fct.inD (fo.inw nf hnf),con,fun lr ns H5 s5 nlr e5 wy nd=>?_⟩
      walk_at "rdf"
      refine ⟨by show 1≤sizeLine; decide,fun e he=>⟨e,lr,_,rfl,(by rw [upd_ne (ne_of_none e5 he)]; exact e5),upd_same,fun d r H6 kp ne1 ne2 nr e6 d6 r6=>⟨rfl,some d,e6,?_⟩⟩⟩
      refine k4 ⟨cl,cw⟩ d r _ _ (s4.trans (s5.trans fun c o z=>?_)) ((s4.trans s5).free (by rw [upd_ne ne2] at nr; exact nr)) (by rw [del_ne ne1]; exact d6) (by rw [del_ne ne2]; exact r6) (by rw [List.length_map]; exact Nat.le_trans (way_len wy nd) lF)
      have hc:c≠e:=ne_of_none z he
      rw [del_ne hc]
      exact kp c o (by rw [upd_ne hc]; exact z) hc
   ·rintro σ' H' ⟨rfl,rfl,ncl⟩
    have k3:=k3 ncl
    have nt4:=fd4.not
    obtain ⟨⟨kg,hkg,_⟩,_⟩:=id fd4.gr
    have hp4:=s4 _ _ hp
    have hdf4:=s4 _ _ hdf
    have pdg:p≠dg:=ne_of hp4 hkg (fun z=>nomatch z)
    have fdg:df≠dg:=ne_of hdf4 hkg (fun z=>nomatch z)
    have fp:df≠p:=ne_of hdf4 hp4 (fun z=>nomatch z)
    walk_at "rdf"
    refine rd_fldv hp4 T.cl_Finds T.naF_groups fl.g ?_
    walk_at "rdf"
    refine ⟨a,f,wd,ht,rfl,s4 _ _ ha,hin,by omega,by omega,?_⟩
    walk_at "rdf"
    refine ⟨dg,T1,ta,tb,_,G,_,_,_,rfl,fd4.gr,stripsD_nodup wd ht,by rw [stripsD_len]; omega,pr,fdD.1,fdD.2,fun H5 m5 g5=>?_⟩
    have nt:NoT H' [dg]:=fun x hx=>nt4 x (by rw [List.mem_singleton.mp hx]; simp)
    have hp5:=m5 _ _ hp4 (by rw [List.mem_singleton]; exact pdg)
    have hdf5:=m5 _ _ hdf4 (by rw [List.mem_singleton]; exact fdg)
    have ha5:=but_tup m5 nt (s4 _ _ ha)
    have pf5:=(pf.but (s4.butL []) (fun x hx=>nomatch hx)).but m5 nt
    walk_at "rdf"
    refine rd_fldv hp5 T.cl_Finds T.naF_next_number fl.n ?_
    walk_at "rdf"
    refine rd_fldv hp5 T.cl_Finds T.naF_facts fl.f ?_
    walk_at "rdf"
    refine ⟨df,_,rfl,DPut.k (k:=.inl n) hdf5 (by rw [pf.1]; exact small1000 (by omega)),?_⟩
    have nk:valV kf (.inl n)=none:=valV_none (by
     rw [pf.keys]
     intro z
     obtain ⟨nf,hm',e⟩:=List.mem_map.mp z
     have:=ln nf hm'
     injection e with e
     omega)
    rw [putK_new _ nk]
    have ed6:=upd_same (H:=H5) (a:=df) (o:=HO.dK (kf++[(.inl n,.ref a)]))
    have hp6:upd H5 df (HO.dK (kf++[(.inl n,.ref a)])) p=some (.ins t.a_Finds dx fs):=by rw [upd_ne fp.symm]; exact hp5
    have m6:ButL [p,df] H5 (upd H5 df (HO.dK (kf++[(.inl n,.ref a)]))):=(ButL.refl _ _).upd (by simp)
    generalize upd H5 df (HO.dK (kf++[(.inl n,.ref a)]))=H6 at ed6 hp6 m6 ⊢
    walk_at "rdf"
    refine rd_sfldv hp6 T.cl_Finds T.naF_next_number (by have:=fl.len; omega) ?_
    walk_at "rdf"
    have m7:ButL [p,df] H5 (upd H6 p (.ins t.a_Finds dx (putF (Str.ofString "next_number") (.int (n+1)) fs))):=m6.upd (by simp)
    have nt5:NoT H5 [p,df]:=fun x hx xs=>by
     simp only [List.mem_cons,List.not_mem_nil,or_false] at hx
     rcases hx with rfl | rfl
     ·rw [hp5]; intro z; cases z
     ·rw [hdf5]; intro z; cases z
    refine k3 _ (fun b o e nb=>m7 b o (m5 b o (s4 _ _ e) (fun z=>nb (by rw [List.mem_singleton.mp z]; simp))) (fun z=>nb (by simp only [List.mem_cons,List.not_mem_nil,or_false] at z ⊢; rcases z with z | z<;>simp [z]))) ⟨⟨dx,_,upd_same,fl.next⟩,⟨_,(by rw [upd_ne fp]; exact ed6),(pf5.snoc ha5).but m7 nt5⟩,g5.but m7 nt5 ?_⟩
    simp only [List.mem_cons,List.not_mem_nil,or_false,not_or]
    exact ⟨pdg.symm,fdg.symm⟩
end
section
variable {P:Program} {w:World} {K:PySem.W.Frag} {mg:Str→Option Value} {base:Heap} {t:Ad}
def TrpAt (H:Hp) (T:Addr) (e:Fm.Tie):Prop:=∃ a b,H T=some (.tup [.ref a,.ref b,.int e.2.2])∧H a=some (.tup (e.1.map kV))∧H b=some (.tup (e.2.1.map kV))
def sp_Ltie:Sp:=fun vs H Q _=>∃ (p:Addr) (f:Fct) (wd ht:Int),vs=[.ref p]∧H p=some (.tup f.vs)∧f.inW wd ht∧wd≤40∧ht≤40∧∀ T H',Same H H'→TrpAt H' T f.tie→Q (.ref T) H'
theorem ok_Ltie (T:Txt K mg t):FnOk P w K mg base CX0 1 t.f_Ltie t.d_Ltie ["_law_fact_here"] sp_Ltie:=by
 refine T.F_Ltie.ok sc_Ltie (fun vs H Q E h=>?_) (fun cdv A outer s H vs Q E hr h=>?_)
 ·obtain ⟨p,f,wd,ht,rfl,_⟩:=h; rfl
 ·obtain ⟨p,f,wd,ht,rfl,hp,hi,lw,lh,k⟩:=h
  refine cutC (ps_if (pt_cmpR op_eq (pe_ix (ix_tupK K rfl) (pv 0) pe_int (fun _ _=>rfl)) pe_str (nomark _)) (pss_one (ps_ret (pe_tup (pa_cons (pe_tup (pa_cons pe_str (pa_cons (pe_ix (ix_tupK K rfl) (pv 0) pe_int (fun _ _=>rfl)) pa_nil))) (pa_cons (pe_tup (pa_cons pe_str (pa_cons (pe_ix (ix_tupK K rfl) (pv 0) pe_int (fun _ _=>rfl)) pa_nil))) (pa_cons (pe_op op_mod (pe_op op_add (pe_ix (ix_tupK K rfl) (pv 0) pe_int (fun _ _=>rfl)) (pe_op op_mul (pe_ix (ix_tupK K rfl) (pv 0) pe_int (fun _ _=>rfl)) (pe_ix (ix_tupK K rfl) (pv 0) pe_int (fun _ _=>rfl)))) pe_int) pa_nil)))))) pss_nil) fun _ _=>cutC (ps_set (i:=1) sc_Ltie.nd rfl (Or.inl rfl) (pe_dget (hu_of hr) (pe_disp (pps_cons pe_str pe_str (pps_cons pe_str pe_str pps_nil)) rfl rfl (fun z=>nomatch z) (by decide)) (pe_ix (ix_tupK K rfl) (pv 0) pe_int (fun _ _=>rfl)) (fun _ _=>rfl))) fun _ _=>cutC (ps_set (i:=2) sc_Ltie.nd rfl (Or.inl rfl) (pe_op op_mod (pe_op op_add (pe_ix (ix_tupK K rfl) (pv 0) pe_int (fun _ _=>rfl)) pe_int) pe_int)) fun _ _=>cutC (ps_join (ps_if (pt_not (pt_val (pe_ix (ix_tupK K rfl) (pv 0) pe_int (fun _ _=>rfl)))) (pss_one (ps_set (i:=2) sc_Ltie.nd rfl (Or.inl rfl) (pe_op op_mod (pe_ix (ix_tupK K rfl) (pv 0) pe_int (fun _ _=>rfl)) pe_int))) pss_nil)) fun _ _=>cutE (ps_ret (pe_tup (pa_cons (pe_tup (pa_cons (pv 1) (pa_cons (pe_ix (ix_tupK K rfl) (pv 0) pe_int (fun _ _=>rfl)) pa_nil))) (pa_cons (pe_tup (pa_cons (pv 1) (pa_cons (pe_op op_add (pe_ix (ix_tupK K rfl) (pv 0) pe_int (fun _ _=>rfl)) pe_int) pa_nil))) (pa_cons (pv 2) pa_nil))))) fun _ _=>?_
  cases f with
  | cell x y c =>
   obtain ⟨⟨x0,x1⟩,⟨y0,y1⟩,_⟩:=hi
   walk_at "rdf"
   refine rd_ixT (SqT.of hp) (v:=.str "cell") rfl ?_
   walk_at "rdf"
   rw [decide_eq_true (rfl:("cell":Str)="cell")]
   walk_at "rdf"
   refine rd_ixT (SqT.of hp) (v:=.int x) rfl ?_
   walk_at "rdf"
   refine ⟨by show 2≤sizeLine; decide,fun a na=>?_⟩
   have sa:=Same.new (o:=HO.tup [V.str (Str.ofString "x"),V.int x]) na
   have ea:=upd_same (H:=H) (a:=a) (o:=HO.tup [V.str (Str.ofString "x"),V.int x])
   generalize upd H a (HO.tup [V.str (Str.ofString "x"),V.int x])=H1 at sa ea ⊢
   walk_at "rdf"
   refine rd_ixT (SqT.of (sa _ _ hp)) (v:=.int y) rfl ?_
   walk_at "rdf"
   refine ⟨by show 2≤sizeLine; decide,fun b nb=>?_⟩
   have sb:=Same.new (o:=HO.tup [V.str (Str.ofString "y"),V.int y]) nb
   have eb:=upd_same (H:=H1) (a:=b) (o:=HO.tup [V.str (Str.ofString "y"),V.int y])
   generalize upd H1 b (HO.tup [V.str (Str.ofString "y"),V.int y])=H2 at sb eb ⊢
   have hp2:=sb _ _ (sa _ _ hp)
   walk_at "rdf"
   refine rd_ixT (SqT.of hp2) (v:=.int c) rfl ?_
   walk_at "rdf"
   refine rd_ixT (SqT.of hp2) (v:=.int x) rfl ?_
   walk_at "rdf"
   refine rd_ixT (SqT.of hp2) (v:=.int y) rfl ?_
   walk_at "rdf"
   refine rd_I (.inl ⟨by omega,by omega⟩) ?_
   walk_at "rdf"
   refine rd_I (by decide) ?_
   walk_at "rdf"
   refine ⟨by show 3≤sizeLine; decide,fun d nd=>?_⟩
   have sd:=Same.new (o:=HO.tup [V.ref a,V.ref b,V.int ((c+x*y)%2)]) nd
   have ed:=upd_same (H:=H2) (a:=d) (o:=HO.tup [V.ref a,V.ref b,V.int ((c+x*y)%2)])
   generalize upd H2 d (HO.tup [V.ref a,V.ref b,V.int ((c+x*y)%2)])=H3 at sd ed ⊢
   walk_at "rdf"
   exact k d H3 ((sa.trans sb).trans sd) ⟨a,b,ed,sd _ _ (sb _ _ ea),sd _ _ eb⟩
  | line col kk st b =>
   walk_at "rdf"
   refine rd_ixT (SqT.of hp) (v:=.str (wyS col)) rfl ?_
   walk_at "rdf"
   rw [wy_cell]
   walk_at "rdf"
   refine rd_disp2 (by decide +kernel) fun dd H1 nd s1 ed=>?_
   have hp1:=s1 _ _ hp
   walk_at "rdf"
   refine rd_ixT (SqT.of hp1) (v:=.str (wyS col)) rfl ?_
   walk_at "rdf"
   refine rd_dgetS ed (v:=.str (if col=true then "x" else "y")) (by cases col<;>decide +kernel) ?_
   walk_at "rdf"
   refine rd_ixT (SqT.of hp1) (v:=.int st) rfl ?_
   walk_at "rdf"
   refine rd_I (by decide) ?_
   walk_at "rdf"
   refine rd_join (fun σ' H'=>σ'=[some (.ref p),some (.str (if col=true then "x" else "y")),some (.int (Fct.line col kk st b).tie.2.2)]∧H1=H') ?_ ?_
   ·walk_at "rdf"
    refine rd_ixT (SqT.of hp1) (v:=.bl b) rfl ?_
    walk_at "rdf"
    cases b with
    | true =>
     walk_at "rdf"
     exact ⟨rfl,rfl⟩
    | false =>
     walk_at "rdf"
     refine rd_ixT (SqT.of hp1) (v:=.int st) rfl ?_
     walk_at "rdf"
     refine rd_I (by decide) ?_
     walk_at "rdf"
     exact ⟨rfl,rfl⟩
   ·rintro σ' H' ⟨rfl,rfl⟩
    generalize hwt:(Fct.line col kk st b).tie.2.2=wt
    walk_at "rdf"
    refine rd_ixT (SqT.of hp1) (v:=.int kk) rfl ?_
    walk_at "rdf"
    refine ⟨by show 2≤sizeLine; decide,fun a na=>?_⟩
    have sa:=Same.new (o:=HO.tup [V.str (if col=true then Str.ofString "x" else Str.ofString "y"),V.int kk]) na
    have ea:=upd_same (H:=H1) (a:=a) (o:=HO.tup [V.str (if col=true then Str.ofString "x" else Str.ofString "y"),V.int kk])
    generalize upd H1 a (HO.tup [V.str (if col=true then Str.ofString "x" else Str.ofString "y"),V.int kk])=H2 at sa ea ⊢
    walk_at "rdf"
    refine rd_ixT (SqT.of (sa _ _ hp1)) (v:=.int kk) rfl ?_
    walk_at "rdf"
    refine ⟨by show 2≤sizeLine; decide,fun bb nbb=>?_⟩
    have sbb:=Same.new (o:=HO.tup [V.str (if col=true then Str.ofString "x" else Str.ofString "y"),V.int (kk+1)]) nbb
    have ebb:=upd_same (H:=H2) (a:=bb) (o:=HO.tup [V.str (if col=true then Str.ofString "x" else Str.ofString "y"),V.int (kk+1)])
    generalize upd H2 bb (HO.tup [V.str (if col=true then Str.ofString "x" else Str.ofString "y"),V.int (kk+1)])=H3 at sbb ebb ⊢
    walk_at "rdf"
    refine ⟨by show 3≤sizeLine; decide,fun d nd=>?_⟩
    have sd:=Same.new (o:=HO.tup [V.ref a,V.ref bb,V.int wt]) nd
    have ed:=upd_same (H:=H3) (a:=d) (o:=HO.tup [V.ref a,V.ref bb,V.int wt])
    generalize upd H3 d (HO.tup [V.ref a,V.ref bb,V.int wt])=H4 at sd ed ⊢
    walk_at "rdf"
    have ek:∀ i:Int,[V.str (if col=true then Str.ofString "x" else Str.ofString "y"),V.int i]=(stS col i).map kV:=fun i=>by cases col<;>rfl
    rw [ek] at ea ebb
    exact k d H4 (((s1.trans sa).trans sbb).trans sd) ⟨a,bb,by rw [hwt]; exact ed,sd _ _ (sbb _ _ ea),sd _ _ ebb⟩
theorem nodup_leK {α:Type} [DecidableEq α]:∀ (a b:List α),a.Nodup→(∀ x∈a,x∈b)→a.length≤b.length
 | [],_,_,_=>Nat.zero_le _
 | x::a,b,hn,hs=>by
  rw [List.nodup_cons] at hn
  have hx:=hs x List.mem_cons_self
  have ih:=nodup_leK a (b.erase x) hn.2 fun y hy=>by
   have:y≠x:=fun e=>hn.1 (e ▸ hy)
   exact (List.mem_erase_of_ne this).mpr (hs y (List.mem_cons_of_mem _ hy))
  rw [List.length_erase_of_mem hx] at ih
  have:=List.length_pos_of_mem hx
  rw [List.length_cons]
  omega
structure VOk (F:List Fm.Tie) (v:List Key→Int) (a:List Key) (kvs:List (List Key×V)):Prop where
 st:(valV kvs a).isSome=true
 vl:∀ s u,valV kvs s=some u→Fm.Con F a s∧u=.int ((v a+v s)%2)
 nd:(kvs.map (·.1)).Nodup
 ks:∀ s∈kvs.map (·.1),s∈a::F.flatMap fun e=>[e.1,e.2.1]
theorem VOk.len {F:List Fm.Tie} {v:List Key→Int} {a:List Key} {kvs:List (List Key×V)} (h:VOk F v a kvs):kvs.length≤2*F.length+1:=by
 have:=nodup_leK _ _ h.nd h.ks
 rw [List.length_map,List.length_cons] at this
 have e:(F.flatMap fun e=>[e.1,e.2.1]).length=2*F.length:=by
  clear this h
  induction F with
  | nil => rfl
  | cons e F ih => rw [List.flatMap_cons, List.length_append, ih, List.length_cons]; show 2 + 2 * F.length = 2 * (F.length + 1); omega
 omega
theorem VOk.put {F:List Fm.Tie} {v:List Key→Int} {a s:List Key} {kvs:List (List Key×V)} {i:Int} (h:VOk F v a kvs) (hc:Fm.Con F a s) (hi:i=(v a+v s)%2) (hn:valV kvs s=none) (hs:s∈a::F.flatMap fun e=>[e.1,e.2.1]):VOk F v a (putK kvs s (.int i))∧kvs.length<(putK kvs s (.int i)).length:=by
 have nm:s∉kvs.map (·.1):=fun z=>by have:=valV_mem.mpr z; rw [hn] at this; cases this
 rw [putK_new _ hn]
 refine ⟨⟨?_,fun u x hx=>?_,?_,fun u hu=>?_⟩,by rw [List.length_append]; show _<_+1; omega⟩
 ·rw [valV_snoc _ _ _ _ hn]
  split
  ·rfl
  ·exact h.st
 ·rw [valV_snoc _ _ _ _ hn] at hx
  split at hx
  ·rename_i e
   rw [e]; exact ⟨hc,by rw [← hi]; exact (Option.some.inj hx).symm⟩
  ·exact h.vl u x hx
 ·rw [List.map_append,List.nodup_append]
  refine ⟨h.nd,by simp,fun x hx y hy e=>?_⟩
  simp only [List.map_cons,List.map_nil,List.mem_singleton] at hy
  rw [e,hy] at hx
  exact nm hx
 ·rw [List.map_append] at hu
  rcases List.mem_append.mp hu with z | z
  ·exact h.ks u z
  ·simp only [List.map_cons,List.map_nil,List.mem_singleton] at z
   rw [z]; exact hs
structure Sums (F:List Fm.Tie) (v:List Key→Int) (a:List Key) (kvs:List (List Key×V)):Prop where
 yes:∀ s,Fm.Con F a s→valV kvs s=some (.int ((v a+v s)%2))
 no:∀ s,¬ Fm.Con F a s→valV kvs s=none
theorem VOk.sums {F:List Fm.Tie} {v:List Key→Int} {a:List Key} {kvs:List (List Key×V)} (h:VOk F v a kvs) (cl:∀ e∈F,(valV kvs e.1).isSome=(valV kvs e.2.1).isSome):Sums F v a kvs:=by
 have key:∀ s,Fm.Con F a s→(valV kvs s).isSome=true:=fun s hs=>valV_mem.mpr (Fm.closed_con (valV_mem.mp h.st) (fun e he=>by rw [← valV_mem,← valV_mem,cl e he]) hs)
 refine ⟨fun s hs=>?_,fun s hs=>?_⟩
 ·have:=key s hs
  cases hv:valV kvs s with
  | none => rw [hv] at this; cases this
  | some u => rw [(h.vl s u hv).2]
 ·cases hv:valV kvs s with
  | none => rfl
  | some u => exact absurd (h.vl s u hv).1 hs
theorem mem_ends {F:List Fm.Tie} {e:Fm.Tie} (h:e∈F) (a:List Key):e.1∈a::F.flatMap (fun e=>[e.1,e.2.1])∧e.2.1∈a::F.flatMap fun e=>[e.1,e.2.1] :=
 ⟨List.mem_cons_of_mem _ (List.mem_flatMap.mpr ⟨e,h,by simp⟩),List.mem_cons_of_mem _ (List.mem_flatMap.mpr ⟨e,h,by simp⟩)⟩
def sp_Lsums:Sp:=fun vs H Q _=>∃ (lf sp:Addr) (xs:List V) (F:List (Int×Fct)) (wd ht:Nat) (v:List Key→Int) (a:List Key),vs=[.ref lf,.ref sp]∧H lf=some (.lst xs)∧PwP H xs F∧F.length≤400∧(∀ nf∈F,nf.2.inW wd ht)∧(∀ nf∈F,Tr v nf.2)∧wd≤40∧ht≤40∧H sp=some (.tup (a.map kV)) ∧
 ∀ d kvs H',Same H H'→H d=none→H' d=some (.dT kvs)→Sums (tiesOf F) v a kvs→Q (.ref d) H'
theorem ok_Lsums (T:Txt K mg t):FnOk P w K mg base CX0 2 t.f_Lsums t.d_Lsums ["_law_facts","_law_strip"] sp_Lsums:=by
  have G_Ltie:=ok_Ltie (P:=P) (w:=w) (base:=base) T
  refine T.F_Lsums.ok sc_Lsums (fun vs H Q E h=>?_) (fun cdv A outer s H vs Q E hr h=>?_)
  · obtain ⟨lf,sp,xs,F,wd,ht,v,a,rfl,_⟩:=h; rfl
  · obtain ⟨lf,sp,xs,F,wd,ht,v,a,rfl,hlf,pw,lF,hin,htr,lw,lh,hsp,k⟩:=h
    refine cutC (ps_set (i:=2) sc_Lsums.nd rfl (Or.inl rfl) (pe_disp1 (hu_of hr) (pv 1) pe_int)) fun _ _=>cutC (ps_set (i:=3) sc_Lsums.nd rfl (Or.inl rfl) pe_bl) fun _ _=>cutC (ps_while PassesOwn.never (pt_val (pv 3)) (pss_cons (ps_set (i:=3) sc_Lsums.nd rfl (Or.inl rfl) pe_bl) (pss_one (ps_for PassesOwn.never rfl (pi_list (pv 0)) (pg_tupK (n:=2) K rfl rfl (pgs_cons (pg_name (i:=4) sc_Lsums.nd rfl (Or.inl rfl)) (pgs_cons (pg_name (i:=5) sc_Lsums.nd rfl (Or.inl rfl)) pgs_nil))) (pss_cons (ps_asg (pe_call G_Ltie (hr.mono (by first | decide | omega)) rfl T.mg_Ltie T.F_Ltie.kp T.b_Ltie .nil pass0 (pa_cons (pv 5) pa_nil)) (pg_tupK (n:=3) K rfl rfl (pgs_cons (pg_name (i:=6) sc_Lsums.nd rfl (Or.inl rfl)) (pgs_cons (pg_name (i:=7) sc_Lsums.nd rfl (Or.inl rfl)) (pgs_cons (pg_name (i:=8) sc_Lsums.nd rfl (Or.inl rfl)) pgs_nil))))) (pss_one (ps_if (pt_cmpR op_ne (pe_cmp (pc_din (hu_of hr) (pv 6) (pv 2))) (pe_cmp (pc_din (hu_of hr) (pv 7) (pv 2))) (nomark _)) (pss_cons (ps_set (i:=3) sc_Lsums.nd rfl (Or.inl rfl) pe_bl) (pss_one (ps_if (pt_cmp (pc_din (hu_of hr) (pv 6) (pv 2))) (pss_one (ps_dput (hu_of hr) (pv 2) (pv 7) (pe_op op_mod (pe_op op_add (pe_dget (hu_of hr) (pv 2) (pv 6) (fun _ _=>rfl)) (pv 8)) pe_int) rfl)) (pss_one (ps_dput (hu_of hr) (pv 2) (pv 6) (pe_op op_mod (pe_op op_add (pe_dget (hu_of hr) (pv 2) (pv 7) (fun _ _=>rfl)) (pv 8)) pe_int) rfl))))) pss_nil))))))) fun _ _=>cutE (ps_ret (pv 2)) fun _ _=>?_
    walk_at "rdf"
    refine fun d nd=>?_
    walk_at "rdf"
    have sn:=Same.new (o:=HO.dT []) nd
    refine ⟨sp,a,.int 0,rfl,sn _ _ hsp,upd_same,?_⟩
    rw [upd_upd]
    have s0:=Same.new (o:=HO.dT [(a,V.int 0)]) nd
    have e0:=upd_same (H:=H) (a:=d) (o:=HO.dT [(a,V.int 0)])
    generalize upd H d (HO.dT [(a,V.int 0)])=H0 at s0 e0 ⊢
    have v0:VOk (tiesOf F) v a [(a,V.int 0)]:=by
      refine ⟨by rw [valV_pos rfl]; rfl,fun s u hu=>?_,by simp,fun s hs=>?_⟩
      · by_cases e:a=s
        · rw [valV_pos e] at hu
          rw [← e]
          refine ⟨.refl _,?_⟩
          rw [show (v a+v a)%2=0 by omega]; exact (Option.some.inj hu).symm
        · rw [valV_neg e] at hu; cases hu
      · simp only [List.map_cons,List.map_nil,List.mem_singleton] at hs
        rw [hs]; exact List.mem_cons_self
    have tl:(tiesOf F).length=F.length:=List.length_map ..
    walk_at "rdf"
    refine ⟨fun m σ' H'=>∃ (more:Bool) (kvs:List (List Key×V)) (o4 o5 o6 o7 o8:Option V),m=(if more=true then 2*F.length+2 - kvs.length else 0)∧σ'=[some (.ref lf),some (.ref sp),some (.ref d),some (.bl more),o4,o5,o6,o7,o8]∧Same H H'∧H' d=some (.dT kvs)∧VOk (tiesOf F) v a kvs ∧
        (more=false→∀ e∈tiesOf F,(valV kvs e.1).isSome=(valV kvs e.2.1).isSome),⟨_,true,[(a,V.int 0)],none,none,none,none,none,rfl,rfl,s0,e0,v0,fun z=>nomatch z⟩,?_⟩
    rintro m σ' H1 ⟨more,kvs,o4,o5,o6,o7,o8,rfl,rfl,s1,e1,v1,cl⟩
    have vl1:=v1.len
    rw [tl] at vl1
    walk_at "rdf"
    cases more with
    | false =>
      walk_at "rdf"
      exact k d kvs H1 s1 nd e1 (v1.sums (cl rfl))
    | true =>
      refine iteT ?_
      refine ⟨fun σ' H'=>∃ (more:Bool) (kvs':List (List Key×V)) (o4 o5 o6 o7 o8:Option V),σ'=[some (.ref lf),some (.ref sp),some (.ref d),some (.bl more),o4,o5,o6,o7,o8]∧Same H H'∧H' d=some (.dT kvs')∧VOk (tiesOf F) v a kvs' ∧
          (more=false→∀ e∈tiesOf F,(valV kvs' e.1).isSome=(valV kvs' e.2.1).isSome)∧(more=true→kvs.length<kvs'.length),?_,?_⟩
      · rintro σ' H' ⟨more,kvs',o4,o5,o6,o7,o8,rfl,s2,e2,v2,c2,g2⟩
        have vl2:=v2.len
        rw [tl] at vl2
        refine ⟨_,?_,more,kvs',o4,o5,o6,o7,o8,rfl,rfl,s2,e2,v2,c2⟩
        cases more with
        | false=>rw [if_neg (by decide),if_pos rfl]; omega
        | true=>have:=g2 rfl; rw [if_pos rfl,if_pos rfl]; omega
      · walk_at "rdf"
        refine ⟨⟨_,SqL.of (s1 _ _ hlf)⟩,?_⟩
        refine forW_list (K:=K) (a:=lf) (xs:=xs) (fun i σ' H'=>∃ (more:Bool) (kvs':List (List Key×V)) (o4 o5 o6 o7 o8:Option V),σ'=[some (.ref lf),some (.ref sp),some (.ref d),some (.bl more),o4,o5,o6,o7,o8]∧Same H H'∧H' d=some (.dT kvs')∧VOk (tiesOf F) v a kvs' ∧
            (more=false→kvs'=kvs∧∀ e∈(tiesOf F).take i,(valV kvs' e.1).isSome=(valV kvs' e.2.1).isSome)∧(more=true→kvs.length<kvs'.length))
          ⟨false,kvs,o4,o5,o6,o7,o8,rfl,s1,e1,v1,fun _=>⟨rfl,fun e he=>by rw [List.take_zero] at he; cases he⟩,fun z=>nomatch z⟩ (fun i σ' H' _ ⟨_,_,_,_,_,_,_,_,z,_⟩=>SqL.of (z _ _ hlf)) ?_ ?_
        · rintro i x σ' H2 hx ⟨more,kvs',p4,p5,p6,p7,p8,rfl,s2,e2,v2,c2,g2⟩
          have hi:i<F.length:=by rw [← pw.1]; exact (List.getElem?_eq_some_iff.mp hx).1
          obtain ⟨b,fa,rfl,hb,hfa⟩:=pw.2 i x _ hx (List.getElem?_eq_getElem hi)
          have fin:=hin _ (List.getElem_mem hi)
          have ftr:=htr _ (List.getElem_mem hi)
          have eF:(F[i]).2.tie∈tiesOf F:=List.mem_map.mpr ⟨_,List.getElem_mem hi,rfl⟩
          have tk:(tiesOf F).take (i+1)=(tiesOf F).take i++[(F[i]).2.tie]:=by
            rw [List.take_add_one]
            unfold tiesOf
            rw [List.getElem?_map,List.getElem?_eq_getElem hi]; rfl
          rw [tk]
          generalize F[i]=nf at hb hfa fin ftr eF
          obtain ⟨num,f⟩:=nf
          dsimp only at hb hfa fin ftr eF
          have vl2:=v2.len
          rw [tl] at vl2
          refine rd_gtup (s2 _ _ hb) rfl ?_
          walk_at "rdf"
          refine ⟨fa,f,wd,ht,rfl,s2 _ _ hfa,fin,by omega,by omega,fun T1 H3 s3 ⟨a1,b1,t1,t2,t3⟩=>?_⟩
          have s3':=s2.trans s3
          have e3:=s3 _ _ e2
          walk_at "rdf"
          refine rd_gtup t1 rfl ?_
          unfold Tr at ftr
          have ends:=mem_ends eF a
          have con1:Fm.Con (tiesOf F) f.tie.1 f.tie.2.1:=.one (w:=f.tie.2.2) eF
          have nx:∀ (more':Bool) (kv:List (List Key×V)) (H':Hp),Same H H'→H' d=some (.dT kv)→VOk (tiesOf F) v a kv→(more'=false→kv=kvs∧∀ e∈(tiesOf F).take i++[f.tie],(valV kv e.1).isSome=(valV kv e.2.1).isSome)→(more'=true→kvs.length<kv.length) →
              ∃ (more:Bool) (kvs':List (List Key×V)) (o4 o5 o6 o7 o8:Option V),[some (V.ref lf),some (V.ref sp),some (V.ref d),some (V.bl more'),some (V.int num),some (V.ref fa),some (V.ref a1),some (V.ref b1),some (V.int f.tie.2.2)]=[some (.ref lf),some (.ref sp),some (.ref d),some (.bl more),o4,o5,o6,o7,o8]∧Same H H'∧H' d=some (.dT kvs')∧VOk (tiesOf F) v a kvs' ∧
                (more=false→kvs'=kvs∧∀ e∈(tiesOf F).take i++[f.tie],(valV kvs' e.1).isSome=(valV kvs' e.2.1).isSome)∧(more=true→kvs.length<kvs'.length) :=
            fun more' kv H' q1 q2 q3 q4 q5=>⟨more',kv,_,_,_,_,_,rfl,q1,q2,q3,q4,q5⟩
          generalize f.tie=e at ftr ends con1 nx t1 t2 t3 eF
          obtain ⟨p1,p2,wt⟩:=e
          dsimp only at ftr ends con1 nx t1 t2 t3
          have le3:kvs'.length<sizeLine:=small1000 (by omega)
          have ge:kvs.length≤kvs'.length:=by
            cases more with
            | false=>rw [(c2 rfl).1]; exact Nat.le_refl _
            | true=>exact Nat.le_of_lt (g2 rfl)
          walk_at "rdf"
          refine ⟨d,_,rfl,DGet.t e3 t2,?_⟩
          walk_at "rdf"
          refine ⟨d,_,rfl,DGet.t e3 t3,?_⟩
          walk_at "rdf"
          cases h1:valV kvs' p1 with
          | some u1 =>
            obtain ⟨cn1,rfl⟩:=v2.vl _ _ h1
            cases h2:valV kvs' p2 with
            | some u2 =>
              rw [Option.isSome_some,Option.isSome_some,decide_eq_true rfl]
              walk_at "rdf"
              refine nx more kvs' H3 s3' e3 v2 (fun z=>⟨(c2 z).1,fun e he=>?_⟩) g2
              rcases List.mem_append.mp he with he | he
              · exact (c2 z).2 e he
              · rw [List.mem_singleton.mp he,h1,h2]; rfl
            | none =>
              rw [Option.isSome_some,Option.isSome_none,decide_eq_false (by decide)]
              walk_at "rdf"
              refine ⟨d,_,rfl,DGet.t e3 t2,?_⟩
              rw [h1,Option.isSome_some]
              walk_at "rdf"
              refine rd_dgetT e3 t2 h1 ?_
              walk_at "rdf"
              refine rd_I (by decide) ?_
              walk_at "rdf"
              refine ⟨d,_,rfl,DPut.t (k:=p2) e3 t3 le3,?_⟩
              obtain ⟨q1,q2⟩:=v2.put (i:=((v a+v p1)%2+wt)%2) (cn1.trans con1) (by omega) h2 ends.2
              exact nx true _ _ (s3'.later nd) upd_same q1 (fun z=>nomatch z) fun _=>by omega
          | none =>
            cases h2:valV kvs' p2 with
            | some u2 =>
              obtain ⟨cn2,rfl⟩:=v2.vl _ _ h2
              rw [Option.isSome_some,Option.isSome_none,decide_eq_false (by decide)]
              walk_at "rdf"
              refine ⟨d,_,rfl,DGet.t e3 t2,?_⟩
              rw [h1,Option.isSome_none]
              walk_at "rdf"
              refine rd_dgetT e3 t3 h2 ?_
              walk_at "rdf"
              refine rd_I (by decide) ?_
              walk_at "rdf"
              refine ⟨d,_,rfl,DPut.t (k:=p1) e3 t2 le3,?_⟩
              obtain ⟨q1,q2⟩:=v2.put (i:=((v a+v p2)%2+wt)%2) (cn2.trans con1.symm) (by omega) h1 ends.1
              exact nx true _ _ (s3'.later nd) upd_same q1 (fun z=>nomatch z) fun _=>by omega
            | none =>
              rw [Option.isSome_none,decide_eq_true rfl]
              walk_at "rdf"
              refine nx more kvs' H3 s3' e3 v2 (fun z=>⟨(c2 z).1,fun e he=>?_⟩) g2
              rcases List.mem_append.mp he with he | he
              · exact (c2 z).2 e he
              · rw [List.mem_singleton.mp he,h1,h2]
        · rintro σ' H2 ⟨more,kvs',p4,p5,p6,p7,p8,rfl,s2,e2,v2,c2,g2⟩
          rw [List.take_of_length_le (by rw [pw.1,tl]; exact Nat.le_refl _)] at c2
          walk_at "rdf"
          exact ⟨more,kvs',p4,p5,p6,p7,p8,rfl,s2,e2,v2,fun z=>(c2 z).2,g2⟩
end
section
variable {P:Program} {w:World} {K:PySem.W.Frag} {mg:Str→Option Value} {base:Heap} {t:Ad}
def Fct.neg:Fct→Fct
 | .cell x y c=>.cell x y (1 - c)
 | .line col k st b=>.line col k st (!b)
theorem Fct.inW_neg {f:Fct} {wd ht:Int} (h:f.inW wd ht):f.neg.inW wd ht:=by
 cases f with
 | cell x y c =>
  obtain ⟨h1,h2,h3⟩:=h
  exact ⟨h1,h2,by omega⟩
 | line col k st b=>cases col<;>exact h
def sp_Lfalse:Sp:=fun vs H Q _=>∃ (p:Addr) (f:Fct),vs=[.ref p]∧H p=some (.tup f.vs)∧∀ a H',Same H H'→H' a=some (.tup f.neg.vs)→Q (.ref a) H'
theorem ok_Lfalse (T:Txt K mg t):FnOk P w K mg base CX0 1 t.f_Lfalse t.d_Lfalse ["_law_fact_here"] sp_Lfalse:=by
 refine T.F_Lfalse.ok sc_Lfalse (fun vs H Q E h=>?_) (fun cdv A outer s H vs Q E hr h=>?_)
 ·obtain ⟨p,f,rfl,_⟩:=h; rfl
 ·obtain ⟨p,f,rfl,hp,k⟩:=h
  refine ⟨_,(pss_cons (ps_if (pt_cmpR op_eq (pe_ix (ix_tupK K rfl) (pv 0) pe_int (fun _ _=>rfl)) pe_str (nomark _)) (pss_one (ps_ret (pe_op (op_catTK K rfl) (pe_slice (sl_tupK K rfl) (pv 0) po_none (po_some pe_int)) (pe_tup (pa_cons (pe_op op_sub pe_int (pe_ix (ix_tupK K rfl) (pv 0) pe_int (fun _ _=>rfl))) pa_nil))))) pss_nil) (pss_one (ps_ret (pe_op (op_catTK K rfl) (pe_slice (sl_tupK K rfl) (pv 0) po_none (po_some pe_int)) (pe_tup (pa_cons (pe_not (pe_ix (ix_tupK K rfl) (pv 0) pe_int (fun _ _=>rfl))) pa_nil)))))),?_⟩
  cases f with
  | cell x y c =>
   walk_at "rdf"
   refine rd_ixT (SqT.of hp) (v:=.str "cell") rfl ?_
   walk_at "rdf"
   rw [decide_eq_true (rfl:("cell":Str)="cell")]
   walk_at "rdf"
   refine rd_slT hp fun H1 u s1 hu=>?_
   replace hu:H1 u=some (.tup [V.str "cell",V.int x,V.int y]):=hu
   walk_at "rdf"
   refine rd_ixT (SqT.of (s1 _ _ hp)) (v:=.int c) rfl ?_
   walk_at "rdf"
   refine ⟨by show 1≤sizeLine; decide,fun u2 nu2=>?_⟩
   have su2:=Same.new (o:=HO.tup [V.int (1 - c)]) nu2
   have eu2:=upd_same (H:=H1) (a:=u2) (o:=HO.tup [V.int (1 - c)])
   generalize upd H1 u2 (HO.tup [V.int (1 - c)])=H2 at su2 eu2 ⊢
   refine rd_catT (su2 _ _ hu) eu2 (by simp) (by simp) (by show 3+1≤sizeLine; decide) fun a na=>?_
   exact k a _ (s1.trans (su2.trans (Same.new na))) upd_same
  | line col kk st b =>
   walk_at "rdf"
   refine rd_ixT (SqT.of hp) (v:=.str (wyS col)) rfl ?_
   walk_at "rdf"
   rw [wy_cell]
   walk_at "rdf"
   refine rd_slT hp fun H1 u s1 hu=>?_
   replace hu:H1 u=some (.tup [V.str (wyS col),V.int kk,V.int st]):=hu
   walk_at "rdf"
   refine rd_ixT (SqT.of (s1 _ _ hp)) (v:=.bl b) rfl ?_
   walk_at "rdf"
   refine ⟨by show 1≤sizeLine; decide,fun u2 nu2=>?_⟩
   have su2:=Same.new (o:=HO.tup [V.bl (!b)]) nu2
   have eu2:=upd_same (H:=H1) (a:=u2) (o:=HO.tup [V.bl (!b)])
   generalize upd H1 u2 (HO.tup [V.bl (!b)])=H2 at su2 eu2 ⊢
   refine rd_catT (su2 _ _ hu) eu2 (by simp) (by simp) (by show 3+1≤sizeLine; decide) fun a na=>?_
   exact k a _ (s1.trans (su2.trans (Same.new na))) upd_same
end
section
variable {P:Program} {w:World} {K:PySem.W.Frag} {mg:Str→Option Value} {base:Heap} {t:Ad}
def Scal (d:PyData):Prop:=(∃ i,d=.int i)∨(∃ b,d=.bool b)∨d=.none∨∃ x,d=.str x∧PyData.strOk x=true
def OkS (S:PyData→Prop) (d:PyData):Prop:=Scal d∨(∃ ds,d=.list ds∧ds.length≤1000∧∀ e∈ds,S e)∨∃ ds,d=.tuple ds∧ds.length≤1000∧∀ e∈ds,S e
def sp_same (S:PyData→Prop):Sp:=fun vs H Q _=>∃ (x y:V) (d:PyData),vs=[x,y]∧S d∧Rep H d x∧Rep H d y∧∀ H',Same H H'→Q (.bl true) H'
theorem same_step {S:PyData→Prop} {n:Nat} (T:Txt K mg t) (G_Lsame:FnOk P w K mg base CX0 n t.f_Lsame t.d_Lsame ["_law_told","_law_due"] (sp_same S)):FnOk P w K mg base CX0 (n+1) t.f_Lsame t.d_Lsame ["_law_told","_law_due"] (sp_same (OkS S)):=by
 refine T.F_Lsame.ok sc_Lsame (fun vs H Q E h=>?_) (fun cdv A outer s H vs Q E hr h=>?_)
 ·obtain ⟨x,y,d,rfl,_⟩:=h; rfl
 ·obtain ⟨x,y,d,rfl,ok,rx,ry,k⟩:=h
  refine cutC (ps_if (PW.pt (pw_or (pt_cmpR op_ne (pe_callB (cI_isinstK K rfl) rfl T.no_isinstance (by rfl) (pa_cons (pv 0) (pa_cons (pe_bltn (v:=.ty "bool") rfl T.no_bool (by rfl:bootBuiltins "bool"=some (.type "bool")) rfl) pa_nil))) (pe_callB (cI_isinstK K rfl) rfl T.no_isinstance (by rfl) (pa_cons (pv 1) (pa_cons (pe_bltn (v:=.ty "bool") rfl T.no_bool (by rfl:bootBuiltins "bool"=some (.type "bool")) rfl) pa_nil))) (nomark _)) (pw_or1 (pt_cmpR op_ne (pe_callB (cI_isinstK K rfl) rfl T.no_isinstance (by rfl) (pa_cons (pv 0) (pa_cons (pe_bltn (v:=.ty "int") rfl T.no_int (by rfl:bootBuiltins "int"=some (.type "int")) rfl) pa_nil))) (pe_callB (cI_isinstK K rfl) rfl T.no_isinstance (by rfl) (pa_cons (pv 1) (pa_cons (pe_bltn (v:=.ty "int") rfl T.no_int (by rfl:bootBuiltins "int"=some (.type "int")) rfl) pa_nil))) (nomark _))))) (pss_one (ps_ret pe_bl)) pss_nil) fun _ _=>cutC (ps_if (PW.pt (pw_or (pt_cmpR op_ne (pe_callB (cI_isinstK K rfl) rfl T.no_isinstance (by rfl) (pa_cons (pv 0) (pa_cons (pe_bltn (v:=.ty "list") rfl T.no_list (by rfl:bootBuiltins "list"=some (.type "list")) rfl) pa_nil))) (pe_callB (cI_isinstK K rfl) rfl T.no_isinstance (by rfl) (pa_cons (pv 1) (pa_cons (pe_bltn (v:=.ty "list") rfl T.no_list (by rfl:bootBuiltins "list"=some (.type "list")) rfl) pa_nil))) (nomark _)) (pw_or1 (pt_cmpR op_ne (pe_callB (cI_isinstK K rfl) rfl T.no_isinstance (by rfl) (pa_cons (pv 0) (pa_cons (pe_bltn (v:=.ty "tuple") rfl T.no_tuple (by rfl:bootBuiltins "tuple"=some (.type "tuple")) rfl) pa_nil))) (pe_callB (cI_isinstK K rfl) rfl T.no_isinstance (by rfl) (pa_cons (pv 1) (pa_cons (pe_bltn (v:=.ty "tuple") rfl T.no_tuple (by rfl:bootBuiltins "tuple"=some (.type "tuple")) rfl) pa_nil))) (nomark _))))) (pss_one (ps_ret pe_bl)) pss_nil) fun _ _=>cutC (ps_if (PW.pt (pw_and (pt_not (pt_val (pe_callB (cI_isinstK K rfl) rfl T.no_isinstance (by rfl) (pa_cons (pv 1) (pa_cons (pe_bltn (v:=.ty "list") rfl T.no_list (by rfl:bootBuiltins "list"=some (.type "list")) rfl) pa_nil))))) (pw_and1 (pt_not (pt_val (pe_callB (cI_isinstK K rfl) rfl T.no_isinstance (by rfl) (pa_cons (pv 1) (pa_cons (pe_bltn (v:=.ty "tuple") rfl T.no_tuple (by rfl:bootBuiltins "tuple"=some (.type "tuple")) rfl) pa_nil)))))))) (pss_one (ps_ret (pe_and (pe_cmpR op_eq (pe_callB (cI_isinstK K rfl) rfl T.no_isinstance (by rfl) (pa_cons (pv 0) (pa_cons (pe_bltn (v:=.ty "str") rfl T.no_str (by rfl:bootBuiltins "str"=some (.type "str")) rfl) pa_nil))) (pe_callB (cI_isinstK K rfl) rfl T.no_isinstance (by rfl) (pa_cons (pv 1) (pa_cons (pe_bltn (v:=.ty "str") rfl T.no_str (by rfl:bootBuiltins "str"=some (.type "str")) rfl) pa_nil))) (nomark _)) (pe_one (pe_cmpR (op_eqD hr.units) (pv 0) (pv 1) (nomark _)))))) pss_nil) fun _ _=>cutE (ps_ret (pe_and (pe_cmpR op_eq (pe_callB (cI_lenK K rfl) rfl T.no_len (by rfl) (pa_cons (pv 0) pa_nil)) (pe_callB (cI_lenK K rfl) rfl T.no_len (by rfl) (pa_cons (pv 1) pa_nil)) (nomark _)) (pe_one (pe_callB (cI_allK K rfl rfl) rfl T.no_all (by rfl) (pa_cons (pe_comp (N:=["_law_one","_law_other"]) (cap:=[none,none]) rfl ⟨rfl,rfl,rfl,rfl,rfl,rfl⟩ (pi_zipS rfl T.no_zip (pa_cons (pv 0) (pa_cons (pv 1) pa_nil))) (fun _ _ _=>(pg_tupK (n:=2) K rfl rfl (pgs_cons (pg_name (i:=0) (show (["_law_one","_law_other"]:List Str).Nodup by decide +kernel) rfl (Or.inl rfl)) (pgs_cons (pg_name (i:=1) (show (["_law_one","_law_other"]:List Str).Nodup by decide +kernel) rfl (Or.inl rfl)) pgs_nil)))) (fun _ _ _=>pts_nil) (fun _ _ _=>(pe_call G_Lsame (hr.mono (by first | decide | omega)) rfl T.mg_Lsame T.F_Lsame.kp T.b_Lsame .nil pass0 (pa_cons (pv 0) (pa_cons (pv 1) pa_nil))))) pa_nil))))) fun _ _=>?_
  walk_at "rdf"
  refine rd_isi rx.ty (kit_bool d) ?_
  walk_at "rdf"
  refine rd_isi ry.ty (kit_bool d) ?_
  walk_at "rdf"
  rw [decide_eq_true rfl]
  walk_at "rdf"
  refine rd_isi rx.ty (kit_int d) ?_
  walk_at "rdf"
  refine rd_isi ry.ty (kit_int d) ?_
  walk_at "rdf"
  rw [decide_eq_true rfl]
  walk_at "rdf"
  refine rd_isi rx.ty (kit_list d) ?_
  walk_at "rdf"
  refine rd_isi ry.ty (kit_list d) ?_
  walk_at "rdf"
  rw [decide_eq_true rfl]
  walk_at "rdf"
  refine rd_isi rx.ty (kit_tuple d) ?_
  walk_at "rdf"
  refine rd_isi ry.ty (kit_tuple d) ?_
  walk_at "rdf"
  rw [decide_eq_true rfl]
  walk_at "rdf"
  refine rd_isi ry.ty (kit_list d) ?_
  walk_at "rdf"
  rcases ok with sc | ⟨ds,rfl,hl,hS⟩ | ⟨ds,rfl,hl,hS⟩
  ·have e1:isD "list" d=false:=by rcases sc with ⟨i,rfl⟩ | ⟨b,rfl⟩ | rfl | ⟨x,rfl,hx⟩<;>simp [isD]
   have e2:isD "tuple" d=false:=by rcases sc with ⟨i,rfl⟩ | ⟨b,rfl⟩ | rfl | ⟨x,rfl,hx⟩<;>simp [isD]
   rw [e1]
   walk_at "rdf"
   refine rd_isi ry.ty (kit_tuple d) ?_
   rw [e2]
   walk_at "rdf"
   refine rd_isi rx.ty (kit_str d) ?_
   walk_at "rdf"
   refine rd_isi ry.ty (kit_str d) ?_
   walk_at "rdf"
   rw [decide_eq_true rfl]
   walk_at "rdf"
   have sd:SeqAt.shaped d=true:=by rcases sc with ⟨i,rfl⟩ | ⟨b,rfl⟩ | rfl | ⟨x,rfl,hx⟩<;>first | rfl | simp [SeqAt.shaped,PyData.canLay0,PyData.depth,hx]
   refine ⟨d,d,rx,ry,sd,sd,?_⟩
   have e3:PyData.eqv d d=true:=by rcases sc with ⟨i,rfl⟩ | ⟨b,rfl⟩ | rfl | ⟨x,rfl,hx⟩<;>simp [PyData.eqv]
   rw [e3]
   exact k _ (Same.refl _)
  ·have e1:isD "list" (.list ds)=true:=by simp [isD]
   rw [e1]
   simp only [Rep] at rx ry
   obtain ⟨a,xs,rfl,ha,ra⟩:=rx
   obtain ⟨b,ys,rfl,hb,rb⟩:=ry
   obtain ⟨l1,g1⟩:=repL_get ra
   obtain ⟨l2,g2⟩:=repL_get rb
   walk_at "rdf"
   refine rd_lenL ha ?_
   walk_at "rdf"
   refine rd_lenL hb ?_
   walk_at "rdf"
   rw [decide_eq_true (by omega:(xs.length:Int)=ys.length)]
   walk_at "rdf"
   refine ⟨a,b,rfl,.inl ⟨⟨_,SqL.of ha⟩,⟨_,SqL.of hb⟩,fun l hn=>?_⟩⟩
   refine compW_zip (fun _=>.bl true) ha hb (by omega) (by omega) hn (fun i x y H' Q' ex ey s1 q=>?_) (fun H' s1 e=>?_)
   ·walk_at "rdf"
    obtain ⟨d,hd,rd⟩:=g1 i x ex
    obtain ⟨d',hd',rd'⟩:=g2 i y ey
    rw [hd] at hd'
    cases hd'
    exact ⟨x,y,d,rfl,hS d (List.mem_of_getElem? hd),rd.mono s1,rd'.mono s1,q⟩
   ·walk_at "rdf"
    have e':H' l=some (.lst (((List.range xs.length).map fun _=>true).map V.bl)):=by rw [e,List.map_map]; rfl
    refine rd_all e' ?_
    have e4:((List.range xs.length).map fun _=>true).all id=true:=by simp
    rw [e4]
    exact k H' s1
  ·have e1:isD "list" (.tuple ds)=false:=by simp [isD]
   have e2:isD "tuple" (.tuple ds)=true:=by simp [isD]
   rw [e1]
   walk_at "rdf"
   refine rd_isi ry.ty (kit_tuple _) ?_
   rw [e2]
   simp only [Rep] at rx ry
   obtain ⟨a,xs,rfl,ha,ra⟩:=rx
   obtain ⟨b,ys,rfl,hb,rb⟩:=ry
   obtain ⟨l1,g1⟩:=repL_get ra
   obtain ⟨l2,g2⟩:=repL_get rb
   walk_at "rdf"
   refine rd_lenT ha ?_
   walk_at "rdf"
   refine rd_lenT hb ?_
   walk_at "rdf"
   rw [decide_eq_true (by omega:(xs.length:Int)=ys.length)]
   walk_at "rdf"
   refine ⟨a,b,rfl,.inr ⟨⟨_,SqT.of ha⟩,⟨_,SqT.of hb⟩,fun l hn=>?_⟩⟩
   refine compW_zipT (fun _=>.bl true) ha hb (by omega) (by omega) hn (fun i x y H' Q' ex ey s1 q=>?_) (fun H' s1 e=>?_)
   ·walk_at "rdf"
    obtain ⟨d,hd,rd⟩:=g1 i x ex
    obtain ⟨d',hd',rd'⟩:=g2 i y ey
    rw [hd] at hd'
    cases hd'
    exact ⟨x,y,d,rfl,hS d (List.mem_of_getElem? hd),rd.mono s1,rd'.mono s1,q⟩
   ·walk_at "rdf"
    have e':H' l=some (.lst (((List.range xs.length).map fun _=>true).map V.bl)):=by rw [e,List.map_map]; rfl
    refine rd_all e' ?_
    have e4:((List.range xs.length).map fun _=>true).all id=true:=by simp
    rw [e4]
    exact k H' s1
def Ok3:PyData→Prop:=OkS (OkS (OkS fun _=>False))
theorem ok_Lsame (T:Txt K mg t):FnOk P w K mg base CX0 3 t.f_Lsame t.d_Lsame ["_law_told","_law_due"] (sp_same Ok3) :=
 same_step T (same_step T (same_step T ⟨fun vs H Q E h=>(by obtain ⟨_,_,_,_,h,_⟩:=h; exact h.elim),fun A outer s H args us vs Q E _ _ _ _ h=>(by obtain ⟨_,_,_,_,h,_⟩:=h; exact h.elim)⟩))
theorem okS_int {S:PyData→Prop} (i:Int):OkS S (.int i):=.inl (.inl ⟨i,rfl⟩)
theorem okS_bool {S:PyData→Prop} (i:Bool):OkS S (.bool i):=.inl (.inr (.inl ⟨i,rfl⟩))
theorem okS_str {S:PyData→Prop} {x:Str} (h:PyData.strOk x=true):OkS S (.str x):=.inl (.inr (.inr (.inr ⟨x,rfl,h⟩)))
theorem okS_ints {S:PyData→Prop} {ns:List Int} (h:ns.length≤1000):OkS (OkS S) (.list (ns.map PyData.int)) :=
 .inr (.inl ⟨_,rfl,by rw [List.length_map]; exact h,fun e he=>by obtain ⟨i,_,rfl⟩:=List.mem_map.mp he; exact okS_int i⟩)
end
section
variable {K:PySem.W.Frag} {σ:L2.St} {H:Hp} {Q:VK} {te:TE} {tt:TT} {cap:List (Option Nat)} {l:Addr}
theorem compW_filtF {a:Addr} {xs:List V} (F:V→V) (p:V→Bool) (hs:SqL K H a xs) (hz:xs.length≤5000) (hl:H l=none)
    (test:∀ x o H' (Q':Bool→Hp→Prop),x∈xs→Same H H'→(∀ H5,Same H' H5→Q' (p x) H5)→tt (((capS (none::cap) σ).set 0 o).set 0 (some x)) H' Q')
    (step:∀ x o H' (Q':VK),x∈xs→p x=true→Same H H'→(∀ H5,Same H' H5→Q' (F x) H5)→te (((capS (none::cap) σ).set 0 o).set 0 (some x)) H' Q')
    (fin:∀ H',Same H H'→H' l=some (.lst ((xs.filter p).map F))→Q (.ref l) H'):CompW (Itl K a) (gName 0) tt te (none::cap) l σ H Q:=by
  refine ⟨xs.length,fun i ys σ' H'=>ys=((xs.take i).filter p).map F∧(∃ o,σ'=(capS (none::cap) σ).set 0 o)∧Same H H'∧H' l=some (.lst ys),⟨rfl,⟨none,rfl⟩,Same.new hl,upd_same⟩,?_,?_⟩
  · rintro i ys σ' H' hi ⟨rfl,⟨o,rfl⟩,s,e⟩
    refine ⟨⟨xs,xs[i],s.seq hs,by simp [hi]⟩,fun x H2 y=>?_⟩
    obtain ⟨e2,y⟩:=y
    subst e2
    have hx:=y xs (s.seq hs)
    have tk:((xs.take (i+1)).filter p).map F=((xs.take i).filter p).map F++(if p x=true then [F x] else []):=by
      rw [List.take_add_one,hx,List.filter_append,List.map_append]
      congr 1
      cases hp:p x<;>simp [hp]
    refine rd_name (test x o H2 _ (List.mem_of_getElem? hx) s fun H5 s5=>?_)
    by_cases hp:p x=true
    · rw [if_pos hp]
      rw [if_pos hp] at tk
      refine step x o H5 _ (List.mem_of_getElem? hx) hp (s.trans s5) fun H6 s6=>⟨s6 _ _ (s5 _ _ e),?_,?_⟩
      · have:(((xs.take i).filter p).map F).length≤xs.length:=by
          rw [List.length_map]
          exact Nat.le_trans (List.length_filter_le _ _) (by rw [List.length_take]; omega)
        exact Nat.lt_of_le_of_lt (Nat.le_trans this hz) (by decide)
      · exact ⟨tk.symm,⟨_,List.set_set ..⟩,((s.trans s5).trans s6).later hl,upd_same⟩
    · rw [if_neg hp]
      rw [if_neg hp,List.append_nil] at tk
      exact ⟨tk.symm,⟨_,List.set_set ..⟩,s.trans s5,s5 _ _ e⟩
  · rintro ys σ' H' ⟨rfl,_,s,e⟩
    rw [List.take_of_length_le (Nat.le_refl _)] at e
    exact ⟨⟨xs,s.seq hs,Nat.le_refl _⟩,fin H' s e⟩
end
section
variable {P:Program} {w:World} {K:PySem.W.Frag} {mg:Str→Option Value} {base:Heap} {t:Ad}
def sp_FindsInit (C:Addr):Sp:=fun vs H Q _=>∃ (p dx:Addr) (wd ht:Nat),vs=[.ref p,.int wd,.int ht]∧H p=some (.ins C dx [])∧(1≤wd∧wd≤40)∧(1≤ht∧ht≤40) ∧
 ∀ df dg H',ButL [p] H H'→H df=none→H dg=none→FdAt C H' p df dg wd ht [] 0 Fm.lone→Q .non H'
theorem ok_FindsInit (T:Txt K mg t):FnOk P w K mg base CX0 4 t.f_FindsInit t.d_FindsInit ["self","wide","tall"] (sp_FindsInit t.a_Finds) :=
 (okx_FindsInit T).down fun vs H Q E hh=>by
  obtain ⟨p,dx,wd,ht,e,hp,hw,hh',k⟩:=hh
  have s1:isSide ((wd:Nat):Int)=true:=by unfold isSide; rw [decide_eq_true (by omega),decide_eq_true (by omega)]; rfl
  have s2:isSide ((ht:Nat):Int)=true:=by unfold isSide; rw [decide_eq_true (by omega),decide_eq_true (by omega)]; rfl
  refine ⟨p,dx,wd,ht,e,hp,fun z=>(by rw [s1,s2] at z; cases z),fun _ df dg H' m n1 n2 f=>?_⟩
  rw [Int.toNat_natCast,Int.toNat_natCast] at f
  exact k df dg H' m n1 n2 f
def rowD (nf:Int×Fct):PyData:=.tuple [.int nf.1,nf.2.dat]
theorem rowD_rep {H:Hp} {b a:Addr} {nf:Int×Fct} (hb:H b=some (.tup [.int nf.1,.ref a])) (ha:H a=some (.tup nf.2.vs)):Rep H (rowD nf) (.ref b):=by
 have:=Fct.rep ha
 unfold rowD
 simp only [Rep,RepL]
 exact ⟨b,_,rfl,hb,_,_,rfl,rfl,_,_,rfl,this,rfl⟩
theorem Fct.dep (f:Fct):f.dat.depth=1:=by cases f<;>simp only [Fct.dat,PyData.depth,PyData.depthAll]<;>decide
theorem rowD_lay (nf:Int×Fct):(rowD nf).canLay0=true∧(rowD nf).depth=2:=by
 constructor
 ·unfold rowD; simp only [PyData.canLay0,PyData.canLayAll0,nf.2.lay.1]; decide
 ·unfold rowD; simp only [PyData.depth,PyData.depthAll,nf.2.dep]; decide
theorem rows_repL {H:Hp}:∀ {xs:List V} {F:List (Int×Fct)},PwP H xs F→RepL H (F.map rowD) xs
 | [],[],_=>by simp only [List.map_nil,RepL]
 | [],_::_,h=>by have:=h.1; simp at this
 | _::_,[],h=>by have:=h.1; simp at this
 | x::xs,f::fs,h=>by
  simp only [List.map_cons,RepL]
  obtain ⟨b,a,rfl,hb,ha⟩:=h.2 0 x f rfl rfl
  refine ⟨_,_,rfl,rowD_rep hb ha,rows_repL ⟨?_,fun i v g h1 h2=>h.2 (i+1) v g (by simpa using h1) (by simpa using h2)⟩⟩
  have:=h.1
  simpa using this
theorem rows_lay:∀ F:List (Int×Fct),PyData.canLayAll0 (F.map rowD)=true∧PyData.depthAll (F.map rowD)≤3
 | []=>⟨rfl,Nat.zero_le _⟩
 | f::F=>by
  have h1:=rowD_lay f
  have h2:=rows_lay F
  rw [List.map_cons]
  exact ⟨by rw [PyData.canLayAll0,h1.1,h2.1]; rfl,by rw [PyData.depthAll]; omega⟩
theorem rows_shp (F:List (Int×Fct)):SeqAt.shaped (.list (F.map rowD))=true:=by
 have h:=rows_lay F
 unfold SeqAt.shaped
 rw [Bool.and_eq_true]
 refine ⟨h.1,decide_eq_true ?_⟩
 rw [PyData.depth]; omega
theorem rows_rep {H:Hp} {lf:Addr} {xs:List V} {F:List (Int×Fct)} (hl:H lf=some (.lst xs)) (h:PwP H xs F):Rep H (.list (F.map rowD)) (.ref lf):=by
 simp only [Rep]
 exact ⟨lf,xs,rfl,hl,rows_repL h⟩
theorem nil_rep {H:Hp} {l:Addr} (hl:H l=some (.lst [])):Rep H (.list []) (.ref l):=by
 simp only [Rep,RepL]
 exact ⟨l,[],rfl,hl,rfl⟩
theorem rd_neNil {H:Hp} {Q:VK} {lf l:Addr} {xs:List V} {F:List (Int×Fct)} (hl:H lf=some (.lst xs)) (h:PwP H xs F) (hn:H l=some (.lst [])) (q:Q (.bl (!decide (F=[]))) H):rEqD true (.ref lf) (.ref l) H Q :=
 ⟨_,_,rows_rep hl h,nil_rep hn,rows_shp F,by decide,by
  rw [if_pos rfl]
  have:PyData.eqv (.list (F.map rowD)) (.list [])=decide (F=[]):=by cases F<;>rfl
  rw [this]; exact q⟩
theorem PwP.filter {H:Hp} {p:V→Bool} {g:Int×Fct→Bool}:∀ {xs:List V} {F:List (Int×Fct)},PwP H xs F→(∀ (i:Nat) x nf,xs[i]?=some x→F[i]?=some nf→p x=g nf)→PwP H (xs.filter p) (F.filter g)
 | [],[],_,_=>⟨rfl,fun i v nf h1=>by simp at h1⟩
 | [],_::_,h,_=>by have:=h.1; simp at this
 | _::_,[],h,_=>by have:=h.1; simp at this
 | x::xs,nf::F,h,hp=>by
  have h0:=hp 0 x nf rfl rfl
  have e0:=h.2 0 x nf rfl rfl
  have ht:PwP H xs F:=⟨by have:=h.1; simpa using this,fun i v g h1 h2=>h.2 (i+1) v g (by simpa using h1) (by simpa using h2)⟩
  have ih:=PwP.filter (p:=p) (g:=g) ht fun i x nf h1 h2=>hp (i+1) x nf (by simpa using h1) (by simpa using h2)
  rw [List.filter_cons,List.filter_cons,h0]
  by_cases c:g nf=true
  ·rw [if_pos c,if_pos c]
   refine ⟨by rw [List.length_cons,List.length_cons,ih.1],fun i v nf' h1 h2=>?_⟩
   cases i with
   | zero =>
    simp only [List.getElem?_cons_zero,Option.some.injEq] at h1 h2
    subst h1 h2
    exact e0
   | succ i=>simp only [List.getElem?_cons_succ] at h1 h2; exact ih.2 i v nf' h1 h2
  ·rw [if_neg c,if_neg c]; exact ih
end
section
variable {P:Program} {w:World} {K:PySem.W.Frag} {mg:Str→Option Value} {base:Heap} {t:Ad}
def mkW:List Str:=["Known","NoCell","BadBit","NoLine","NoStep","NoFact"]
def mkL (nm:Str):List Bool:=mkW.map fun x=>decide (x=nm)
def NoAt (H:Hp) (b:Addr) (nm:Str):Prop:=∃ l,H b=some (.tup [.str "no",.ref l])∧H l=some (.lst ((mkL nm).map V.bl))
theorem NoAt.mono {H H':Hp} {b:Addr} {nm:Str} (h:NoAt H b nm) (m:Same H H'):NoAt H' b nm:=by
 obtain ⟨l,h1,h2⟩:=h
 exact ⟨l,m _ _ h1,m _ _ h2⟩
def noD (nm:Str):PyData:=.tuple [.str "no",.list ((mkL nm).map PyData.bool)]
theorem NoAt.rep {H:Hp} {b:Addr} {nm:Str} (h:NoAt H b nm):Rep H (noD nm) (.ref b):=by
 obtain ⟨l,h1,h2⟩:=h
 have r:=rep_bools h2
 unfold noD
 simp only [Rep,RepL] at r ⊢
 exact ⟨b,_,rfl,h1,_,_,rfl,rfl,_,_,rfl,r,rfl⟩
theorem noD_shp (nm:Str):SeqAt.shaped (noD nm)=true:=by
 unfold noD
 simp only [SeqAt.shaped,PyData.canLay0,PyData.canLayAll0,PyData.depth,PyData.depthAll,lay_bools,deep_bools]
 decide +kernel
theorem noD_eqv (nm:Str):PyData.eqv (noD nm) (noD nm)=true:=by
 unfold noD
 simp only [PyData.eqv,PyData.eqvAll,eqv_bools,beq_self_eq_true,decide_true,Bool.and_true]
theorem rd_neNo {H:Hp} {Q:VK} {a b:Addr} {nm:Str} (ha:NoAt H a nm) (hb:NoAt H b nm) (q:Q (.bl false) H):rEqD true (.ref a) (.ref b) H Q :=
 ⟨_,_,ha.rep,hb.rep,noD_shp _,noD_shp _,by rw [noD_eqv]; exact q⟩
def sp_Lword:Sp:=fun vs H Q _=>∃ (nm:Str),vs=[.str nm]∧∀ b H',Same H H'→NoAt H' b nm→Q (.ref b) H'
theorem ok_Lword (T:Txt K mg t):FnOk P w K mg base CX0 1 t.f_Lword t.d_Lword ["_law_word_here"] sp_Lword:=by
 refine T.F_Lword.ok sc_Lword (fun vs H Q E h=>?_) (fun cdv A outer s H vs Q E hr h=>?_)
 ·obtain ⟨nm,rfl,_⟩:=h; rfl
 ·obtain ⟨nm,rfl,k⟩:=h
  refine ⟨_,(pss_one (ps_ret (pe_tup (pa_cons pe_str (pa_cons (pe_comp (N:=["_law_one","_law_word_here"]) (cap:=[none,some 0]) rfl ⟨rfl,rfl,rfl,rfl,rfl,rfl⟩ (pi_list (pe_lst (pa_cons pe_str (pa_cons pe_str (pa_cons pe_str (pa_cons pe_str (pa_cons pe_str (pa_cons pe_str pa_nil)))))))) (fun _ _ _=>(pg_name (i:=0) (show (["_law_one","_law_word_here"]:List Str).Nodup by decide +kernel) rfl (Or.inl rfl))) (fun _ _ _=>pts_nil) (fun _ _ _=>(pe_cmpR op_eq (pv 0) (pv 1) (nomark _)))) pa_nil))))),?_⟩
  walk_at "rdf"
  refine ⟨by show 6≤sizeLine; decide,fun l1 n1=>?_⟩
  have e0:[V.str "Known",V.str "NoCell",V.str "BadBit",V.str "NoLine",V.str "NoStep",V.str "NoFact"]=mkW.map V.str:=rfl
  rw [e0]
  have s1:=Same.new (o:=HO.lst (mkW.map V.str)) n1
  walk_at "rdf"
  refine ⟨⟨_,SqL.of upd_same⟩,fun l2 n2=>?_⟩
  refine compW_list (fun v=>match v with | .str x=>.bl (decide (x=nm)) | _=>.non) (SqL.of upd_same) (by rw [List.length_map]; decide) n2 (fun x o H' Q' hx s2 q=>?_) (fun H9 s2 e2=>?_)
  ·obtain ⟨i,_,rfl⟩:=List.mem_map.mp hx
   walk_at "rdf"
   exact q H' (Same.refl _)
  ·rw [List.map_map] at e2
   walk_at "rdf"
   refine ⟨by show 2≤sizeLine; decide,fun bb nbb=>?_⟩
   have sbb:=Same.new (o:=HO.tup [V.str (Str.ofString "no"),V.ref l2]) nbb
   have ebb:=upd_same (H:=H9) (a:=bb) (o:=HO.tup [V.str (Str.ofString "no"),V.ref l2])
   generalize upd H9 bb (HO.tup [V.str (Str.ofString "no"),V.ref l2])=H4 at sbb ebb ⊢
   walk_at "rdf"
   exact k bb H4 (s1.trans (s2.trans sbb)) ⟨l2,ebb,(sbb _ _ e2).trans (by unfold mkL; rw [List.map_map]; rfl)⟩
def sp_Findskept (C:Addr):Sp:=fun vs H Q _=>∃ (p df dg:Addr) (wd ht:Nat) (F:List (Int×Fct)) (n:Int) (G:List Key→List Key×Int),vs=[.ref p]∧FdAt C H p df dg wd ht F n G∧∀ l ys H',Same H H'→H l=none→H' l=some (.lst ys)→PwP H' ys F→Q (.ref l) H'
theorem ok_Findskept (T:Txt K mg t):FnOk P w K mg base CX0 1 t.f_Findskept t.d_Findskept ["self"] (sp_Findskept t.a_Finds):=by
 refine T.F_Findskept.ok sc_Findskept (fun vs H Q E h=>?_) (fun cdv A outer s H vs Q E hr h=>?_)
 ·obtain ⟨p,df,dg,wd,ht,F,n,G,rfl,_⟩:=h; rfl
 ·obtain ⟨p,df,dg,wd,ht,F,n,G,rfl,fd,k⟩:=h
  obtain ⟨dx,fs,hp,fl⟩:=fd.ob
  obtain ⟨kf,hdf,pn⟩:=fd.fa
  refine ⟨_,(pss_one (ps_ret (pe_callTy (cI_listI rfl) rfl T.no_list (by rfl) (pa_cons (pe_bm0 PySem.F.plainAttrs_dict PySem.F.slot_dict_items PySem.F.type_dict_items mt_items (pe_fldK K rfl (pv 0) rfl)) pa_nil)))),?_⟩
  walk_at "rdf"
  refine rd_fldv hp T.cl_Finds T.naF_facts fl.f ?_
  walk_at "rdf"
  refine rd_bmD hdf ?_
  refine rd_viewv hdf fun v nv=>?_
  have sv:=Same.new (o:=ViewO "dict_items" v df) nv
  have ev:=upd_same (H:=H) (a:=v) (o:=ViewO "dict_items" v df)
  generalize upd H v (ViewO "dict_items" v df)=H2 at sv ev ⊢
  walk_at "rdf"
  refine rd_listI ev (sv _ _ hdf) fun l ys H3 s3 nl e3 pw=>?_
  have s:=sv.trans s3
  refine k l ys H3 s (sv.free nl) e3 ⟨pw.1.trans pn.1,fun i y nf h1 h2=>?_⟩
  obtain ⟨⟨kk,x⟩,hk⟩:∃ q,kf[i]?=some q:=⟨_,List.getElem?_eq_getElem (by rw [pn.1]; exact (List.getElem?_eq_some_iff.mp h2).1)⟩
  obtain ⟨rfl,a,rfl,ha⟩:=pn.2 i kk x nf hk h2
  obtain ⟨b,rfl,hb⟩:=pw.2 i y _ _ h1 hk
  exact ⟨b,a,rfl,hb,s _ _ ha⟩
theorem repL_rows {H:Hp}:∀ {xs:List V} {F:List (Int×Fct)},PwP H xs F→RepL H (F.map rowD) xs
 | [],[],_=>by simp only [List.map_nil,RepL]
 | [],_::_,h=>by have:=h.1; simp at this
 | _::_,[],h=>by have:=h.1; simp at this
 | x::xs,f::fs,h=>by
  simp only [List.map_cons,RepL]
  obtain ⟨b,a,rfl,hb,ha⟩:=h.2 0 x f rfl rfl
  exact ⟨_,_,rfl,rowD_rep hb ha,repL_rows ⟨by have:=h.1; simpa using this,fun i v nf h1 h2=>h.2 (i+1) v nf (by simpa using h1) (by simpa using h2)⟩⟩
theorem okS_dat {S:PyData→Prop} (f:Fct):OkS (OkS S) f.dat:=by
 cases f with
 | cell x y c =>
  refine .inr (.inr ⟨_,rfl,by simp,fun e he=>?_⟩)
  simp only [List.mem_cons,List.not_mem_nil,or_false] at he
  rcases he with rfl | rfl | rfl | rfl
  ·exact okS_str (by decide +kernel)
  ·exact okS_int _
  ·exact okS_int _
  ·exact okS_int _
 | line col kk s b =>
  refine .inr (.inr ⟨_,rfl,by simp,fun e he=>?_⟩)
  simp only [List.mem_cons,List.not_mem_nil,or_false] at he
  rcases he with rfl | rfl | rfl | rfl
  ·exact okS_str (wy_ok col)
  ·exact okS_int _
  ·exact okS_int _
  ·exact okS_bool _
theorem okS_rows {F:List (Int×Fct)} (h:F.length≤1000):OkS Ok3 (.list (F.map rowD)):=by
 refine .inr (.inl ⟨_,rfl,by rw [List.length_map]; exact h,fun e he=>?_⟩)
 obtain ⟨nf,_,rfl⟩:=List.mem_map.mp he
 refine .inr (.inr ⟨_,rfl,by simp,fun e he=>?_⟩)
 simp only [List.mem_cons,List.not_mem_nil,or_false] at he
 rcases he with rfl | rfl
 ·exact okS_int _
 ·exact okS_dat _
def fstOf (H:Hp):V→V
 | .ref b=>match H b with
  | some (.tup [x, _]) => x
  | _ => .non
 | _=>.non
end
section
variable {P:Program} {w:World} {K:PySem.W.Frag} {mg:Str→Option Value} {base:Heap} {t:Ad}
theorem Fct.wt01 (f:Fct):f.tie.2.2=0∨f.tie.2.2=1:=by
 cases f with
 | cell x y c=>show (c+x*y)%2=0∨(c+x*y)%2=1; omega
 | line col k s b=>show (if b=true then (s+1)%2 else s%2)=0∨(if b=true then (s+1)%2 else s%2)=1; split<;>omega
open Classical in
theorem FOk.add {v:List Key→Int} {wd ht:Nat} {F:List (Int×Fct)} {n:Int} {G:List Key→List Key×Int} (h:FOk v wd ht F n G) {f:Fct} (hi:f.inW wd ht) (nc:¬ Clh G f):∃ v',FOk v' wd ht (F++[(n,f)]) (n+1) (Fm.tieG G f.tie):=by
  obtain ⟨d1,d2⟩:=Fct.inD hi
  by_cases tr:Tr v f
  · exact ⟨v,h.snoc hi tr⟩
  · have ncon:¬ Fm.Con (tiesOf F) f.tie.1 f.tie.2.1:=fun con=>by
      have c:=(h.gr.lead _ d1 _ d2).mpr con
      refine nc ⟨c,fun e=>tr ?_⟩
      show f.tie.2.2=_
      rw [← e,h.gr.wt _ d1 _ d2 con]
    let v':List Key→Int:=fun s=>if Fm.Con (tiesOf F) f.tie.1 s then v s+1 else v s
    have ev:∀ {s u:List Key},Fm.Con (tiesOf F) s u→(v' s+v' u)%2=(v s+v u)%2:=fun {s u} con=>by
      by_cases c:Fm.Con (tiesOf F) f.tie.1 s
      · have e1:v' s=v s+1:=if_pos c
        have e2:v' u=v u+1:=if_pos (c.trans con)
        rw [e1,e2]; omega
      · have e1:v' s=v s:=if_neg c
        have e2:v' u=v u:=if_neg fun z=>c (z.trans con.symm)
        rw [e1,e2]
    have f0:FOk v' wd ht F n G:=⟨h.inw,fun nf hm=>by
        show nf.2.tie.2.2=(v' nf.2.tie.1+v' nf.2.tie.2.1)%2
        have q:=ev (s:=nf.2.tie.1) (u:=nf.2.tie.2.1) (Fm.Con.one (w:=nf.2.tie.2.2) (List.mem_map.mpr ⟨nf,hm,rfl⟩))
        rw [q]
        exact h.tr nf hm,h.lt,h.nd,⟨h.gr.lead,fun s hs u hu con=>by rw [ev con]; exact h.gr.wt s hs u hu con⟩⟩
    refine ⟨v',f0.snoc hi ?_⟩
    show f.tie.2.2=(v' f.tie.1+v' f.tie.2.1)%2
    have e1:v' f.tie.1=v f.tie.1+1:=if_pos (.refl _)
    have e2:v' f.tie.2.1=v f.tie.2.1:=if_neg ncon
    have w01:=Fct.wt01 f
    have tr:¬ f.tie.2.2=(v f.tie.1+v f.tie.2.1)%2:=tr
    rw [e1,e2]
    omega
def sp_Lclashes:Sp:=fun vs H Q _=>∃ (lf a:Addr) (xs:List V) (F:List (Int×Fct)) (n:Int) (G:List Key→List Key×Int) (v:List Key→Int) (wd ht:Nat) (f:Fct),vs=[.ref lf,.ref a]∧H lf=some (.lst xs)∧PwP H xs F∧F.length≤400∧FOk v wd ht F n G∧wd≤40∧ht≤40∧H a=some (.tup f.vs)∧f.inW wd ht ∧
 ∀ b H',Same H H'→(b=true↔Clh G f)→Q (.bl b) H'
theorem ok_Lclashes (T:Txt K mg t):FnOk P w K mg base CX0 3 t.f_Lclashes t.d_Lclashes ["_law_facts","_law_fact_here"] sp_Lclashes:=by
 have G_Ltie:=ok_Ltie (P:=P) (w:=w) (base:=base) T
 have G_Lsums:=ok_Lsums (P:=P) (w:=w) (base:=base) T
 refine T.F_Lclashes.ok sc_Lclashes (fun vs H Q E h=>?_) (fun cdv A outer s H vs Q E hr h=>?_)
 ·obtain ⟨lf,a,xs,F,n,G,v,wd,ht,f,rfl,_⟩:=h; rfl
 ·obtain ⟨lf,a,xs,F,n,G,v,wd,ht,f,rfl,hl,pw,lF,fo,lw,lh,ha,hi,k⟩:=h
  obtain ⟨d1,d2⟩:=Fct.inD hi
  refine ⟨_,(pss_cons (ps_asg (pe_call G_Ltie (hr.mono (by first | decide | omega)) rfl T.mg_Ltie T.F_Ltie.kp T.b_Ltie .nil pass0 (pa_cons (pv 1) pa_nil)) (pg_tupK (n:=3) K rfl rfl (pgs_cons (pg_name (i:=2) sc_Lclashes.nd rfl (Or.inl rfl)) (pgs_cons (pg_name (i:=3) sc_Lclashes.nd rfl (Or.inl rfl)) (pgs_cons (pg_name (i:=4) sc_Lclashes.nd rfl (Or.inl rfl)) pgs_nil))))) (pss_one (ps_ret (pe_cmpR op_ne (pe_dget2 (hu_of hr) (pe_call G_Lsums (hr.mono (by first | decide | omega)) rfl T.mg_Lsums T.F_Lsums.kp T.b_Lsums .nil pass0 (pa_cons (pv 0) (pa_cons (pv 2) pa_nil))) (pv 3) (pv 4) ⟨rfl,rfl,rfl,rfl⟩) (pv 4) (nomark _))))),?_⟩
  walk_at "rdf"
  refine ⟨a,f,wd,ht,rfl,ha,hi,by omega,by omega,fun T1 H1 s1 tp=>?_⟩
  obtain ⟨b1,b2,hT,h1,h2⟩:=tp
  walk_at "rdf"
  refine rd_gtup hT rfl ?_
  walk_at "rdf"
  refine ⟨lf,b1,xs,F,wd,ht,v,_,rfl,s1 _ _ hl,pw.mono s1,lF,fo.inw,fo.tr,lw,lh,h1,fun d kvs H2 s2 nd ed sm=>?_⟩
  refine rd_isDT ed ?_
  walk_at "rdf"
  refine ⟨_,DGet.t ed (s2 _ _ h2),?_⟩
  by_cases con:Fm.Con (tiesOf F) f.tie.1 f.tie.2.1
  ·rw [sm.yes _ con]
   walk_at "rdf"
   show rNe (V.int _) (V.int _) H2 _
   refine rd_neI ?_
   refine k _ H2 (s1.trans s2) ?_
   have c:=(fo.gr.lead _ d1 _ d2).mpr con
   have e:=fo.gr.wt _ d1 _ d2 con
   unfold Clh
   rw [← e]
   simp [c]
  ·rw [sm.no _ con]
   walk_at "rdf"
   show rNe (V.int _) (V.int _) H2 _
   refine rd_neI ?_
   refine k _ H2 (s1.trans s2) ?_
   rw [decide_eq_true rfl]
   refine ⟨fun z=>(by cases z),fun z=>absurd ((fo.gr.lead _ d1 _ d2).mp z.1) con⟩
def sp_Lnoted (t:Ad):Sp:=fun vs H Q _=>∃ (p a df dg:Addr) (wd ht:Nat) (F:List (Int×Fct)) (n:Int) (G:List Key→List Key×Int) (f:Fct) (v:List Key→Int),vs=[.ref p,.ref a]∧FdAt t.a_Finds H p df dg wd ht F n G∧FOk v wd ht F n G∧wd≤40∧ht≤40∧F.length≤400 ∧
 H a=some (.tup f.vs)∧f.inW wd ht∧(f∈F.map (·.2)→∀ b H',Same H H'→NoAt H' b "Known"→Q (.ref b) H') ∧
 (f∉F.map (·.2)→Clh G f→∀ b l H',Same H H'→H' b=some (.tup [.str "clash",.ref l])→Q (.ref b) H') ∧
 (f∉F.map (·.2)→¬ Clh G f→∀ b H',ButL [p,df,dg] H H'→FdAt t.a_Finds H' p df dg wd ht (F++[(n,f)]) (n+1) (Fm.tieG G f.tie)→H' b=some (.tup [.str "kept",.int n])→Q (.ref b) H')
theorem ok_Lnoted (T:Txt K mg t):FnOk P w K mg base CX0 8 t.f_Lnoted t.d_Lnoted ["_law_finds","_law_fact_here"] (sp_Lnoted t):=by
 have GX_Findsnote:=okx_Findsnote (P:=P) (w:=w) (base:=base) T
 refine T.F_Lnoted.ok sc_Lnoted (fun vs H Q E h=>?_) (fun cdv A outer s H vs Q E hr h=>?_)
 ·obtain ⟨p,a,df,dg,wd,ht,F,n,G,f,v,rfl,_⟩:=h; rfl
 ·obtain ⟨p,a,df,dg,wd,ht,F,n,G,f,v,rfl,fd,fo,lw,lh,lF,ha,hi,k1,k2,k3⟩:=h
  obtain ⟨dx,fs,hp,fl⟩:=fd.ob
  refine ⟨_,(pss_cons (ps_try2 (i:=3) sc_Lnoted.nd rfl rfl rfl T.mg_Clash rfl T.mg_SewError (fun _ _=>(pss_one (ps_set (i:=2) sc_Lnoted.nd rfl (Or.inl rfl) (pe_tup (pa_cons pe_str (pa_cons (pe_methS (pv 0) T.cl_Finds T.m_Findsnote GX_Findsnote (hr.mono (by first | decide | omega)) T.b_Findsnote .nil passT (pa_cons (pv 1) pa_nil)) pa_nil)))))) (fun _=>(pss_cons (ps_set (i:=2) sc_Lnoted.nd rfl (Or.inl rfl) (pe_tup (pa_cons pe_str (pa_cons (pe_callTy (cI_listK K rfl) rfl T.no_list (by rfl) (pa_cons (pe_fldXK K rfl (pv 3) rfl) pa_nil)) pa_nil)))) (pss_one (ps_expr (pe_bmK K rfl PySem.F.plainAttrs_list PySem.F.slot_list_append PySem.F.type_list_append mt_append (pe_fldXK K rfl (pv 3) rfl) (pa_cons (pe_un un_neg pe_int) pa_nil)))))) (fun _=>(pss_one (ps_set (i:=2) sc_Lnoted.nd rfl (Or.inl rfl) (pe_tup (pa_cons pe_str (pa_cons (pe_lst (pa_cons (pe_callB (cI_isinstXK K rfl) rfl T.no_isinstance (by rfl) (pa_cons (pv 3) (pa_cons (pe_glob (v:=.ref _) rfl T.mg_Known rfl) pa_nil))) (pa_cons (pe_callB (cI_isinstXK K rfl) rfl T.no_isinstance (by rfl) (pa_cons (pv 3) (pa_cons (pe_glob (v:=.ref _) rfl T.mg_NoCell rfl) pa_nil))) (pa_cons (pe_callB (cI_isinstXK K rfl) rfl T.no_isinstance (by rfl) (pa_cons (pv 3) (pa_cons (pe_glob (v:=.ref _) rfl T.mg_BadBit rfl) pa_nil))) (pa_cons (pe_callB (cI_isinstXK K rfl) rfl T.no_isinstance (by rfl) (pa_cons (pv 3) (pa_cons (pe_glob (v:=.ref _) rfl T.mg_NoLine rfl) pa_nil))) (pa_cons (pe_callB (cI_isinstXK K rfl) rfl T.no_isinstance (by rfl) (pa_cons (pv 3) (pa_cons (pe_glob (v:=.ref _) rfl T.mg_NoStep rfl) pa_nil))) (pa_cons (pe_callB (cI_isinstXK K rfl) rfl T.no_isinstance (by rfl) (pa_cons (pv 3) (pa_cons (pe_glob (v:=.ref _) rfl T.mg_NoFact rfl) pa_nil))) pa_nil))))))) pa_nil))))))) (pss_one (ps_ret (pv 2)))),?_⟩
  refine rd_seqA fun _ _=>?_
  refine rd_try2 ?_
  walk_at "rdf"
  refine rd_methv hp (fl.no _ (by decide +kernel)) ?_
  walk_at "rdf"
  refine ⟨p,a,df,dg,wd,ht,F,n,G,f,v,rfl,fd,fo,lw,lh,lF,ha,hi,fun hm H1 s1=>?_,fun hm cl d r xs H1 s1 nr ed er lx=>?_,fun hm ncl H1 m1 f1=>?_⟩
  ·refine ⟨t.a_Known,rfl,.inr ⟨T.nc_Known,T.cat_Known,fun e he=>?_⟩⟩
   have s2:=Same.new (o:=ExcO e t.a_Known) he
   have e2:=upd_same (H:=H1) (a:=e) (o:=ExcO e t.a_Known)
   generalize upd H1 e (ExcO e t.a_Known)=H2 at s2 e2 ⊢
   walk_at "rdf"
   refine rd_isiX e2 T.xi_Known T.kt_Known_Known ?_
   walk_at "rdf"
   refine rd_isiX e2 T.xi_Known T.kt_Known_NoCell ?_
   walk_at "rdf"
   refine rd_isiX e2 T.xi_Known T.kt_Known_BadBit ?_
   walk_at "rdf"
   refine rd_isiX e2 T.xi_Known T.kt_Known_NoLine ?_
   walk_at "rdf"
   refine rd_isiX e2 T.xi_Known T.kt_Known_NoStep ?_
   walk_at "rdf"
   refine rd_isiX e2 T.xi_Known T.kt_Known_NoFact ?_
   walk_at "rdf"
   refine ⟨by show 6≤sizeLine; decide,fun l nl=>?_⟩
   have e30:HO.lst [V.bl true,V.bl false,V.bl false,V.bl false,V.bl false,V.bl false]=HO.lst ((mkL "Known").map V.bl):=by rw [show mkL "Known"=[true,false,false,false,false,false] by decide +kernel]; rfl
   rw [e30]
   have s3:=Same.new (o:=HO.lst ((mkL "Known").map V.bl)) nl
   have e3:=upd_same (H:=H2) (a:=l) (o:=HO.lst ((mkL "Known").map V.bl))
   generalize upd H2 l (HO.lst ((mkL "Known").map V.bl))=H3 at s3 e3 ⊢
   walk_at "rdf"
   refine ⟨by show 2≤sizeLine; decide,fun bb nbb=>?_⟩
   have sbb:=Same.new (o:=HO.tup [V.str (Str.ofString "no"),V.ref l]) nbb
   have ebb:=upd_same (H:=H3) (a:=bb) (o:=HO.tup [V.str (Str.ofString "no"),V.ref l])
   generalize upd H3 bb (HO.tup [V.str (Str.ofString "no"),V.ref l])=H4 at sbb ebb ⊢
   walk_at "rdf"
   dsimp only [Dh]
   walk_at "rdf"
   exact k1 hm bb H4 (s1.trans (s2.trans (s3.trans sbb))) ⟨l,ebb,sbb _ _ e3⟩
  ·refine ⟨t.a_Clash,rfl,.inl ⟨T.ct_Clash,fun e he=>?_⟩⟩
   have ne1:d≠e:=ne_of_none ed he
   have ne2:r≠e:=ne_of_none er he
   have s2:=Same.new (o:=ExcX e t.a_Clash (some d)) he
   have e2:=upd_same (H:=H1) (a:=e) (o:=ExcX e t.a_Clash (some d))
   generalize upd H1 e (ExcX e t.a_Clash (some d))=H2 at s2 e2 ⊢
   walk_at "rdf"
   refine rd_fldX ?_
   walk_at "rdf"
   refine ⟨e,t.a_Clash,d,_,.ref r,rfl,e2,s2 _ _ ed,T.xi_Clash,T.mx_Clash.ei,T.nx_Clash_ring,rfl,?_⟩
   walk_at "rdf"
   refine rd_listL (s2 _ _ er) fun l nl=>?_
   have s3:=Same.new (o:=HO.lst xs) nl
   have e3:=upd_same (H:=H2) (a:=l) (o:=HO.lst xs)
   generalize upd H2 l (HO.lst xs)=H3 at s3 e3 ⊢
   walk_at "rdf"
   refine ⟨by show 2≤sizeLine; decide,fun bb nbb=>?_⟩
   have sbb:=Same.new (o:=HO.tup [V.str (Str.ofString "clash"),V.ref l]) nbb
   have ebb:=upd_same (H:=H3) (a:=bb) (o:=HO.tup [V.str (Str.ofString "clash"),V.ref l])
   generalize upd H3 bb (HO.tup [V.str (Str.ofString "clash"),V.ref l])=H4 at sbb ebb ⊢
   have s24:=s3.trans sbb
   walk_at "rdf"
   refine rd_fldX ?_
   walk_at "rdf"
   refine ⟨e,t.a_Clash,d,_,.ref r,rfl,s24 _ _ e2,s24 _ _ (s2 _ _ ed),T.xi_Clash,T.mx_Clash.ei,T.nx_Clash_ring,rfl,?_⟩
   have er4:=s24 _ _ (s2 _ _ er)
   refine rd_bmL er4 ?_
   walk_at "rdf"
   refine rd_append er4 (small1000 (by omega)) ?_
   dsimp only [Dh]
   walk_at "rdf"
   have nb:bb≠r:=ne_of ebb er4 (by intro z; cases z)
   exact k2 hm cl bb l _ ((s1.trans (s2.trans s24)).later nr) (by rw [upd_ne nb]; exact ebb)
  ·walk_at "rdf"
   refine ⟨by show 2≤sizeLine; decide,fun bb nbb=>?_⟩
   have sbb:=Same.new (o:=HO.tup [V.str (Str.ofString "kept"),V.int n]) nbb
   have ebb:=upd_same (H:=H1) (a:=bb) (o:=HO.tup [V.str (Str.ofString "kept"),V.int n])
   generalize upd H1 bb (HO.tup [V.str (Str.ofString "kept"),V.int n])=H2 at sbb ebb ⊢
   walk_at "rdf"
   exact k3 hm ncl bb H2 (m1.trans (sbb.butL _)) (f1.mono sbb) ebb
def sp_Ltaken (t:Ad):Sp:=fun vs H Q _=>∃ (p df dg:Addr) (wd ht:Nat) (F:List (Int×Fct)) (n j:Int) (G:List Key→List Key×Int),vs=[.ref p,.int j]∧FdAt t.a_Finds H p df dg wd ht F n G∧wd≤40∧ht≤40∧(∀ nf∈F,nf.2.inW wd ht) ∧
 (j∉F.map (·.1)→∀ b H',Same H H'→NoAt H' b "NoFact"→Q (.ref b) H') ∧
 (j∈F.map (·.1)→∀ b dg' H',ButL [p,df,dg] H H'→H dg'=none→FdAt t.a_Finds H' p df dg' wd ht (outF F j) n (grpF (outF F j))→H' b=some (.tup [])→Q (.ref b) H')
theorem ok_Ltaken (T:Txt K mg t):FnOk P w K mg base CX0 8 t.f_Ltaken t.d_Ltaken ["_law_finds","_law_number"] (sp_Ltaken t):=by
 have GX_Findswithdraw:=okx_Findswithdraw (P:=P) (w:=w) (base:=base) T
 refine T.F_Ltaken.ok sc_Ltaken (fun vs H Q E h=>?_) (fun cdv A outer s H vs Q E hr h=>?_)
 ·obtain ⟨p,df,dg,wd,ht,F,n,j,G,rfl,_⟩:=h; rfl
 ·obtain ⟨p,df,dg,wd,ht,F,n,j,G,rfl,fd,lw,lh,hin,k1,k2⟩:=h
  refine cutC (ps_set (i:=2) sc_Ltaken.nd rfl (Or.inl rfl) (pe_tup pa_nil)) fun _ _=>cutC (ps_try (i:=3) sc_Ltaken.nd rfl rfl rfl T.mg_SewError (fun _ _=>(pss_one (ps_expr (pe_methS (pv 0) T.cl_Finds T.m_Findswithdraw GX_Findswithdraw (hr.mono (by first | decide | omega)) T.b_Findswithdraw .nil passT (pa_cons (pv 1) pa_nil))))) (fun _=>(pss_one (ps_set (i:=2) sc_Ltaken.nd rfl (Or.inl rfl) (pe_tup (pa_cons pe_str (pa_cons (pe_lst (pa_cons (pe_callB (cI_isinstXK K rfl) rfl T.no_isinstance (by rfl) (pa_cons (pv 3) (pa_cons (pe_glob (v:=.ref _) rfl T.mg_Known rfl) pa_nil))) (pa_cons (pe_callB (cI_isinstXK K rfl) rfl T.no_isinstance (by rfl) (pa_cons (pv 3) (pa_cons (pe_glob (v:=.ref _) rfl T.mg_NoCell rfl) pa_nil))) (pa_cons (pe_callB (cI_isinstXK K rfl) rfl T.no_isinstance (by rfl) (pa_cons (pv 3) (pa_cons (pe_glob (v:=.ref _) rfl T.mg_BadBit rfl) pa_nil))) (pa_cons (pe_callB (cI_isinstXK K rfl) rfl T.no_isinstance (by rfl) (pa_cons (pv 3) (pa_cons (pe_glob (v:=.ref _) rfl T.mg_NoLine rfl) pa_nil))) (pa_cons (pe_callB (cI_isinstXK K rfl) rfl T.no_isinstance (by rfl) (pa_cons (pv 3) (pa_cons (pe_glob (v:=.ref _) rfl T.mg_NoStep rfl) pa_nil))) (pa_cons (pe_callB (cI_isinstXK K rfl) rfl T.no_isinstance (by rfl) (pa_cons (pv 3) (pa_cons (pe_glob (v:=.ref _) rfl T.mg_NoFact rfl) pa_nil))) pa_nil))))))) pa_nil))))))) fun _ _=>cutE (ps_ret (pv 2)) fun _ _=>?_
  walk_at "rdf"
  refine ⟨by show 0≤sizeLine; decide,fun b0 nb0=>?_⟩
  have sb0:=Same.new (o:=HO.tup []) nb0
  have eb0:=upd_same (H:=H) (a:=b0) (o:=HO.tup [])
  generalize upd H b0 (HO.tup [])=H0 at sb0 eb0 ⊢
  have fd0:=fd.mono sb0
  obtain ⟨dx,fs,hp,fl⟩:=fd0.ob
  walk_at "rdf"
  refine rd_methv hp (fl.no _ (by decide +kernel)) ?_
  walk_at "rdf"
  refine ⟨p,df,dg,wd,ht,F,n,j,G,rfl,fd0,lw,lh,hin,fun hj=>?_,fun hj dg' H1 m1 nd f1=>?_⟩
  ·refine ⟨t.a_NoFact,rfl,T.cat_NoFact,fun e he=>?_⟩
   have s2:=Same.new (o:=ExcO e t.a_NoFact) he
   have e2:=upd_same (H:=H0) (a:=e) (o:=ExcO e t.a_NoFact)
   generalize upd H0 e (ExcO e t.a_NoFact)=H2 at s2 e2 ⊢
   walk_at "rdf"
   refine rd_isiX e2 T.xi_NoFact T.kt_NoFact_Known ?_
   walk_at "rdf"
   refine rd_isiX e2 T.xi_NoFact T.kt_NoFact_NoCell ?_
   walk_at "rdf"
   refine rd_isiX e2 T.xi_NoFact T.kt_NoFact_BadBit ?_
   walk_at "rdf"
   refine rd_isiX e2 T.xi_NoFact T.kt_NoFact_NoLine ?_
   walk_at "rdf"
   refine rd_isiX e2 T.xi_NoFact T.kt_NoFact_NoStep ?_
   walk_at "rdf"
   refine rd_isiX e2 T.xi_NoFact T.kt_NoFact_NoFact ?_
   walk_at "rdf"
   refine ⟨by show 6≤sizeLine; decide,fun l nl=>?_⟩
   have e30:HO.lst [V.bl false,V.bl false,V.bl false,V.bl false,V.bl false,V.bl true]=HO.lst ((mkL "NoFact").map V.bl):=by rw [show mkL "NoFact"=[false,false,false,false,false,true] by decide +kernel]; rfl
   rw [e30]
   have s3:=Same.new (o:=HO.lst ((mkL "NoFact").map V.bl)) nl
   have e3:=upd_same (H:=H2) (a:=l) (o:=HO.lst ((mkL "NoFact").map V.bl))
   generalize upd H2 l (HO.lst ((mkL "NoFact").map V.bl))=H3 at s3 e3 ⊢
   walk_at "rdf"
   refine ⟨by show 2≤sizeLine; decide,fun bb nbb=>?_⟩
   have sbb:=Same.new (o:=HO.tup [V.str (Str.ofString "no"),V.ref l]) nbb
   have ebb:=upd_same (H:=H3) (a:=bb) (o:=HO.tup [V.str (Str.ofString "no"),V.ref l])
   generalize upd H3 bb (HO.tup [V.str (Str.ofString "no"),V.ref l])=H4 at sbb ebb ⊢
   walk_at "rdf"
   dsimp only [Dh]
   walk_at "rdf"
   exact k1 hj bb H4 (sb0.trans (s2.trans (s3.trans sbb))) ⟨l,ebb,sbb _ _ e3⟩
  ·walk_at "rdf"
   have m01:ButL [p,df,dg] H H1:=fun c o z nc=>m1 c o (sb0 _ _ z) nc
   exact k2 hj b0 dg' H1 m01 (sb0.free nd) f1 (but_tup m1 fd0.not eb0)
def sp_Lwanted:Sp:=fun vs H Q _=>∃ (lf a:Addr) (xs:List V) (F:List (Int×Fct)) (n:Int) (G:List Key→List Key×Int) (v:List Key→Int) (wd ht:Nat) (f:Fct),vs=[.ref lf,.int n,.ref a]∧H lf=some (.lst xs)∧PwP H xs F∧F.length≤400∧FOk v wd ht F n G∧wd≤40∧ht≤40∧H a=some (.tup f.vs)∧f.inW wd ht ∧
 (f∈F.map (·.2)→∀ b H',Same H H'→NoAt H' b "Known"→Q (.ref b) H') ∧
 (f∉F.map (·.2)→Clh G f→∀ b H',Same H H'→H' b=some (.tup [.str "clash"])→Q (.ref b) H') ∧
 (f∉F.map (·.2)→¬ Clh G f→∀ b H',Same H H'→H' b=some (.tup [.str "kept",.int n])→Q (.ref b) H')
theorem ok_Lwanted (T:Txt K mg t):FnOk P w K mg base CX0 4 t.f_Lwanted t.d_Lwanted ["_law_facts","_law_after","_law_fact_here"] sp_Lwanted:=by
 have G_Lword:=ok_Lword (P:=P) (w:=w) (base:=base) T
 have G_Lclashes:=ok_Lclashes (P:=P) (w:=w) (base:=base) T
 refine T.F_Lwanted.ok sc_Lwanted (fun vs H Q E h=>?_) (fun cdv A outer s H vs Q E hr h=>?_)
 ·obtain ⟨lf,a,xs,F,n,G,v,wd,ht,f,rfl,_⟩:=h; rfl
 ·obtain ⟨lf,a,xs,F,n,G,v,wd,ht,f,rfl,hl,pw,lF,fo,lw,lh,ha,hi,k1,k2,k3⟩:=h
  refine cutC (ps_if (pt_cmpR (op_inD hr.units) (pv 2) (pe_comp (N:=["_law_row_here"]) (cap:=[none]) rfl ⟨rfl,rfl,rfl,rfl,rfl,rfl⟩ (pi_list (pv 0)) (fun _ _ _=>(pg_name (i:=0) (show (["_law_row_here"]:List Str).Nodup by decide +kernel) rfl (Or.inl rfl))) (fun _ _ _=>pts_nil) (fun _ _ _=>(pe_ix (ix_tupK K rfl) (pv 0) pe_int (fun _ _=>rfl)))) rfl) (pss_one (ps_ret (pe_call G_Lword (hr.mono (by first | decide | omega)) rfl T.mg_Lword T.F_Lword.kp T.b_Lword .nil pass0 (pa_cons pe_str pa_nil)))) pss_nil) fun _ _=>cutC (ps_if (pt_val (pe_call G_Lclashes (hr.mono (by first | decide | omega)) rfl T.mg_Lclashes T.F_Lclashes.kp T.b_Lclashes .nil pass0 (pa_cons (pv 0) (pa_cons (pv 2) pa_nil)))) (pss_one (ps_ret (pe_tup (pa_cons pe_str pa_nil)))) pss_nil) fun _ _=>cutE (ps_ret (pe_tup (pa_cons pe_str (pa_cons (pv 1) pa_nil)))) fun _ _=>?_
  walk_at "rdf"
  refine ⟨⟨_,SqL.of hl⟩,fun l3 n3=>?_⟩
  refine compW_list (sndOf H) (SqL.of hl) (by rw [pw.1]; omega) n3 (fun x o H' Q' hx s3 q'=>?_) (fun H3 s3 e3=>?_)
  ·obtain ⟨b,a',nf,rfl,_,hb,_⟩:=pw.mem hx
   walk_at "rdf"
   refine rd_ixT (SqT.of (s3 _ _ hb)) (v:=.ref a') rfl ?_
   have es:sndOf H (.ref b)=.ref a':=by simp only [sndOf,hb]
   rw [es] at q'
   exact q' H' (Same.refl _)
  ·walk_at "rdf"
   refine rd_inF e3 (pw.snds.mono s3) (s3 _ _ ha) ?_
   by_cases hm:f∈F.map (·.2)
   ·rw [decide_eq_true hm]
    walk_at "rdf"
    exact ⟨"Known",rfl,fun b H4 s4 nb=>k1 hm b H4 (s3.trans s4) nb⟩
   ·rw [decide_eq_false hm]
    walk_at "rdf"
    refine ⟨lf,a,xs,F,n,G,v,wd,ht,f,rfl,s3 _ _ hl,pw.mono s3,lF,fo,lw,lh,s3 _ _ ha,hi,fun b H4 s4 hb=>?_⟩
    cases b with
    | true =>
     walk_at "rdf"
     refine ⟨by show 1≤sizeLine; decide,fun bb nbb=>?_⟩
     have sbb:=Same.new (o:=HO.tup [V.str (Str.ofString "clash")]) nbb
     have ebb:=upd_same (H:=H4) (a:=bb) (o:=HO.tup [V.str (Str.ofString "clash")])
     generalize upd H4 bb (HO.tup [V.str (Str.ofString "clash")])=H5 at sbb ebb ⊢
     exact k2 hm (hb.mp rfl) bb H5 (s3.trans (s4.trans sbb)) ebb
    | false =>
     walk_at "rdf"
     refine ⟨by show 2≤sizeLine; decide,fun bb nbb=>?_⟩
     have sbb:=Same.new (o:=HO.tup [V.str (Str.ofString "kept"),V.int n]) nbb
     have ebb:=upd_same (H:=H4) (a:=bb) (o:=HO.tup [V.str (Str.ofString "kept"),V.int n])
     generalize upd H4 bb (HO.tup [V.str (Str.ofString "kept"),V.int n])=H5 at sbb ebb ⊢
     exact k3 hm (fun z=>by have:=hb.mpr z; cases this) bb H5 (s3.trans (s4.trans sbb)) ebb
end
section
variable {P:Program} {w:World} {K:PySem.W.Frag} {mg:Str→Option Value} {base:Heap} {t:Ad}
theorem inV_ints (j:Int):∀ ns:List Int,inV (.int j) (ns.map V.int)=decide (j∈ns)
 | []=>by simp [inV]
 | n::ns=>by
  have ih:=inV_ints j ns
  unfold inV at ih ⊢
  rw [List.map_cons,List.any_cons,ih]
  by_cases h:n=j
  ·subst h; simp [eqV]
  ·simp [eqV,h,Ne.symm h]
theorem flat_ints (ns:List Int):(ns.map V.int).all flatV=true:=by
 rw [List.all_eq_true]
 intro v hv
 obtain ⟨i,_,rfl⟩:=List.mem_map.mp hv
 rfl
theorem PwP.fsts {H:Hp} {xs:List V} {F:List (Int×Fct)} (h:PwP H xs F):xs.map (fstOf H)=(F.map (·.1)).map V.int:=by
 refine List.ext_getElem? fun i=>?_
 rw [List.getElem?_map,List.getElem?_map,List.getElem?_map]
 cases hx:xs[i]? with
 | none =>
  have:=List.getElem?_eq_none_iff.mp hx
  rw [List.getElem?_eq_none (by rw [← h.1]; exact this)]; rfl
 | some x =>
  have hi:i<F.length:=by rw [← h.1]; exact (List.getElem?_eq_some_iff.mp hx).1
  obtain ⟨b,a,rfl,hb,_⟩:=h.2 i x _ hx (List.getElem?_eq_getElem hi)
  rw [List.getElem?_eq_getElem hi]
  show some (fstOf H (.ref b))=some (V.int F[i].1)
  simp only [fstOf,hb]
theorem outF_self {F:List (Int×Fct)} {j:Int} (h:j∉F.map (·.1)):outF F j=F:=by
 unfold outF
 refine List.filter_eq_self.mpr fun nf hm=>decide_eq_true fun e=>h (List.mem_map.mpr ⟨nf,hm,e⟩)
theorem rep_nil {H:Hp} {b:Addr} (h:H b=some (.tup [])):Rep H (.tuple []) (.ref b):=by
 simp only [Rep,RepL]
 exact ⟨b,_,rfl,h,rfl⟩
theorem rd_neNilT {H:Hp} {Q:VK} {a b:Addr} (ha:H a=some (.tup [])) (hb:H b=some (.tup [])) (q:Q (.bl false) H):rEqD true (.ref a) (.ref b) H Q :=
 ⟨_,_,rep_nil ha,rep_nil hb,by decide +kernel,by decide +kernel,q⟩
theorem ok_Lsame4 (T:Txt K mg t):FnOk P w K mg base CX0 4 t.f_Lsame t.d_Lsame ["_law_told","_law_due"] (sp_same (OkS Ok3)):=same_step T (ok_Lsame T)
theorem rep_w1 {H:Hp} {a:Addr} {wd:Str} (h:H a=some (.tup [.str wd])):Rep H (.tuple [.str wd]) (.ref a):=by
 simp only [Rep,RepL]
 exact ⟨a,_,rfl,h,_,_,rfl,rfl,rfl⟩
theorem ok_w1 {S:PyData→Prop} {wd:Str} (h:PyData.strOk wd=true):OkS (OkS S) (.tuple [.str wd]):=.inr (.inr ⟨_,rfl,by show 1≤1000; decide,fun e he=>by
 rw [List.mem_singleton.mp he]; exact okS_str h⟩)
theorem rep_wi {H:Hp} {a:Addr} {wd:Str} {i:Int} (h:H a=some (.tup [.str wd,.int i])):Rep H (.tuple [.str wd,.int i]) (.ref a):=by
 simp only [Rep,RepL]
 exact ⟨a,_,rfl,h,_,_,rfl,rfl,_,_,rfl,rfl,rfl⟩
theorem ok_wi {S:PyData→Prop} {wd:Str} {i:Int} (h:PyData.strOk wd=true):OkS (OkS S) (.tuple [.str wd,.int i]):=.inr (.inr ⟨_,rfl,by show 2≤1000; decide,fun e he=>by
 simp only [List.mem_cons,List.not_mem_nil,or_false] at he
 rcases he with rfl | rfl
 ·exact okS_str h
 ·exact okS_int _⟩)
theorem ok_noD {S:PyData→Prop} (nm:Str):OkS (OkS (OkS S)) (noD nm):=.inr (.inr ⟨_,rfl,by show 2≤1000; decide,fun e he=>by
  simp only [List.mem_cons,List.not_mem_nil,or_false] at he
  rcases he with rfl | rfl
  · exact okS_str (by decide +kernel)
  · exact .inr (.inl ⟨_,rfl,by rw [List.length_map]; unfold mkL; rw [List.length_map]; decide,fun e he=>by
      obtain ⟨b,_,rfl⟩:=List.mem_map.mp he
      exact okS_bool b⟩)⟩)
theorem cut_all {xs:List V}:cutV xs none (some (xs.length:Int))=xs:=by rw [cutV_takeG,List.take_of_length_le (Nat.le_refl _)]
theorem kept_no:¬ (("no":Str)="kept"):=by decide +kernel
theorem kept_cl:¬ (("clash":Str)="kept"):=by decide +kernel
structure SI (C:Addr) (H:Hp) (ls pp x df lf dg:Addr) (zs:List Int) (s:Int) (cs rs:List Int) (xs:List V) (F:List (Int×Fct)) (n:Int) (G:List Key→List Key×Int) (v:List Key→Int):Prop where
 es:H ls=some (.lst (zs.map V.int))
 pl:PlanAt true H pp s cs rs
 el:H lf=some (.lst xs)
 pw:PwP H xs F
 fd:FdAt C H x df dg (cs.length+1) (rs.length+1) F n G
 fo:FOk v (cs.length+1) (rs.length+1) F n G
 n0:0≤n
theorem SI.mono {C:Addr} {H H':Hp} {ls pp x df lf dg:Addr} {zs:List Int} {s:Int} {cs rs:List Int} {xs:List V} {F:List (Int×Fct)} {n:Int} {G:List Key→List Key×Int} {v:List Key→Int} (h:SI C H ls pp x df lf dg zs s cs rs xs F n G v) (m:Same H H'):SI C H' ls pp x df lf dg zs s cs rs xs F n G v :=
 ⟨m _ _ h.es,h.pl.mono m,m _ _ h.el,h.pw.mono m,h.fd.mono m,h.fo,h.n0⟩
def sp_law (K:PySem.W.Frag):Sp:=fun vs H Q _=>∃ (a:Addr) (ns:List Int),vs=[.ref a]∧SqL K H a (ns.map V.int)∧ns.length≤63∧∀ H',Q (.bl true) H'
theorem ok_law (T:Txt K mg t):FnOk P w K mg base CX0 11 t.f_law t.d_law ["_law_script"] (sp_law K):=by
 have G_Ldraws:=ok_Ldraws (P:=P) (w:=w) (base:=base) T
 have G_Lsmall:=ok_Lsmall (P:=P) (w:=w) (base:=base) T
 have G_FindsInit:=ok_FindsInit (P:=P) (w:=w) (base:=base) T
 have G_Findswide:=ok_Findswide (P:=P) (w:=w) (base:=base) T
 have G_Findstall:=ok_Findstall (P:=P) (w:=w) (base:=base) T
 have G_Findskept:=ok_Findskept (P:=P) (w:=w) (base:=base) T
 have G_Lfact:=ok_Lfact (P:=P) (w:=w) (base:=base) T
 have G_Lfalse:=ok_Lfalse (P:=P) (w:=w) (base:=base) T
 have G_Lword:=ok_Lword (P:=P) (w:=w) (base:=base) T
 have G_Ltaken:=ok_Ltaken (P:=P) (w:=w) (base:=base) T
 have G_Lwanted:=ok_Lwanted (P:=P) (w:=w) (base:=base) T
 have G_Lnoted:=ok_Lnoted (P:=P) (w:=w) (base:=base) T
 have G_Lsame:=ok_Lsame4 (P:=P) (w:=w) (base:=base) T
 refine T.F_law.ok sc_law (fun vs H Q E h=>?_) (fun cdv A outer s H vs Q E hr h=>?_)
 ·obtain ⟨a,ns,rfl,_⟩:=h; rfl
 ·obtain ⟨a,ns,rfl,hS,hl,z⟩:=h
  refine cutC (ps_set (i:=1) sc_law.nd rfl (Or.inl rfl) (pe_call G_Ldraws (hr.mono (by first | decide | omega)) rfl T.mg_Ldraws T.F_Ldraws.kp T.b_Ldraws .nil pass0 (pa_cons (pv 0) (pa_cons pe_int pa_nil)))) fun _ _=>cutC (ps_set (i:=2) sc_law.nd rfl (Or.inl rfl) (pe_call G_Lsmall (hr.mono (by first | decide | omega)) rfl T.mg_Lsmall T.F_Lsmall.kp T.b_Lsmall .nil pass0 (pa_cons (pv 1) pa_nil))) fun _ _=>cutC (ps_set (i:=3) sc_law.nd rfl (Or.inl rfl) (pe_make T.mk_Finds G_FindsInit (hr.mono (by first | decide | omega)) rfl T.mg_Finds T.b_FindsInit .nil pass0 (pa_cons (pe_op op_add (pe_callB (cI_lenK K rfl) rfl T.no_len (by rfl) (pa_cons (pe_ix (ix_tupK K rfl) (pv 2) pe_int (fun _ _=>rfl)) pa_nil)) pe_int) (pa_cons (pe_op op_add (pe_callB (cI_lenK K rfl) rfl T.no_len (by rfl) (pa_cons (pe_ix (ix_tupK K rfl) (pv 2) pe_int (fun _ _=>rfl)) pa_nil)) pe_int) pa_nil)))) fun _ _=>cutC (ps_set (i:=4) sc_law.nd rfl (Or.inl rfl) (pe_lst pa_nil)) fun _ _=>cutC (ps_set (i:=5) sc_law.nd rfl (Or.inl rfl) pe_int) fun _ _=>cutC (ps_for PassesOwn.never rfl (pi_range1 rfl T.no_range (pa_cons (pe_op op_mod (pe_ix (ix_listK K rfl) (pv 1) pe_int (fun _ _=>rfl)) pe_int) pa_nil)) (pg_name (i:=6) sc_law.nd rfl (Or.inl rfl)) (pss_cons (ps_set (i:=7) sc_law.nd rfl (Or.inl rfl) (pe_slice (sl_listK K rfl) (pv 1) (po_some (pe_op op_add pe_int (pe_op op_mul pe_int (pv 6)))) po_none)) (pss_cons (ps_set (i:=8) sc_law.nd rfl (Or.inl rfl) (pe_call G_Lfact (hr.mono (by first | decide | omega)) rfl T.mg_Lfact T.F_Lfact.kp T.b_Lfact .nil pass0 (pa_cons (pv 2) (pa_cons (pe_ix (ix_listK K rfl) (pv 7) pe_int (fun _ _=>rfl)) (pa_cons (pe_ix (ix_listK K rfl) (pv 7) pe_int (fun _ _=>rfl)) (pa_cons (pe_ix (ix_listK K rfl) (pv 7) pe_int (fun _ _=>rfl)) pa_nil)))))) (pss_cons (ps_join (ps_if (pt_cmpR op_eq (pe_op op_mod (pe_ix (ix_listK K rfl) (pv 7) pe_int (fun _ _=>rfl)) pe_int) pe_int (nomark _)) (pss_one (ps_set (i:=8) sc_law.nd rfl (Or.inl rfl) (pe_call G_Lfalse (hr.mono (by first | decide | omega)) rfl T.mg_Lfalse T.F_Lfalse.kp T.b_Lfalse .nil pass0 (pa_cons (pv 8) pa_nil)))) pss_nil)) (pss_cons (ps_join (ps_if (PW.pt (pw_and (pt_cmpR op_eq (pe_op op_mod (pe_ix (ix_listK K rfl) (pv 7) pe_int (fun _ _=>rfl)) pe_int) pe_int (nomark _)) (pw_and1 (pt_cmpR (op_neD hr.units) (pv 4) (pe_lst pa_nil) (nomark _))))) (pss_one (ps_set (i:=8) sc_law.nd rfl (Or.inl rfl) (pe_ix (ix_tupK K rfl) (pe_ix (ix_listK K rfl) (pv 4) (pe_op op_mod (pe_ix (ix_listK K rfl) (pv 7) pe_int (fun _ _=>rfl)) (pe_callB (cI_lenK K rfl) rfl T.no_len (by rfl) (pa_cons (pv 4) pa_nil))) (fun _ _=>rfl)) pe_int (fun _ _=>rfl)))) pss_nil)) (pss_cons (ps_join (ps_if (PW.pt (pw_and (pt_cmpR op_eq (pe_op op_mod (pe_ix (ix_listK K rfl) (pv 7) pe_int (fun _ _=>rfl)) pe_int) pe_int (nomark _)) (pw_and1 (pt_cmpR (op_neD hr.units) (pv 4) (pe_lst pa_nil) (nomark _))))) (pss_cons (ps_set (i:=9) sc_law.nd rfl (Or.inr rfl) (pe_ix (ix_listK K rfl) (pe_lst (pa_cons (pe_ix (ix_tupK K rfl) (pe_ix (ix_listK K rfl) (pv 4) (pe_op op_mod (pe_ix (ix_listK K rfl) (pv 7) pe_int (fun _ _=>rfl)) (pe_callB (cI_lenK K rfl) rfl T.no_len (by rfl) (pa_cons (pv 4) pa_nil))) (fun _ _=>rfl)) pe_int (fun _ _=>rfl)) (pa_cons (pv 5) (pa_cons (pe_un un_neg pe_int) (pa_cons (pe_op op_mod (pe_ix (ix_listK K rfl) (pv 7) pe_int (fun _ _=>rfl)) (pe_op op_add (pv 5) pe_int)) pa_nil))))) (pe_op op_mod (pe_ix (ix_listK K rfl) (pv 7) pe_int (fun _ _=>rfl)) pe_int) (fun _ _=>rfl))) (pss_cons (ps_set (i:=10) sc_law.nd rfl (Or.inl rfl) (pe_tup pa_nil)) (pss_cons (ps_join (ps_if (pt_cmpR op_notIn_seq (pv 9) (pe_comp (N:=["_law_row_here"]) (cap:=[none]) rfl ⟨rfl,rfl,rfl,rfl,rfl,rfl⟩ (pi_list (pv 4)) (fun _ _ _=>(pg_name (i:=0) (show (["_law_row_here"]:List Str).Nodup by decide +kernel) rfl (Or.inl rfl))) (fun _ _ _=>pts_nil) (fun _ _ _=>(pe_ix (ix_tupK K rfl) (pv 0) pe_int (fun _ _=>rfl)))) rfl) (pss_one (ps_set (i:=10) sc_law.nd rfl (Or.inl rfl) (pe_call G_Lword (hr.mono (by first | decide | omega)) rfl T.mg_Lword T.F_Lword.kp T.b_Lword .nil pass0 (pa_cons pe_str pa_nil)))) pss_nil)) (pss_cons (ps_if (pt_cmpR (op_neD hr.units) (pe_call G_Ltaken (hr.mono (by first | decide | omega)) rfl T.mg_Ltaken T.F_Ltaken.kp T.b_Ltaken .nil pass0 (pa_cons (pv 3) (pa_cons (pv 9) pa_nil))) (pv 10) (nomark _)) (pss_one (ps_ret pe_bl)) pss_nil) (pss_one (ps_setC (i:=4) sc_law.nd rfl (Or.inl rfl) (N:=["_law_row_here","_law_number"]) (cap:=[none,some 9]) rfl ⟨rfl,rfl,rfl,rfl,rfl,rfl⟩ (pi_list (pv 4)) (fun _ _ _=>(pg_name (i:=0) (show (["_law_row_here","_law_number"]:List Str).Nodup by decide +kernel) rfl (Or.inl rfl))) (fun _ _ _=>(pts_one (pt_cmpR op_ne (pe_ix (ix_tupK K rfl) (pv 0) pe_int (fun _ _=>rfl)) (pv 1) (nomark _)))) (fun _ _ _=>(pv 0)) (by rfl))))))) (pss_cons (ps_set (i:=10) sc_law.nd rfl (Or.inl rfl) (pe_call G_Lwanted (hr.mono (by first | decide | omega)) rfl T.mg_Lwanted T.F_Lwanted.kp T.b_Lwanted .nil pass0 (pa_cons (pv 4) (pa_cons (pv 5) (pa_cons (pv 8) pa_nil))))) (pss_cons (ps_set (i:=11) sc_law.nd rfl (Or.inl rfl) (pe_call G_Lnoted (hr.mono (by first | decide | omega)) rfl T.mg_Lnoted T.F_Lnoted.kp T.b_Lnoted .nil pass0 (pa_cons (pv 3) (pa_cons (pv 8) pa_nil)))) (pss_cons (ps_if (pt_not (pt_val (pe_call G_Lsame (hr.mono (by first | decide | omega)) rfl T.mg_Lsame T.F_Lsame.kp T.b_Lsame .nil pass0 (pa_cons (pe_slice (sl_tupK K rfl) (pv 11) po_none (po_some (pe_callB (cI_lenK K rfl) rfl T.no_len (by rfl) (pa_cons (pv 10) pa_nil)))) (pa_cons (pv 10) pa_nil))))) (pss_one (ps_ret pe_bl)) pss_nil) (pss_one (ps_if (pt_cmpR op_eq (pe_ix (ix_tupK K rfl) (pv 10) pe_int (fun _ _=>rfl)) pe_str (nomark _)) (pss_cons (ps_set (i:=4) sc_law.nd rfl (Or.inl rfl) (pe_op op_cat (pv 4) (pe_lst (pa_cons (pe_tup (pa_cons (pv 5) (pa_cons (pv 8) pa_nil))) pa_nil)))) (pss_one (ps_aug (i:=5) sc_law.nd rfl (Or.inl rfl) pe_int ip_add))) pss_nil))))))) (pss_cons (ps_set (i:=12) sc_law.nd rfl (Or.inl rfl) (pe_meth0 (pv 3) T.cl_Finds T.m_Findskept G_Findskept (hr.mono (by first | decide | omega)) T.b_Findskept .nil pass0)) (pss_cons (ps_if (pt_not (pt_val (pe_call G_Lsame (hr.mono (by first | decide | omega)) rfl T.mg_Lsame T.F_Lsame.kp T.b_Lsame .nil pass0 (pa_cons (pv 12) (pa_cons (pv 4) pa_nil))))) (pss_one (ps_ret pe_bl)) pss_nil) (pss_one (ps_expr (pe_bm0 PySem.F.plainAttrs_list PySem.F.slot_list_clear PySem.F.type_list_clear mt_clear (pv 12)))))))))))) fun _ _=>cutE (ps_ret (pe_call G_Lsame (hr.mono (by first | decide | omega)) rfl T.mg_Lsame T.F_Lsame.kp T.b_Lsame .nil pass0 (pa_cons (pe_lst (pa_cons (pe_meth0 (pv 3) T.cl_Finds T.m_Findswide G_Findswide (hr.mono (by first | decide | omega)) T.b_Findswide .nil pass0) (pa_cons (pe_meth0 (pv 3) T.cl_Finds T.m_Findstall G_Findstall (hr.mono (by first | decide | omega)) T.b_Findstall .nil pass0) pa_nil))) (pa_cons (pe_lst (pa_cons (pe_op op_add (pe_callB (cI_lenK K rfl) rfl T.no_len (by rfl) (pa_cons (pe_ix (ix_tupK K rfl) (pv 2) pe_int (fun _ _=>rfl)) pa_nil)) pe_int) (pa_cons (pe_op op_add (pe_callB (cI_lenK K rfl) rfl T.no_len (by rfl) (pa_cons (pe_ix (ix_tupK K rfl) (pv 2) pe_int (fun _ _=>rfl)) pa_nil)) pe_int) pa_nil))) pa_nil)))) fun _ _=>?_
  walk_at "rdf"
  refine ⟨a,92,ns,rfl,hS,hl,by decide,fun ls zs H1 s1 es lz _ sm=>?_⟩
  walk_at "rdf"
  refine ⟨ls,zs,rfl,es,by omega,fun pp s cs rs H2 s2 pl=>?_⟩
  have es:=s2 _ _ es
  clear s1 s2
  obtain ⟨⟨c,r,hq,hc,hr'⟩,sh,bc,br⟩:=id pl
  have lc:=bc.1
  have lr:=br.1
  walk_at "rdf"
  refine rd_ixT (SqT.of hq) (v:=.ref c) rfl ?_
  walk_at "rdf"
  refine rd_lenL hc ?_
  rw [List.length_map]
  walk_at "rdf"
  refine rd_ixT (SqT.of hq) (v:=.ref r) rfl ?_
  walk_at "rdf"
  refine rd_lenL hr' ?_
  rw [List.length_map]
  walk_at "rdf"
  intro x dx nx ndx nex
  have s6:Same H2 (upd (upd H2 dx (.own x)) x (.ins t.a_Finds dx [])):=(Same.new ndx).later nx
  refine ⟨x,dx,cs.length+1,rs.length+1,rfl,upd_same,⟨by omega,by omega⟩,⟨by omega,by omega⟩,fun df dg0 H3 m3 n1 n2 f3=>⟨rfl,?_⟩⟩
  have s3:Same H2 H3:=fun b o e=>m3 b o (s6 b o e) (by rw [List.mem_singleton]; exact ne_of_none e nx)
  walk_at "rdf"
  refine ⟨by show 0≤sizeLine; decide,fun l0 nl0=>?_⟩
  have sl0:=Same.new (o:=HO.lst []) nl0
  have el0:=upd_same (H:=H3) (a:=l0) (o:=HO.lst [])
  generalize upd H3 l0 (HO.lst [])=H4 at sl0 el0 ⊢
  have I0:SI t.a_Finds H4 ls pp x df l0 dg0 zs s cs rs [] [] 0 Fm.lone (vP s cs rs):=⟨sl0 _ _ (s3 _ _ es),(pl.mono s3).mono sl0,el0,⟨rfl,fun i v nf h1=>by simp at h1⟩,f3.mono sl0,FOk.nil,by decide⟩
  clear es pl hq hc hr' s3 s6 m3 f3 n1 n2
  walk_at "rdf"
  refine rd_ixL (SqL.of I0.es) (atI_ints (i:=12) (by decide) (by omega)) ?_
  generalize zs.getD (12:Int).toNat 0=z12
  walk_at "rdf"
  refine rd_I (by decide) ?_
  walk_at "rdf"
  refine ⟨_,rfl,by omega,by omega,?_⟩
  refine forW_range (fun i σ' H'=>∃ (o6 o7 o8 o9 o10 o11 o12:Option V) (lf dg:Addr) (xs:List V) (F:List (Int×Fct)) (n:Int) (G:List Key→List Key×Int) (v:List Key→Int),σ'=[some (.ref a),some (.ref ls),some (.ref pp),some (.ref x),some (.ref lf),some (.int n),o6,o7,o8,o9,o10,o11,o12]∧SI t.a_Finds H' ls pp x df lf dg zs s cs rs xs F n G v∧F.length≤i)
   ⟨none,none,none,none,none,none,none,l0,dg0,[],[],0,Fm.lone,_,rfl,I0,Nat.le_refl _⟩ ?_ ?_
  rotate_left
  ·rintro σ' H5 ⟨o6,o7,o8,o9,o10,o11,o12,lf,dg,xs,F,n,G,v,rfl,I,lF⟩
   obtain ⟨dx',fs,hp,fl⟩:=I.fd.ob
   obtain ⟨⟨c,r,hq,hc,hr'⟩,_⟩:=id I.pl
   walk_at "rdf"
   refine rd_methv hp (fl.no _ (by decide +kernel)) ?_
   walk_at "rdf"
   refine ⟨x,_,_,rfl,I.fd.sz,?_⟩
   walk_at "rdf"
   refine rd_methv hp (fl.no _ (by decide +kernel)) ?_
   walk_at "rdf"
   refine ⟨x,_,_,rfl,I.fd.sz,?_⟩
   walk_at "rdf"
   refine ⟨by show 2≤sizeLine; decide,fun la nla=>?_⟩
   have sla:=Same.new (o:=HO.lst [V.int ((cs.length+1:Nat):Int),V.int ((rs.length+1:Nat):Int)]) nla
   have ela:=upd_same (H:=H5) (a:=la) (o:=HO.lst [V.int ((cs.length+1:Nat):Int),V.int ((rs.length+1:Nat):Int)])
   generalize upd H5 la (HO.lst [V.int ((cs.length+1:Nat):Int),V.int ((rs.length+1:Nat):Int)])=H6 at sla ela ⊢
   walk_at "rdf"
   refine rd_ixT (SqT.of (sla _ _ hq)) (v:=.ref c) rfl ?_
   walk_at "rdf"
   refine rd_lenL (sla _ _ hc) ?_
   rw [List.length_map]
   walk_at "rdf"
   refine rd_ixT (SqT.of (sla _ _ hq)) (v:=.ref r) rfl ?_
   walk_at "rdf"
   refine rd_lenL (sla _ _ hr') ?_
   rw [List.length_map]
   walk_at "rdf"
   have e1:(cs.length:Int)+1=((cs.length+1:Nat):Int):=by omega
   have e2:(rs.length:Int)+1=((rs.length+1:Nat):Int):=by omega
   rw [e1,e2]
   refine ⟨by show 2≤sizeLine; decide,fun lb nlb=>?_⟩
   have slb:=Same.new (o:=HO.lst [V.int ((cs.length+1:Nat):Int),V.int ((rs.length+1:Nat):Int)]) nlb
   have elb:=upd_same (H:=H6) (a:=lb) (o:=HO.lst [V.int ((cs.length+1:Nat):Int),V.int ((rs.length+1:Nat):Int)])
   generalize upd H6 lb (HO.lst [V.int ((cs.length+1:Nat):Int),V.int ((rs.length+1:Nat):Int)])=H7 at slb elb ⊢
   exact ⟨_,_,.list (([((cs.length+1:Nat):Int),((rs.length+1:Nat):Int)]:List Int).map PyData.int),rfl,okS_ints (by show 2≤1000; decide),rep_ints (slb _ _ ela),rep_ints elb,fun H8 _=>z H8⟩
  rintro i σ' H5 hi ⟨o6,o7,o8,o9,o10,o11,o12,lf,dg,xs,F,n,G,v,rfl,I,lF⟩
  have hi18:i<18:=by omega
  rw [Int.zero_add]
  walk_at "rdf"
  refine rd_I (.inl ⟨by decide,by decide⟩) ?_
  walk_at "rdf"
  obtain ⟨m,hm,m1⟩:∃ m:Nat,(13:Int)+4*((i:Nat):Int)=m∧m≤81:=⟨13+4*i,by omega,by omega⟩
  rw [hm]
  refine rd_slS I.es fun lh H6 s6 _ e6=>?_
  rw [cutV_drop] at e6
  have lys:4≤(zs.drop m).length:=by rw [List.length_drop]; omega
  generalize zs.drop m=ys at e6 lys
  have I:=I.mono s6
  clear s6
  have J0:atI (ys.map V.int) 0=_:=atI_ints (by decide) (by omega)
  have J1:atI (ys.map V.int) 1=_:=atI_ints (by decide) (by omega)
  have J2:atI (ys.map V.int) 2=_:=atI_ints (by decide) (by omega)
  have J3:atI (ys.map V.int) 3=_:=atI_ints (by decide) (by omega)
  generalize ys.getD (0:Int).toNat 0=y0 at J0
  generalize ys.getD (1:Int).toNat 0=y1 at J1
  generalize ys.getD (2:Int).toNat 0=y2 at J2
  generalize ys.getD (3:Int).toNat 0=y3 at J3
  walk_at "rdf"
  refine rd_ixL (SqL.of e6) J1 ?_
  walk_at "rdf"
  refine rd_ixL (SqL.of e6) J2 ?_
  walk_at "rdf"
  refine rd_ixL (SqL.of e6) J3 ?_
  walk_at "rdf"
  refine ⟨pp,_,_,_,s,cs,rs,rfl,I.pl,fun af f H7 s7 ha hin _=>?_⟩
  have I:=I.mono s7
  have e7:=s7 _ _ e6
  clear s7 e6
  walk_at "rdf"
  refine rd_join (fun σ' H'=>∃ (af:Addr) (f:Fct),σ'=[some (.ref a),some (.ref ls),some (.ref pp),some (.ref x),some (.ref lf),some (.int n),some (.int ((i:Nat):Int)),some (.ref lh),some (.ref af),o9,o10,o11,o12]∧Same H7 H'∧H' af=some (.tup f.vs)∧f.inW ((cs.length+1:Nat):Int) ((rs.length+1:Nat):Int)) ?_ ?_
  ·walk_at "rdf"
   refine rd_ixL (SqL.of e7) J0 ?_
   walk_at "rdf"
   refine rd_I (by decide) ?_
   walk_at "rdf"
   refine ite2 (fun _=>?_) (fun _=>?_)
   ·walk_at "rdf"
    refine ⟨af,f,rfl,ha,fun a2 H8 s8 h8=>?_⟩
    walk_at "rdf"
    exact ⟨a2,f.neg,rfl,s8,h8,Fct.inW_neg hin⟩
   ·walk_at "rdf"
    exact ⟨af,f,rfl,Same.refl _,ha,hin⟩
  rintro σ' H8 ⟨a2,f2,rfl,s8,ha2,hin2⟩
  have I:=I.mono s8
  have e8:=s8 _ _ e7
  clear s8 e7 ha hin
  walk_at "rdf"
  refine rd_join (fun σ' H'=>∃ (af:Addr) (f:Fct),σ'=[some (.ref a),some (.ref ls),some (.ref pp),some (.ref x),some (.ref lf),some (.int n),some (.int ((i:Nat):Int)),some (.ref lh),some (.ref af),o9,o10,o11,o12]∧Same H8 H'∧H' af=some (.tup f.vs)∧f.inW ((cs.length+1:Nat):Int) ((rs.length+1:Nat):Int)) ?_ ?_
  ·walk_at "rdf"
   refine rd_ixL (SqL.of e8) J0 ?_
   walk_at "rdf"
   refine rd_I (by decide) ?_
   walk_at "rdf"
   refine ite2 (fun _=>?_) (fun _=>?_)
   ·walk_at "rdf"
    refine ⟨by show 0≤sizeLine; decide,fun le nle=>?_⟩
    have sle:=Same.new (o:=HO.lst []) nle
    have ele:=upd_same (H:=H8) (a:=le) (o:=HO.lst [])
    generalize upd H8 le (HO.lst [])=H9 at sle ele ⊢
    refine rd_neNil (sle _ _ I.el) (I.pw.mono sle) ele ?_
    have I9:=I.mono sle
    have e9:=sle _ _ e8
    by_cases hF:F=[]
    ·rw [decide_eq_true hF]
     walk_at "rdf"
     exact ⟨a2,f2,rfl,sle,sle _ _ ha2,hin2⟩
    ·rw [decide_eq_false hF]
     have lp:0<F.length:=List.length_pos_iff.mpr hF
     have lx:=I9.pw.1
     walk_at "rdf"
     refine rd_ixL (SqL.of e9) J1 ?_
     walk_at "rdf"
     refine rd_lenL I9.el ?_
     walk_at "rdf"
     refine rd_I (show (0:Int)<(xs.length:Nat) by omega) ?_
     have q0:=Int.emod_nonneg y1 (show ((xs.length:Nat):Int)≠0 by omega)
     have q1:=Int.emod_lt_of_pos y1 (show (0:Int)<(xs.length:Nat) by omega)
     obtain ⟨ix,hix,ixl⟩:∃ ix:Nat,y1%((xs.length:Nat):Int)=ix∧ix<xs.length:=⟨(y1%((xs.length:Nat):Int)).toNat,by omega,by omega⟩
     rw [hix]
     obtain ⟨u,hu⟩:∃ u,xs[ix]?=some u:=⟨_,List.getElem?_eq_getElem ixl⟩
     have ixF:ix<F.length:=by omega
     obtain ⟨b,fa,rfl,hb,hfa⟩:=I9.pw.2 ix u _ hu (List.getElem?_eq_getElem ixF)
     walk_at "rdf"
     refine rd_ixL (SqL.of I9.el) (atI_nat hu) ?_
     walk_at "rdf"
     refine rd_ixT (SqT.of hb) (v:=.ref fa) rfl ?_
     walk_at "rdf"
     exact ⟨fa,_,rfl,sle,hfa,I9.fo.inw _ (List.getElem_mem ixF)⟩
   ·walk_at "rdf"
    exact ⟨a2,f2,rfl,Same.refl _,ha2,hin2⟩
  rintro σ' H9 ⟨af,f,rfl,s9,ha,hin⟩
  have I:=I.mono s9
  have e9:=s9 _ _ e8
  clear s9 e8 ha2 hin2
  walk_at "rdf"
  refine rd_join (fun σ' H'=>∃ (o9 o10 o11:Option V) (lf dg:Addr) (xs:List V) (F:List (Int×Fct)) (n:Int) (G:List Key→List Key×Int) (v:List Key→Int),σ'=[some (.ref a),some (.ref ls),some (.ref pp),some (.ref x),some (.ref lf),some (.int n),some (.int ((i:Nat):Int)),some (.ref lh),some (.ref af),o9,o10,o11,o12]∧SI t.a_Finds H' ls pp x df lf dg zs s cs rs xs F n G v∧F.length≤i+1) ?_ ?_
  rotate_left
  ·rintro σ' H10 ⟨o9,o10,o11,lf,dg,xs,F,n,G,v,rfl,I,lF⟩
   obtain ⟨dx',fs,hp,fl⟩:=I.fd.ob
   walk_at "rdf"
   refine rd_methv hp (fl.no _ (by decide +kernel)) ?_
   walk_at "rdf"
   refine ⟨x,df,dg,_,_,F,n,G,rfl,I.fd,fun lk yk H11 s11 nk ek pk=>?_⟩
   walk_at "rdf"
   refine ⟨_,_,.list (F.map rowD),rfl,okS_rows (by omega),by simp only [Rep]; exact ⟨lk,yk,rfl,ek,repL_rows pk⟩,by simp only [Rep]; exact ⟨lf,xs,rfl,s11 _ _ I.el,repL_rows (I.pw.mono s11)⟩,fun H12 s12=>?_⟩
   walk_at "rdf"
   refine rd_bmL (s12 _ _ ek) ?_
   refine rd_clear (s12 _ _ ek) ?_
   walk_at "rdf"
   exact ⟨_,_,_,_,_,_,_,lf,dg,xs,F,n,G,v,rfl,I.mono ((s11.trans s12).later nk),lF⟩
  refine rd_ifS (rd_andS (decide (y0%5=3)) (!decide (F=[])) (fun Q' q=>?_) (fun _ H10 Q' s10 q=>?_) (fun H10 s10=>?_))
  ·walk_at "rdf"
   refine rd_ixL (SqL.of e9) J0 ?_
   walk_at "rdf"
   refine rd_I (by decide) ?_
   walk_at "rdf"
   exact q _ (Same.refl _)
  ·walk_at "rdf"
   refine ⟨by show 0≤sizeLine; decide,fun le nle=>?_⟩
   have sle:=Same.new (o:=HO.lst []) nle
   have ele:=upd_same (H:=H10) (a:=le) (o:=HO.lst [])
   generalize upd H10 le (HO.lst [])=H11 at sle ele ⊢
   refine rd_neNil (sle _ _ (s10 _ _ I.el)) ((I.pw.mono s10).mono sle) ele ?_
   walk_at "rdf"
   exact q _ sle
  have I:=I.mono s10
  have e10:=s10 _ _ e9
  have ha:=s10 _ _ ha
  clear s10 e9
  refine ite2 (fun hc=>?_) (fun _=>?_)
  ·-- a fact is withdrawn
   have hF:¬ F=[]:=by
    have:=(Bool.and_eq_true _ _ ▸ hc).2
    simpa using this
   have lp:0<F.length:=List.length_pos_iff.mpr hF
   have lx:=I.pw.1
   have n0:=I.n0
   walk_at "rdf"
   refine rd_ixL (SqL.of e10) J1 ?_
   walk_at "rdf"
   refine rd_lenL I.el ?_
   walk_at "rdf"
   refine rd_I (show (0:Int)<(xs.length:Nat) by omega) ?_
   have q0:=Int.emod_nonneg y1 (show ((xs.length:Nat):Int)≠0 by omega)
   have q1:=Int.emod_lt_of_pos y1 (show (0:Int)<(xs.length:Nat) by omega)
   obtain ⟨ix,hix,ixl⟩:∃ ix:Nat,y1%((xs.length:Nat):Int)=ix∧ix<xs.length:=⟨(y1%((xs.length:Nat):Int)).toNat,by omega,by omega⟩
   rw [hix]
   obtain ⟨u,hu⟩:∃ u,xs[ix]?=some u:=⟨_,List.getElem?_eq_getElem ixl⟩
   have ixF:ix<F.length:=by omega
   obtain ⟨b,fa,rfl,hb,hfa⟩:=I.pw.2 ix u _ hu (List.getElem?_eq_getElem ixF)
   generalize F[ix]=nf0 at hb hfa
   walk_at "rdf"
   refine rd_ixL (SqL.of I.el) (atI_nat hu) ?_
   walk_at "rdf"
   refine rd_ixT (SqT.of hb) (v:=.int nf0.1) rfl ?_
   walk_at "rdf"
   refine rd_ixL (SqL.of e10) J2 ?_
   walk_at "rdf"
   refine rd_I (show (0:Int)<n+1 by omega) ?_
   generalize y2%(n+1)=y2'
   walk_at "rdf"
   refine ⟨by show 4≤sizeLine; decide,fun l4 n4=>?_⟩
   have e0:[V.int nf0.1,V.int n,V.int (-1),V.int y2']=([nf0.1,n,-1,y2']:List Int).map V.int:=rfl
   rw [e0]
   have s4:=Same.new (o:=HO.lst (([nf0.1,n,-1,y2']:List Int).map V.int)) n4
   have el4:=upd_same (H:=H10) (a:=l4) (o:=HO.lst (([nf0.1,n,-1,y2']:List Int).map V.int))
   generalize upd H10 l4 (HO.lst (([nf0.1,n,-1,y2']:List Int).map V.int))=H11 at s4 el4 ⊢
   walk_at "rdf"
   refine rd_ixL (SqL.of (s4 _ _ e10)) J3 ?_
   walk_at "rdf"
   refine rd_I (by decide) ?_
   walk_at "rdf"
   refine rd_ixL (SqL.of el4) (atI_ints (i:=y3%4) (by omega) (by show _<(4:Int); omega)) ?_
   generalize ([nf0.1,n,-1,y2']:List Int).getD (y3%4).toNat 0=num
   have I:=I.mono s4
   clear s4 el4 n4 hb hfa e10 ha
   walk_at "rdf"
   refine ⟨by show 0≤sizeLine; decide,fun b0 nb0=>?_⟩
   have sb0:=Same.new (o:=HO.tup []) nb0
   have eb0:=upd_same (H:=H11) (a:=b0) (o:=HO.tup [])
   generalize upd H11 b0 (HO.tup [])=H12 at sb0 eb0 ⊢
   have I:=I.mono sb0
   walk_at "rdf"
   refine rd_join (fun σ' H'=>∃ bd:Addr,σ'=[some (.ref a),some (.ref ls),some (.ref pp),some (.ref x),some (.ref lf),some (.int n),some (.int ((i:Nat):Int)),some (.ref lh),some (.ref af),some (.int num),some (.ref bd),o11,o12]∧Same H12 H'∧((num∈F.map (·.1)∧H' bd=some (.tup []))∨(num∉F.map (·.1)∧NoAt H' bd "NoFact"))) ?_ ?_
   ·walk_at "rdf"
    refine ⟨⟨_,SqL.of I.el⟩,fun l5 n5=>?_⟩
    refine compW_list (fstOf H12) (SqL.of I.el) (by omega) n5 (fun y o H' Q' hy s5 q'=>?_) (fun H13 s13 e13=>?_)
    ·obtain ⟨b',a',g,rfl,_,hb',_⟩:=I.pw.mem hy
     walk_at "rdf"
     refine rd_ixT (SqT.of (s5 _ _ hb')) (v:=.int g.1) rfl ?_
     have es:fstOf H12 (.ref b')=.int g.1:=by simp only [fstOf,hb']
     rw [es] at q'
     exact q' H' (Same.refl _)
    ·rw [I.pw.fsts] at e13
     walk_at "rdf"
     refine ⟨l5,_,rfl,.inl (SqL.of e13),rfl,flat_ints _,?_⟩
     rw [inV_ints,if_pos rfl]
     by_cases hm:num∈F.map (·.1)
     ·rw [decide_eq_true hm]
      walk_at "rdf"
      exact ⟨b0,rfl,s13,.inl ⟨hm,s13 _ _ eb0⟩⟩
     ·rw [decide_eq_false hm]
      walk_at "rdf"
      refine ⟨"NoFact",rfl,fun bd H14 s14 nb=>?_⟩
      walk_at "rdf"
      exact ⟨bd,rfl,s13.trans s14,.inr ⟨hm,nb⟩⟩
   rintro σ' H13 ⟨bd,rfl,s13,hbd⟩
   have I:=I.mono s13
   clear s13 eb0 sb0 nb0
   -- what is left of the facts
   have fstE:∀ {H':Hp} {b' a':Addr} {g:Int×Fct},H' b'=some (.tup [.int g.1,.ref a'])→fstOf H' (.ref b')=.int g.1:=fun {H' b' a' g} h=>by simp only [fstOf,h]
   walk_at "rdf"
   refine ⟨x,df,dg,_,_,F,n,num,G,rfl,I.fd,by omega,by omega,I.fo.inw,fun hj bt H14 s14 nb=>?_,fun hj bt dg' H14 m14 ndg f14 eb=>?_⟩
   ·rcases hbd with ⟨hm,_⟩ | ⟨_,hno⟩
    ·exact absurd hm hj
    walk_at "rdf"
    refine rd_neNo nb (hno.mono s14) ?_
    walk_at "rdf"
    have I:=I.mono s14
    refine ⟨⟨_,SqL.of I.el⟩,fun l5 n5=>?_⟩
    refine compW_filtF id (fun y=>!decide (fstOf H14 y=.int num)) (SqL.of I.el) (by omega) n5 (fun y o H' Q' hy s15 q=>?_) (fun y o H' Q' hy _ s15 q=>?_) (fun H15 s15 e15=>?_)
    ·obtain ⟨b',a',g,rfl,hg,hb',ha'⟩:=I.pw.mem hy
     walk_at "rdf"
     refine rd_ixT (SqT.of (s15 _ _ hb')) (v:=.int g.1) rfl ?_
     walk_at "rdf"
     rw [fstE hb'] at q
     have ev:decide (V.int g.1=V.int num)=decide (g.1=num):=decide_eq_decide.mpr ⟨fun z=>by injection z,fun z=>by rw [z]⟩
     rw [ev] at q
     exact q H' (Same.refl _)
    ·walk_at "rdf"
     exact q H' (Same.refl _)
    ·rw [List.map_id] at e15
     have pw15:PwP H15 (xs.filter fun y=>!decide (fstOf H14 y=.int num)) (outF F num):=(I.pw.filter (g:=fun g=>decide (g.1≠num)) fun i' y g h1 h2=>by
      obtain ⟨b',a',rfl,hb',ha'⟩:=I.pw.2 i' y g h1 h2
      rw [fstE hb',Bool.eq_iff_iff,Bool.not_eq_true',decide_eq_false_iff_not,decide_eq_true_eq]
      exact not_congr ⟨fun z=>by injection z,fun z=>by rw [z]⟩).mono s15
     rw [outF_self hj] at pw15
     have I:=I.mono s15
     walk_at "rdf"
     exact ⟨_,_,_,l5,dg,_,F,n,G,v,rfl,⟨I.es,I.pl,e15,pw15,I.fd,I.fo,I.n0⟩,by omega⟩
   ·rcases hbd with ⟨_,hno⟩ | ⟨hm,_⟩
    rotate_left
    ·exact absurd hj hm
    have os:=I.fd.outS
    have I14:SI t.a_Finds H14 ls pp x df lf dg' zs s cs rs xs F n G v→True:=fun _=>True.intro
    walk_at "rdf"
    refine rd_neNilT eb (but_tup m14 os.noT hno) ?_
    walk_at "rdf"
    have es14:=but_lst m14 os I.es
    have el14:=but_lst m14 os I.el
    have pl14:=I.pl.but m14 os
    have pw14:=I.pw.but m14 os.noT
    refine ⟨⟨_,SqL.of el14⟩,fun l5 n5=>?_⟩
    refine compW_filtF id (fun y=>!decide (fstOf H14 y=.int num)) (SqL.of el14) (by omega) n5 (fun y o H' Q' hy s15 q=>?_) (fun y o H' Q' hy _ s15 q=>?_) (fun H15 s15 e15=>?_)
    ·obtain ⟨b',a',g,rfl,hg,hb',ha'⟩:=pw14.mem hy
     walk_at "rdf"
     refine rd_ixT (SqT.of (s15 _ _ hb')) (v:=.int g.1) rfl ?_
     walk_at "rdf"
     rw [fstE hb'] at q
     have ev:decide (V.int g.1=V.int num)=decide (g.1=num):=decide_eq_decide.mpr ⟨fun z=>by injection z,fun z=>by rw [z]⟩
     rw [ev] at q
     exact q H' (Same.refl _)
    ·walk_at "rdf"
     exact q H' (Same.refl _)
    ·rw [List.map_id] at e15
     have pw15:PwP H15 (xs.filter fun y=>!decide (fstOf H14 y=.int num)) (outF F num):=(pw14.filter (g:=fun g=>decide (g.1≠num)) fun i' y g h1 h2=>by
      obtain ⟨b',a',rfl,hb',ha'⟩:=pw14.2 i' y g h1 h2
      rw [fstE hb',Bool.eq_iff_iff,Bool.not_eq_true',decide_eq_false_iff_not,decide_eq_true_eq]
      exact not_congr ⟨fun z=>by injection z,fun z=>by rw [z]⟩).mono s15
     walk_at "rdf"
     exact ⟨_,_,_,l5,dg',_,outF F num,n,_,v,rfl,⟨s15 _ _ es14,pl14.mono s15,e15,pw15,f14.mono s15,I.fo.out num,I.n0⟩,by have:=List.length_filter_le (fun g:Int×Fct=>decide (g.1≠num)) F; show (outF F num).length≤i+1; unfold outF; omega⟩
  ·-- a fact is noted
   walk_at "rdf"
   refine ⟨lf,af,xs,F,n,G,v,_,_,f,rfl,I.el,I.pw,by omega,I.fo,by omega,by omega,ha,hin,fun hm bd H11 s11 nb=>?_,fun hm cl bd H11 s11 eb=>?_,fun hm ncl bd H11 s11 eb=>?_⟩
   ·have I:=I.mono s11
    walk_at "rdf"
    refine ⟨x,af,df,dg,_,_,F,n,G,f,v,rfl,I.fd,I.fo,by omega,by omega,by omega,s11 _ _ ha,hin,fun _ bt H12 s12 nt=>?_,fun hm'=>absurd hm hm',fun hm'=>absurd hm hm'⟩
    have nb2:=nb.mono s12
    obtain ⟨lb,hb1,hb2⟩:=nb2
    obtain ⟨lt,ht1,ht2⟩:=id nt
    walk_at "rdf"
    refine rd_lenT hb1 ?_
    walk_at "rdf"
    refine rd_slT ht1 fun H13 tq s13 e13=>?_
    have e13:H13 tq=some (.tup [.str "no",.ref lt]):=e13.trans (congrArg (fun y=>some (HO.tup y)) (cut_all (xs:=[V.str "no",V.ref lt])))
    walk_at "rdf"
    refine ⟨_,_,noD "Known",rfl,ok_noD _,NoAt.rep ⟨lt,e13,s13 _ _ ht2⟩,NoAt.rep ⟨lb,s13 _ _ hb1,s13 _ _ hb2⟩,fun H14 s14=>?_⟩
    walk_at "rdf"
    refine rd_ixT (SqT.of (s14 _ _ (s13 _ _ hb1))) (v:=.str "no") rfl ?_
    walk_at "rdf"
    rw [decide_eq_false kept_no]
    walk_at "rdf"
    exact ⟨_,_,_,lf,dg,xs,F,n,G,v,rfl,I.mono (s12.trans (s13.trans s14)),by omega⟩
   ·have I:=I.mono s11
    walk_at "rdf"
    refine ⟨x,af,df,dg,_,_,F,n,G,f,v,rfl,I.fd,I.fo,by omega,by omega,by omega,s11 _ _ ha,hin,fun hm'=>absurd hm' hm,fun _ _ bt lt H12 s12 et=>?_,fun _ ncl=>absurd cl ncl⟩
    have eb2:=s12 _ _ eb
    walk_at "rdf"
    refine rd_lenT eb2 ?_
    walk_at "rdf"
    refine rd_slT et fun H13 tq s13 e13=>?_
    have e13:H13 tq=some (.tup [.str "clash"]):=e13.trans (congrArg (fun y=>some (HO.tup y)) (cutV_takeG (xs:=[V.str "clash",V.ref lt]) (k:=1)))
    walk_at "rdf"
    refine ⟨_,_,.tuple [.str "clash"],rfl,ok_w1 (by decide +kernel),rep_w1 e13,rep_w1 (s13 _ _ eb2),fun H14 s14=>?_⟩
    walk_at "rdf"
    refine rd_ixT (SqT.of (s14 _ _ (s13 _ _ eb2))) (v:=.str "clash") rfl ?_
    walk_at "rdf"
    rw [decide_eq_false kept_cl]
    walk_at "rdf"
    exact ⟨_,_,_,lf,dg,xs,F,n,G,v,rfl,I.mono (s12.trans (s13.trans s14)),by omega⟩
   ·have I:=I.mono s11
    have ha:=s11 _ _ ha
    obtain ⟨v',fo'⟩:=I.fo.add hin ncl
    walk_at "rdf"
    refine ⟨x,af,df,dg,_,_,F,n,G,f,v,rfl,I.fd,I.fo,by omega,by omega,by omega,ha,hin,fun hm'=>absurd hm' hm,fun _ cl=>absurd cl ncl,fun _ _ bt H12 m12 f12 et=>?_⟩
    have os:=I.fd.outS
    have es12:=but_lst m12 os I.es
    have el12:=but_lst m12 os I.el
    have pl12:=I.pl.but m12 os
    have pw12:=I.pw.but m12 os.noT
    have eb2:=but_tup m12 os.noT eb
    have ha12:=but_tup m12 os.noT ha
    walk_at "rdf"
    refine rd_lenT eb2 ?_
    walk_at "rdf"
    refine rd_slT et fun H13 tq s13 e13=>?_
    have e13:H13 tq=some (.tup [.str "kept",.int n]):=e13.trans (congrArg (fun y=>some (HO.tup y)) (cut_all (xs:=[V.str "kept",V.int n])))
    walk_at "rdf"
    refine ⟨_,_,.tuple [.str "kept",.int n],rfl,ok_wi (by decide +kernel),rep_wi e13,rep_wi (s13 _ _ eb2),fun H14 s14=>?_⟩
    have s24:=s13.trans s14
    walk_at "rdf"
    refine rd_ixT (SqT.of (s24 _ _ eb2)) (v:=.str "kept") rfl ?_
    walk_at "rdf"
    rw [decide_eq_true rfl]
    walk_at "rdf"
    refine ⟨by show 2≤sizeLine; decide,fun tb ntb=>?_⟩
    have stb:=Same.new (o:=HO.tup [V.int n,V.ref af]) ntb
    have etb:=upd_same (H:=H14) (a:=tb) (o:=HO.tup [V.int n,V.ref af])
    generalize upd H14 tb (HO.tup [V.int n,V.ref af])=H15 at stb etb ⊢
    walk_at "rdf"
    refine ⟨by show 1≤sizeLine; decide,fun lb nlb=>?_⟩
    have slb:=Same.new (o:=HO.lst [V.ref tb]) nlb
    have elb:=upd_same (H:=H15) (a:=lb) (o:=HO.lst [V.ref tb])
    generalize upd H15 lb (HO.lst [V.ref tb])=H16 at slb elb ⊢
    have s26:=s24.trans (stb.trans slb)
    have lx:=pw12.1
    refine rd_catS (s26 _ _ el12) elb (Nat.le_of_lt (small1000 (by show xs.length+1≤1000; omega))) fun l7 H17 s17 n7 e17=>?_
    have s27:=s26.trans s17
    walk_at "rdf"
    have n0:=I.n0
    exact ⟨_,_,_,l7,dg,_,F++[(n,f)],n+1,_,v',rfl,⟨s27 _ _ es12,pl12.mono s27,e17,(pw12.mono s27).snoc (s17 _ _ (slb _ _ etb)) (s27 _ _ ha12),f12.mono s27,fo',by omega⟩,by rw [List.length_append]; show F.length+1≤i+1; omega⟩
end
end My
set_option Elab.async false
set_option linter.all false
set_option maxRecDepth 100000
namespace PySem.W.Fast
theorem tw11872313390325102819:True:=⟨⟩
theorem tw5378341493153686715:True:=⟨⟩
theorem tw1971330938031754074:True:=⟨⟩
theorem tw15364681951395923166:True:=⟨⟩
theorem tw3960117659989875876:True:=⟨⟩
theorem tw17078082505492269655:True:=⟨⟩
theorem tw2503657472772255056:True:=⟨⟩
theorem tw6617767188739131478:True:=⟨⟩
theorem tw16212507566447232127:True:=⟨⟩
theorem tw6206368022344305574:True:=⟨⟩
theorem tw11272661864228328464:True:=⟨⟩
theorem tw3206131025786186409:True:=⟨⟩
theorem tw13995065055134329755:True:=⟨⟩
theorem tw12644255506903499204:True:=⟨⟩
theorem tw16912939644041947968:True:=⟨⟩
theorem tw17881937132485228664:True:=⟨⟩
theorem tw12829296837226247144:True:=⟨⟩
theorem tw5322604475887879730:True:=⟨⟩
theorem tw4065843651237672507:True:=⟨⟩
theorem tw10277622787867815734:True:=⟨⟩
theorem tw2720979215317748642:True:=⟨⟩
theorem tw18000614326359673952:True:=⟨⟩
theorem tw1779556063981924172:True:=⟨⟩
theorem tw5838741664515216188:True:=⟨⟩
theorem tw7807143807408281213:True:=⟨⟩
theorem tw8655625919211729366:True:=⟨⟩
theorem tw6943852714114121345:True:=⟨⟩
theorem tw1607231981031427323:True:=⟨⟩
theorem tw9217012067605562654:True:=⟨⟩
theorem tw7759174648662354989:True:=⟨⟩
theorem tw17935929613817224907:True:=⟨⟩
theorem tw961518465604092743:True:=⟨⟩
theorem tw15392572561746725561:True:=⟨⟩
theorem tw1897957067631799804:True:=⟨⟩
theorem tw11360841864400876215:True:=⟨⟩
theorem tw15951266955618005407:True:=⟨⟩
theorem tw6973641867756561508:True:=⟨⟩
theorem tw3137720852337733375:True:=⟨⟩
theorem tw6715768236540339620:True:=⟨⟩
theorem tw18264824092447500504:True:=⟨⟩
theorem tw16894702342393647688:True:=⟨⟩
theorem tw6982365135585505882:True:=⟨⟩
theorem tw815205184646435567:True:=⟨⟩
theorem tw7107855011881702479:True:=⟨⟩
theorem tw13999095951329938234:True:=⟨⟩
theorem tw7985293149109115098:True:=⟨⟩
theorem tw15052802141464180912:True:=⟨⟩
theorem tw15998770200174855566:True:=⟨⟩
theorem tw18066731029671653689:True:=⟨⟩
theorem tw11651521604957673023:True:=⟨⟩
theorem tw2833909558968067983:True:=⟨⟩
theorem tw7775019661390679976:True:=⟨⟩
theorem tw3672103073193341864:True:=⟨⟩
theorem tw2000229944665113194:True:=⟨⟩
theorem tw11594779912553049696:True:=⟨⟩
theorem tw17646532662720691855:True:=⟨⟩
theorem tw11706151779193460135:True:=⟨⟩
theorem tw5968549909144365823:True:=⟨⟩
theorem tw8835862232265475800:True:=⟨⟩
theorem tw7650225642842487320:True:=⟨⟩
theorem tw844266839045494902:True:=⟨⟩
theorem tw7659103149220085846:True:=⟨⟩
theorem tw2506505563323082791:True:=⟨⟩
theorem tw8331793230414157821:True:=⟨⟩
theorem tw3413593358640961816:True:=⟨⟩
theorem tw4559607184792493558:True:=⟨⟩
theorem tw17127571590266684626:True:=⟨⟩
theorem tw9899939645951076106:True:=⟨⟩
theorem tw286318720080882056:True:=⟨⟩
theorem tw13333770026581552783:True:=⟨⟩
theorem tw5990986765553259596:True:=⟨⟩
theorem tw10836780520699881824:True:=⟨⟩
theorem tw7596239057429123589:True:=⟨⟩
theorem tw312880859343401845:True:=⟨⟩
theorem tw16147168701437123419:True:=⟨⟩
theorem tw11687809760407519033:True:=⟨⟩
theorem tw7695104172617594693:True:=⟨⟩
theorem tw15613239828313678234:True:=⟨⟩
theorem tw3023478161187930131:True:=⟨⟩
theorem tw16380531973427908959:True:=⟨⟩
theorem tw1247525389614776038:True:=⟨⟩
theorem tw16795706373164067088:True:=⟨⟩
theorem tw12036268155563966444:True:=⟨⟩
theorem tw10352746123608057977:True:=⟨⟩
theorem tw7339890221118158401:True:=⟨⟩
theorem tw13425547828591774971:True:=⟨⟩
theorem tw3416811156841051001:True:=⟨⟩
theorem tw11400234680559315430:True:=⟨⟩
theorem tw701919912092154104:True:=⟨⟩
theorem tw14011559636930068343:True:=⟨⟩
theorem tw10625582818474099222:True:=⟨⟩
theorem tw876703250795530735:True:=⟨⟩
theorem tw14068294130393192173:True:=⟨⟩
theorem tw850320546599675779:True:=⟨⟩
theorem tw946428782183579043:True:=⟨⟩
theorem tw10245718719189667973:True:=⟨⟩
theorem tw7984385305073655389:True:=⟨⟩
theorem tw15542935772397199500:True:=⟨⟩
theorem tw7239083561774505641:True:=⟨⟩
theorem tw18166668561083855926:True:=⟨⟩
theorem tw12406464201355098442:True:=⟨⟩
theorem tw6143238486896943611:True:=⟨⟩
theorem tw186827811491512715:True:=⟨⟩
theorem tw10392734671059567827:True:=⟨⟩
theorem tw631197635442413110:True:=⟨⟩
theorem tw13929269005960108956:True:=⟨⟩
theorem tw13546914451646266349:True:=⟨⟩
theorem tw5055990776279879303:True:=⟨⟩
theorem tw8883992255964889995:True:=⟨⟩
theorem tw17517456120129960979:True:=⟨⟩
theorem tw16616486017785396831:True:=⟨⟩
theorem tw14345673446825779369:True:=⟨⟩
theorem tw16317117619101328200:True:=⟨⟩
theorem tw7394137329585877928:True:=⟨⟩
theorem tw3350837690765370954:True:=⟨⟩
theorem tw9574810156677653336:True:=⟨⟩
theorem tw14109236266273426594:True:=⟨⟩
theorem tw4350715830577988565:True:=⟨⟩
theorem tw13134870023308951243:True:=⟨⟩
theorem tw11908691910614693773:True:=⟨⟩
theorem tw5040789475219213530:True:=⟨⟩
theorem tw3239580087642239837:True:=⟨⟩
theorem tw7029377527318428200:True:=⟨⟩
theorem tw2757061062513421484:True:=⟨⟩
theorem tw13711146714731503021:True:=⟨⟩
theorem tw2134578302750828640:True:=⟨⟩
theorem tw17016316958346701712:True:=⟨⟩
theorem tw2645647595153497233:True:=⟨⟩
theorem tw616549980625625467:True:=⟨⟩
theorem tw12014954344225344633:True:=⟨⟩
theorem tw17955972854947205896:True:=⟨⟩
theorem tw13405586549280375156:True:=⟨⟩
theorem tw13428069103399495090:True:=⟨⟩
theorem tw4998998075580936964:True:=⟨⟩
theorem tw12007390087688856316:True:=⟨⟩
theorem tw13638612753151857739:True:=⟨⟩
theorem tw11327512261968339102:True:=⟨⟩
theorem tw10260419873879882200:True:=⟨⟩
theorem tw5941374891347516199:True:=⟨⟩
theorem tw3950663746944661386:True:=⟨⟩
theorem tw13006068600136259566:True:=⟨⟩
theorem tw16273358532623435171:True:=⟨⟩
theorem tw7301428090217385079:True:=⟨⟩
theorem tw335398579917976324:True:=⟨⟩
theorem tw2167451415684132650:True:=⟨⟩
theorem tw1053378574336799251:True:=⟨⟩
theorem tw14239343565185751306:True:=⟨⟩
theorem tw2823896644628965426:True:=⟨⟩
theorem tw10161398545613027534:True:=⟨⟩
theorem tw17648730269741612958:True:=⟨⟩
theorem tw9530927794644537117:True:=⟨⟩
theorem tw10723504893244271977:True:=⟨⟩
theorem tw9853982755637781117:True:=⟨⟩
theorem tw4735042254424722699:True:=⟨⟩
theorem tw2757089202227139957:True:=⟨⟩
theorem tw2301442235316428111:True:=⟨⟩
theorem tw5503035792489059656:True:=⟨⟩
theorem tw17758881322459085993:True:=⟨⟩
theorem tw10310441684017750796:True:=⟨⟩
theorem tw14416624839497080652:True:=⟨⟩
theorem tw2563315993670707928:True:=⟨⟩
theorem tw5376713720022176344:True:=⟨⟩
theorem tw15287235168415175057:True:=⟨⟩
theorem tw874953783988707583:True:=⟨⟩
theorem tw10872381814021367037:True:=⟨⟩
theorem tw17073363425308010863:True:=⟨⟩
theorem tw15889295245057663531:True:=⟨⟩
theorem tw1632941310365250794:True:=⟨⟩
theorem tw17099938934744645246:True:=⟨⟩
theorem tw7024857096588733384:True:=⟨⟩
theorem tw2229074822027595249:True:=⟨⟩
theorem tw8403319163476196273:True:=⟨⟩
theorem tw5743354725442185029:True:=⟨⟩
theorem tw8980937842312368422:True:=⟨⟩
theorem tw12444406077963028333:True:=⟨⟩
theorem tw14145906273175219257:True:=⟨⟩
theorem tw8260704777743627072:True:=⟨⟩
theorem tw9134462077769662476:True:=⟨⟩
theorem tw12175032979789431208:True:=⟨⟩
theorem tw17253514040941266766:True:=⟨⟩
theorem tw1403979034046100130:True:=⟨⟩
theorem tw14996127424674899697:True:=⟨⟩
theorem tw3053746036549287459:True:=⟨⟩
theorem tw2968194334037567923:True:=⟨⟩
theorem tw12196849456955508137:True:=⟨⟩
theorem tw9112339333553720407:True:=⟨⟩
theorem tw8833700953951398353:True:=⟨⟩
theorem tw17336610302115146760:True:=⟨⟩
theorem tw6692369201148179562:True:=⟨⟩
theorem tw14708898074095987199:True:=⟨⟩
theorem tw13976780373117199633:True:=⟨⟩
theorem tw6879739215672683357:True:=⟨⟩
theorem tw14459407792473345563:True:=⟨⟩
theorem tw15236419182673972863:True:=⟨⟩
theorem tw838702545747341652:True:=⟨⟩
theorem tw13455165854108482705:True:=⟨⟩
theorem tw7650223741771289439:True:=⟨⟩
theorem tw7195326606819278162:True:=⟨⟩
theorem tw15554420123047956932:True:=⟨⟩
theorem tw5807219401973665615:True:=⟨⟩
theorem tw7129157382284310986:True:=⟨⟩
theorem tw4202864651862912154:True:=⟨⟩
theorem tw6007180477531195776:True:=⟨⟩
theorem tw16722760251984793265:True:=⟨⟩
theorem tw13414250733297602535:True:=⟨⟩
theorem tw10348496119775570042:True:=⟨⟩
theorem tw2520151963165397330:True:=⟨⟩
theorem tw16110837605934905544:True:=⟨⟩
theorem tw3961864131510702350:True:=⟨⟩
theorem tw3442241696702950736:True:=⟨⟩
theorem tw10103423730784601140:True:=⟨⟩
theorem tw12887213410278792383:True:=⟨⟩
theorem tw16150717205943672877:True:=⟨⟩
theorem tw13305664499106094519:True:=⟨⟩
theorem tw16106066344639080549:True:=⟨⟩
theorem tw11930291591928760894:True:=⟨⟩
theorem tw6416335506643128940:True:=⟨⟩
theorem tw17113601155191391770:True:=⟨⟩
theorem tw311315357781257192:True:=⟨⟩
theorem tw5080041872947067564:True:=⟨⟩
theorem tw17135626473099455753:True:=⟨⟩
theorem tw7844562706137943457:True:=⟨⟩
theorem tw15676343065795473158:True:=⟨⟩
theorem tw16158216304055953072:True:=⟨⟩
theorem tw1712414766885848602:True:=⟨⟩
theorem tw16935971048538666185:True:=⟨⟩
theorem tw1420093091305088248:True:=⟨⟩
theorem tw3930618334903739882:True:=⟨⟩
theorem tw14578042032999142667:True:=⟨⟩
theorem tw15884990162851056177:True:=⟨⟩
theorem tw920772280146023059:True:=⟨⟩
theorem tw5106351580542051397:True:=⟨⟩
theorem tw5117066977886954128:True:=⟨⟩
theorem tw1488792798201450639:True:=⟨⟩
theorem tw3158387648405318911:True:=⟨⟩
theorem tw11919461821357478639:True:=⟨⟩
theorem tw3701253880323586064:True:=⟨⟩
theorem tw9721762876983431674:True:=⟨⟩
theorem tw18118551414555196295:True:=⟨⟩
theorem tw1538783757838029863:True:=⟨⟩
theorem tw11103144994044396923:True:=⟨⟩
theorem tw265365198815785684:True:=⟨⟩
theorem tw11575733457927913719:True:=⟨⟩
theorem tw6381863209875930297:True:=⟨⟩
theorem tw7879698067676080855:True:=⟨⟩
theorem tw12545562761670265497:True:=⟨⟩
theorem tw2743103234242585758:True:=⟨⟩
theorem tw7559643707439126323:True:=⟨⟩
theorem tw18046623017365461231:True:=⟨⟩
theorem tw10875604102939844921:True:=⟨⟩
theorem tw6955873365274996538:True:=⟨⟩
theorem tw8568631442770287392:True:=⟨⟩
theorem tw11650184257562238197:True:=⟨⟩
theorem tw476083584975425267:True:=⟨⟩
theorem tw11547444905048153747:True:=⟨⟩
theorem tw13739531530020995882:True:=⟨⟩
theorem tw817980696684740525:True:=⟨⟩
theorem tw4847264155688573829:True:=⟨⟩
theorem tw10134761199574254210:True:=⟨⟩
theorem tw12904471816447822071:True:=⟨⟩
theorem tw8602046212934493418:True:=⟨⟩
theorem tw1369018761000895002:True:=⟨⟩
theorem tw9428182837563299071:True:=⟨⟩
theorem tw5385873560875503980:True:=⟨⟩
theorem tw5372955147276487291:True:=⟨⟩
theorem tw8185956952629617497:True:=⟨⟩
theorem tw3192644533902365004:True:=⟨⟩
theorem tw9921613285442900379:True:=⟨⟩
theorem tw838551735785309608:True:=⟨⟩
theorem tw14956568010427498359:True:=⟨⟩
theorem tw8321908698126226321:True:=⟨⟩
theorem tw7683934238074376692:True:=⟨⟩
theorem tw5988159971729068308:True:=⟨⟩
theorem tw10034777213850491555:True:=⟨⟩
theorem tw4451442007738903255:True:=⟨⟩
theorem tw14196342123293050845:True:=⟨⟩
theorem tw2039162094795164448:True:=⟨⟩
theorem tw3022560565576833594:True:=⟨⟩
theorem tw6527051270984046095:True:=⟨⟩
theorem tw2114850660282361834:True:=⟨⟩
theorem tw6854334404954260902:True:=⟨⟩
theorem tw7629682967667752303:True:=⟨⟩
theorem tw1203031444387738212:True:=⟨⟩
theorem tw16307078128527608436:True:=⟨⟩
theorem tw8589835559565396214:True:=⟨⟩
theorem tw14069460667497934017:True:=⟨⟩
theorem tw1763769012796004870:True:=⟨⟩
theorem tw13206267479297948003:True:=⟨⟩
theorem tw629969774628841041:True:=⟨⟩
theorem tw16613247341232563018:True:=⟨⟩
theorem tw1031891667942298802:True:=⟨⟩
theorem tw1036726042534356560:True:=⟨⟩
theorem tw2295401074685865672:True:=⟨⟩
theorem tw10280764445518178251:True:=⟨⟩
theorem tw14775289258892901942:True:=⟨⟩
theorem tw5647266901687937618:True:=⟨⟩
theorem tw3607360461844508001:True:=⟨⟩
theorem tw3687133070969852848:True:=⟨⟩
theorem tw7406762693230772238:True:=⟨⟩
theorem tw7997928114654484796:True:=⟨⟩
theorem tw11382983196104168417:True:=⟨⟩
theorem tw2127535526460031269:True:=⟨⟩
theorem tw5736624465262149454:True:=⟨⟩
theorem tw10106673317631543306:True:=⟨⟩
theorem tw14555983217900175141:True:=⟨⟩
theorem tw6706336780448145761:True:=⟨⟩
theorem tw11364030857582512940:True:=⟨⟩
theorem tw962599277577014090:True:=⟨⟩
theorem tw5038530678273992618:True:=⟨⟩
theorem tw4192897288274963908:True:=⟨⟩
theorem tw9981072403138295300:True:=⟨⟩
theorem tw5684300641960111933:True:=⟨⟩
theorem tw8834394040383027981:True:=⟨⟩
theorem tw17348497311796986963:True:=⟨⟩
theorem tw7816868754622893985:True:=⟨⟩
theorem tw16377376609008152375:True:=⟨⟩
theorem tw11145696112712322324:True:=⟨⟩
theorem tw4849618259466045948:True:=⟨⟩
theorem tw8447232319654275902:True:=⟨⟩
theorem tw7434969113608893414:True:=⟨⟩
theorem tw2634251074531862140:True:=⟨⟩
theorem tw3057757505351753726:True:=⟨⟩
theorem tw9809019984693525411:True:=⟨⟩
theorem tw14505761873077319486:True:=⟨⟩
theorem tw14283636665059977140:True:=⟨⟩
theorem tw17843388667286191517:True:=⟨⟩
theorem tw12445577215768003628:True:=⟨⟩
theorem tw14140422597412125314:True:=⟨⟩
theorem tw7314775954325930711:True:=⟨⟩
theorem tw2545868999133245346:True:=⟨⟩
theorem tw18035661478609766233:True:=⟨⟩
theorem tw9201194810848607219:True:=⟨⟩
theorem tw3789936996507823881:True:=⟨⟩
theorem tw9379271889888708265:True:=⟨⟩
theorem tw16476733906284016511:True:=⟨⟩
theorem tw5005196592652219869:True:=⟨⟩
theorem tw14682981944818655682:True:=⟨⟩
theorem tw10607451317243366984:True:=⟨⟩
theorem tw4954226071252597330:True:=⟨⟩
theorem tw1014476049555544022:True:=⟨⟩
theorem tw18092487555697315585:True:=⟨⟩
theorem tw9585131113938527149:True:=⟨⟩
theorem tw8746716715075729715:True:=⟨⟩
theorem tw13838079194761846270:True:=⟨⟩
theorem tw12514621343681133609:True:=⟨⟩
theorem tw463733729720544452:True:=⟨⟩
theorem tw84422411162863307:True:=⟨⟩
theorem tw7414774416991952863:True:=⟨⟩
theorem tw16740669980884423892:True:=⟨⟩
theorem tw5899655697284870362:True:=⟨⟩
theorem tw17023326174503933940:True:=⟨⟩
theorem tw8787792480350044813:True:=⟨⟩
theorem tw10642953573548988502:True:=⟨⟩
theorem tw15327510564234778215:True:=⟨⟩
theorem tw990689463546236574:True:=⟨⟩
theorem tw5669123406934457438:True:=⟨⟩
theorem tw8914535734684487324:True:=⟨⟩
theorem tw5436510662968148694:True:=⟨⟩
theorem tw8423064103859281200:True:=⟨⟩
theorem tw16396182430330041251:True:=⟨⟩
theorem tw5707670345307820880:True:=⟨⟩
theorem tw15965831453953033189:True:=⟨⟩
theorem tw4020837129163065081:True:=⟨⟩
theorem tw9828395639896478541:True:=⟨⟩
theorem tw4198364439449085369:True:=⟨⟩
theorem tw4273220179933401866:True:=⟨⟩
theorem tw4837421898196261983:True:=⟨⟩
theorem tw11574603932589944725:True:=⟨⟩
theorem tw5203867271632168780:True:=⟨⟩
theorem tw14761424045894955924:True:=⟨⟩
theorem tw320771036524784191:True:=⟨⟩
theorem tw16024939861025673233:True:=⟨⟩
theorem tw1389709367016274021:True:=⟨⟩
theorem tw1001208591377009356:True:=⟨⟩
theorem tw16184388523057728473:True:=⟨⟩
theorem tw11796812493101517942:True:=⟨⟩
theorem tw5690251682864701036:True:=⟨⟩
theorem tw8187404557230598158:True:=⟨⟩
theorem tw17794920048470628909:True:=⟨⟩
theorem tw14515357213732481419:True:=⟨⟩
theorem tw13795731187293656354:True:=⟨⟩
theorem tw2299463580627999333:True:=⟨⟩
theorem tw9223660443413669742:True:=⟨⟩
theorem tw1153499050827190212:True:=⟨⟩
theorem tw7688590780753927126:True:=⟨⟩
theorem tw6666419027968363526:True:=⟨⟩
theorem tw6844772664228136435:True:=⟨⟩
theorem tw12842695919277636230:True:=⟨⟩
theorem tw3923989355658648056:True:=⟨⟩
theorem tw12941064258334378470:True:=⟨⟩
theorem tw2293969099213229447:True:=⟨⟩
theorem tw11841039554371667890:True:=⟨⟩
theorem tw1445154484428606414:True:=⟨⟩
theorem tw5839466970409708497:True:=⟨⟩
theorem tw13046942444408823978:True:=⟨⟩
theorem tw2394781224323638831:True:=⟨⟩
theorem tw13793410845620902912:True:=⟨⟩
theorem tw3845309518091849707:True:=⟨⟩
theorem tw1932805735501612708:True:=⟨⟩
theorem tw1498932055995602509:True:=⟨⟩
theorem tw17012757989604955239:True:=⟨⟩
theorem tw4187706471477487498:True:=⟨⟩
theorem tw15852486692578653355:True:=⟨⟩
theorem tw6908888922539868489:True:=⟨⟩
theorem tw4962522183553965517:True:=⟨⟩
theorem tw1972071013077639646:True:=⟨⟩
theorem tw13512687479799966805:True:=⟨⟩
theorem tw7906158333847115512:True:=⟨⟩
theorem tw2512196149867027524:True:=⟨⟩
theorem tw3774100295501317384:True:=⟨⟩
theorem tw1680966137802983353:True:=⟨⟩
theorem tw13744838268040430852:True:=⟨⟩
theorem tw14332850551635336263:True:=⟨⟩
theorem tw16111289619505206686:True:=⟨⟩
theorem tw12790425143393407275:True:=⟨⟩
theorem tw2817287865750463507:True:=⟨⟩
theorem tw9885176376476179865:True:=⟨⟩
theorem tw17429800471764197923:True:=⟨⟩
theorem tw11496799977592706227:True:=⟨⟩
theorem tw3042882289385498404:True:=⟨⟩
theorem tw16848438041033745204:True:=⟨⟩
theorem tw6977064251126487545:True:=⟨⟩
theorem tw11194040475986684627:True:=⟨⟩
theorem tw12060187072508801678:True:=⟨⟩
theorem tw3252625455413728090:True:=⟨⟩
theorem tw9141692520684226158:True:=⟨⟩
theorem tw384274629528216026:True:=⟨⟩
theorem tw10915381179956382073:True:=⟨⟩
theorem tw1267180807867946143:True:=⟨⟩
theorem tw5849577163608925042:True:=⟨⟩
theorem tw1155487328389295686:True:=⟨⟩
theorem tw2467657294650291906:True:=⟨⟩
theorem tw3675753512439311226:True:=⟨⟩
theorem tw9482488643615118130:True:=⟨⟩
theorem tw13327058743540441663:True:=⟨⟩
theorem tw16849149983891156624:True:=⟨⟩
theorem tw9489409067418940719:True:=⟨⟩
theorem tw2365970733526939699:True:=⟨⟩
theorem tw8379911479706900142:True:=⟨⟩
theorem tw13812331786947203500:True:=⟨⟩
theorem tw3646820300431469768:True:=⟨⟩
theorem tw7431794233531908432:True:=⟨⟩
theorem tw6461484791586379087:True:=⟨⟩
theorem tw11836276671068294185:True:=⟨⟩
theorem tw9824740555258125396:True:=⟨⟩
theorem tw11223952393722089650:True:=⟨⟩
theorem tw6816577620124423838:True:=⟨⟩
theorem tw17362614955831512028:True:=⟨⟩
theorem tw4872380091920250047:True:=⟨⟩
theorem tw13034440659029827063:True:=⟨⟩
theorem tw11816891691643185535:True:=⟨⟩
theorem tw15790242853244488543:True:=⟨⟩
theorem tw5591071206997067102:True:=⟨⟩
theorem tw17566586731277920725:True:=⟨⟩
theorem tw10749127793475819769:True:=⟨⟩
theorem tw10550666274279603495:True:=⟨⟩
theorem tw9031094063391702478:True:=⟨⟩
theorem tw4656270843945925073:True:=⟨⟩
theorem tw16516642341446116027:True:=⟨⟩
theorem tw11659409986476879326:True:=⟨⟩
theorem tw17611910896380409826:True:=⟨⟩
theorem tw6786334829651372541:True:=⟨⟩
theorem tw7317790779034264150:True:=⟨⟩
theorem tw4272135690226484638:True:=⟨⟩
theorem tw23528302587646037:True:=⟨⟩
theorem tw4787785516386289546:True:=⟨⟩
theorem tw4663585370534110998:True:=⟨⟩
theorem tw1990920029094857496:True:=⟨⟩
theorem tw8959081716622758597:True:=⟨⟩
theorem tw17091906097697223814:True:=⟨⟩
theorem tw16081182217181593963:True:=⟨⟩
theorem tw13722232360727069494:True:=⟨⟩
theorem tw8214793842545297883:True:=⟨⟩
theorem tw15102848331062694187:True:=⟨⟩
theorem tw16142084582210459149:True:=⟨⟩
theorem tw841559986019245362:True:=⟨⟩
theorem tw6426205273868603276:True:=⟨⟩
theorem tw16916358292834309497:True:=⟨⟩
theorem tw1494382737055781727:True:=⟨⟩
theorem tw810146623302274083:True:=⟨⟩
theorem tw11948812370808457991:True:=⟨⟩
theorem tw12884122973186463977:True:=⟨⟩
theorem tw6626037096775067264:True:=⟨⟩
theorem tw18152600387169203775:True:=⟨⟩
theorem tw3988513816648727089:True:=⟨⟩
theorem tw15215777609233050081:True:=⟨⟩
theorem tw11189612217608899359:True:=⟨⟩
theorem tw2124012871073631910:True:=⟨⟩
theorem tw16326027348211701872:True:=⟨⟩
theorem tw16230767843216486882:True:=⟨⟩
theorem tw15374610749780909118:True:=⟨⟩
theorem tw1568252063598732073:True:=⟨⟩
theorem tw11174479265157570576:True:=⟨⟩
theorem tw6720730543558871341:True:=⟨⟩
theorem tw17145841407563784610:True:=⟨⟩
theorem tw1874502757868552800:True:=⟨⟩
theorem tw18329740006360084693:True:=⟨⟩
theorem tw11112935753801528339:True:=⟨⟩
theorem tw5985663314753773175:True:=⟨⟩
theorem tw8241099640998604590:True:=⟨⟩
theorem tw17466183481748132025:True:=⟨⟩
theorem tw16721399001348898702:True:=⟨⟩
theorem tw11320229756627576806:True:=⟨⟩
theorem tw16771870948788045621:True:=⟨⟩
theorem tw13209846996213673333:True:=⟨⟩
theorem tw1251640925618972579:True:=⟨⟩
theorem tw17562083554355800784:True:=⟨⟩
theorem tw13230031127113309160:True:=⟨⟩
theorem tw11535037098527273656:True:=⟨⟩
theorem tw8299934303460307516:True:=⟨⟩
theorem tw1220639365265960100:True:=⟨⟩
theorem tw3499178704378034416:True:=⟨⟩
theorem tw12102007964487797928:True:=⟨⟩
theorem tw2085966531879689013:True:=⟨⟩
theorem tw9204064828780119641:True:=⟨⟩
theorem tw3153166938137684216:True:=⟨⟩
theorem tw14079805298021429109:True:=⟨⟩
theorem tw8404662417486241053:True:=⟨⟩
theorem tw5795082794914372824:True:=⟨⟩
theorem tw3702310988201337570:True:=⟨⟩
theorem tw9713769319223942362:True:=⟨⟩
theorem tw17787027843400419656:True:=⟨⟩
theorem tw11961595591453190228:True:=⟨⟩
theorem tw16164263347011818380:True:=⟨⟩
theorem tw17501977422821451406:True:=⟨⟩
theorem tw2002248588607046791:True:=⟨⟩
theorem tw12011867697532652695:True:=⟨⟩
theorem tw7682995710336282769:True:=⟨⟩
theorem tw14013466574230479487:True:=⟨⟩
theorem tw10988928525367776214:True:=⟨⟩
theorem tw15989816824037501486:True:=⟨⟩
theorem tw14394163814200930975:True:=⟨⟩
theorem tw14758256039834858655:True:=⟨⟩
theorem tw14026667805462383050:True:=⟨⟩
theorem tw10365867090353645025:True:=⟨⟩
theorem tw7594665312496600877:True:=⟨⟩
theorem tw5213167902069537298:True:=⟨⟩
theorem tw16059303946423608981:True:=⟨⟩
theorem tw3425747870419301321:True:=⟨⟩
theorem tw2390232352487583046:True:=⟨⟩
theorem tw9038327957171020823:True:=⟨⟩
theorem tw14289022260537659529:True:=⟨⟩
theorem tw18416131673538440100:True:=⟨⟩
theorem tw6266789136726531162:True:=⟨⟩
theorem tw15576936060997677497:True:=⟨⟩
theorem tw8058893011968663039:True:=⟨⟩
theorem tw3967631363151896791:True:=⟨⟩
theorem tw1000265549653062602:True:=⟨⟩
theorem tw4888112554981919744:True:=⟨⟩
theorem tw2635120614806944788:True:=⟨⟩
theorem tw4533314318394854428:True:=⟨⟩
theorem tw16775787893297610910:True:=⟨⟩
theorem tw3969724384751533579:True:=⟨⟩
theorem tw6633678142834802490:True:=⟨⟩
theorem tw17552594182300740056:True:=⟨⟩
theorem tw4753120823280363113:True:=⟨⟩
theorem tw4973216855308348443:True:=⟨⟩
theorem tw12990485850739563241:True:=⟨⟩
theorem tw16922525031112493461:True:=⟨⟩
theorem tw3860508473674697954:True:=⟨⟩
theorem tw762378653553820029:True:=⟨⟩
theorem tw9916762715152103405:True:=⟨⟩
theorem tw14003983999163796361:True:=⟨⟩
theorem tw11319932628064209697:True:=⟨⟩
theorem tw16205955538325198214:True:=⟨⟩
theorem tw18101158038065654693:True:=⟨⟩
theorem tw4502138583958832384:True:=⟨⟩
theorem tw3696896969506909205:True:=⟨⟩
theorem tw13428147593334060743:True:=⟨⟩
theorem tw10073974477966725651:True:=⟨⟩
theorem tw8524702793055134314:True:=⟨⟩
theorem tw16503923378427700209:True:=⟨⟩
theorem tw6414508836835580893:True:=⟨⟩
theorem tw18399835917429717180:True:=⟨⟩
theorem tw11615594677811961197:True:=⟨⟩
theorem tw652108973724019707:True:=⟨⟩
theorem tw10215541608926395479:True:=⟨⟩
theorem tw15055425158478696397:True:=⟨⟩
theorem tw10414738250568999571:True:=⟨⟩
theorem tw9207382229523638345:True:=⟨⟩
theorem tw15030982015719727091:True:=⟨⟩
theorem tw15932020636816996468:True:=⟨⟩
theorem tw741646830192190481:True:=⟨⟩
theorem tw9291822746811686032:True:=⟨⟩
theorem tw8695096624325437362:True:=⟨⟩
theorem tw17510302939396315987:True:=⟨⟩
theorem tw14686627590384954806:True:=⟨⟩
theorem tw13185580011342894855:True:=⟨⟩
theorem tw4562989625844160053:True:=⟨⟩
theorem tw2237664280770421025:True:=⟨⟩
theorem tw10466819929068366837:True:=⟨⟩
theorem tw8742585279450412734:True:=⟨⟩
theorem tw928998815597385913:True:=⟨⟩
theorem tw12637224582624417876:True:=⟨⟩
theorem tw7509243727074057775:True:=⟨⟩
theorem tw12200553342124526867:True:=⟨⟩
theorem tw9118461799696512657:True:=⟨⟩
theorem tw6683813941079567419:True:=⟨⟩
theorem tw8454839476683022241:True:=⟨⟩
theorem tw9394737856605961052:True:=⟨⟩
theorem tw4545384464606757044:True:=⟨⟩
theorem tw14827442803106367724:True:=⟨⟩
theorem tw8236315965420631636:True:=⟨⟩
theorem tw15867688606416659394:True:=⟨⟩
theorem tw11737961286790894107:True:=⟨⟩
theorem tw15455426133468612306:True:=⟨⟩
theorem tw661194963853792808:True:=⟨⟩
theorem tw7888197453320855614:True:=⟨⟩
theorem tw10027421318970117239:True:=⟨⟩
theorem tw14559682939072149450:True:=⟨⟩
theorem tw5944216118354678849:True:=⟨⟩
theorem tw8340260006744613098:True:=⟨⟩
theorem tw14421958156003256292:True:=⟨⟩
theorem tw11964612095810316326:True:=⟨⟩
theorem tw1877948043360920499:True:=⟨⟩
theorem tw7231643927137188348:True:=⟨⟩
theorem tw363223282751646313:True:=⟨⟩
theorem tw13130245183134236158:True:=⟨⟩
theorem tw6429174333959008730:True:=⟨⟩
theorem tw16813802025491609444:True:=⟨⟩
theorem tw130503635235320008:True:=⟨⟩
theorem tw9232087351939655632:True:=⟨⟩
theorem tw17748613656725304622:True:=⟨⟩
theorem tw1968628214726077393:True:=⟨⟩
theorem tw13425816809581716422:True:=⟨⟩
theorem tw13258116378652900733:True:=⟨⟩
theorem tw17312407303381101646:True:=⟨⟩
theorem tw13992822259053228501:True:=⟨⟩
theorem tw6831570738605569863:True:=⟨⟩
theorem tw14351772056158085164:True:=⟨⟩
theorem tw2583524854259776390:True:=⟨⟩
theorem tw6350570864253111486:True:=⟨⟩
theorem tw7875891649734513208:True:=⟨⟩
theorem tw4667440986719077213:True:=⟨⟩
theorem tw1801602764505734578:True:=⟨⟩
theorem tw2142610836124910207:True:=⟨⟩
theorem tw1374712596436067608:True:=⟨⟩
theorem tw6951945298206751207:True:=⟨⟩
theorem tw7961419462305437665:True:=⟨⟩
theorem tw375315015243911460:True:=⟨⟩
theorem tw9915993672209220978:True:=⟨⟩
theorem tw14583854971441088818:True:=⟨⟩
theorem tw9907687511112064433:True:=⟨⟩
theorem tw9305735144666761027:True:=⟨⟩
theorem tw75319771757445567:True:=⟨⟩
theorem tw8711736993923301754:True:=⟨⟩
theorem tw17582242072602976775:True:=⟨⟩
theorem tw7468051119783202234:True:=⟨⟩
theorem tw15536687596198611427:True:=⟨⟩
theorem tw13327809103754008385:True:=⟨⟩
theorem tw16858925487750668118:True:=⟨⟩
theorem tw2238619828492177176:True:=⟨⟩
theorem tw978445759775401191:True:=⟨⟩
theorem tw13917731651695983087:True:=⟨⟩
theorem tw7489262901530183552:True:=⟨⟩
theorem tw759777401882907792:True:=⟨⟩
theorem tw1729713462789768374:True:=⟨⟩
theorem tw5647716005320585636:True:=⟨⟩
theorem tw13623637126165136350:True:=⟨⟩
theorem tw15951783017711403592:True:=⟨⟩
theorem tw441724963667671742:True:=⟨⟩
theorem tw1636189521461222389:True:=⟨⟩
theorem tw15960548499693913048:True:=⟨⟩
theorem tw13671974557339441318:True:=⟨⟩
end PySem.W.Fast
open PySem PySem.W PyProof.Rows
set_option maxRecDepth 100000 in
set_option maxHeartbeats 0 in
theorem PySem.Challenge.cw_sashiko_k39_facts_noted_holds : PySem.Challenge.rw_sashiko_k39_facts_noted.Holds := by
 w_on; o_law; k_head; (case hw=>w_witness2)
 k_fill
 refine L2.walk_ofK (l:=PySem.Challenge.rw_sashiko_k39_facts_noted) (n:=63) (k:=11) (x:="_law_script") (CX:=L2.CX0) (sp:=My.sp_law) rfl (by decide) rfl ⟨rfl,by decide,by decide⟩ (fun w h Y=>PySem.W.kIn_of Y) ?F ?S ?C
 case F =>
  intro w mg fa h KX G hmg
  have T:∃ t:My.Ad,My.Txt (L2.KOf KX) mg t:=by
   dsimp only [L2.KOf]
   refine' My.txt_mk KX G ?aC_Finds ?pg_Finds ?hd_Finds ?po_Finds ?sa_Finds ?mk_Finds ?kc_Finds ?naF_columns_count ?naF_rows_count ?naF_facts ?naF_next_number ?naF_groups ?F_ClashInit ?oi_Clash ?of_Clash ?ok_Clash ?os_Clash ?om_Clash ?ox_Clash ?a_isnumber ?F_isnumber ?a_isbelow ?F_isbelow ?a_isbit ?F_isbit ?a_isside ?F_isside ?a_needcell ?F_needcell ?a_cellstrips ?F_cellstrips ?a_linestrips ?F_linestrips ?a_factstrips ?F_factstrips ?a_factweight ?F_factweight ?a_lonegroups ?F_lonegroups ?a_weightbetween ?F_weightbetween ?a_tie ?F_tie ?a_tiesbystrip ?F_tiesbystrip ?a_reasons ?F_reasons ?a_groupsof ?F_groupsof ?a_FindsInit ?i_FindsInit ?F_FindsInit ?a_Findswide ?i_Findswide ?F_Findswide ?a_Findstall ?i_Findstall ?F_Findstall ?a_Findsneedline ?i_Findsneedline ?F_Findsneedline ?a_Findsneedfact ?i_Findsneedfact ?F_Findsneedfact ?a_Findsnote ?i_Findsnote ?F_Findsnote ?a_Findswithdraw ?i_Findswithdraw ?F_Findswithdraw ?a_Findskept ?i_Findskept ?F_Findskept ?a_Lword ?F_Lword ?a_Ltie ?F_Ltie ?a_Lsums ?F_Lsums ?a_Lclashes ?F_Lclashes ?a_Ldraws ?F_Ldraws ?a_Lbits ?F_Lbits ?a_Lrow ?F_Lrow ?a_Lsmall ?F_Lsmall ?a_Lsewn ?F_Lsewn ?a_Lvalue ?F_Lvalue ?a_Lfact ?F_Lfact ?a_Lfalse ?F_Lfalse ?a_Lnoted ?F_Lnoted ?a_Lsame ?F_Lsame ?a_Ltaken ?F_Ltaken ?a_Lwanted ?F_Lwanted ?a_law ?F_law ?aX_SewError ?aX_Clash ?aX_BadSize ?aX_BadBit ?aX_NoCell ?aX_NoLine ?aX_NoStep ?aX_Known ?aX_NoFact ?bb ?bm ?bt ?nb ?nm ?nt ?ogs ?otk ?x_BadSize ?ga_BadSize ?gt_BadSize ?gc_BadSize ?go_BadSize ?gb_BadSize ?sb_BadSize ?x_BadBit ?ga_BadBit ?gt_BadBit ?gc_BadBit ?go_BadBit ?gb_BadBit ?sb_BadBit ?x_NoCell ?ga_NoCell ?gt_NoCell ?gc_NoCell ?go_NoCell ?gb_NoCell ?sb_NoCell ?x_NoLine ?ga_NoLine ?gt_NoLine ?gc_NoLine ?go_NoLine ?gb_NoLine ?sb_NoLine ?x_NoStep ?ga_NoStep ?gt_NoStep ?gc_NoStep ?go_NoStep ?gb_NoStep ?sb_NoStep ?x_Known ?ga_Known ?gt_Known ?gc_Known ?go_Known ?gb_Known ?sb_Known ?sn_Known ?kt_Known_Known ?kt_Known_NoCell ?kt_Known_BadBit ?kt_Known_NoLine ?kt_Known_NoStep ?kt_Known_NoFact ?kv_Known ?x_NoFact ?ga_NoFact ?gt_NoFact ?gc_NoFact ?go_NoFact ?gb_NoFact ?sb_NoFact ?kt_NoFact_Known ?kt_NoFact_NoCell ?kt_NoFact_BadBit ?kt_NoFact_NoLine ?kt_NoFact_NoStep ?kt_NoFact_NoFact ?kv_NoFact ?bg ?br ?ba ?nx_Clash_ring ?ga_Clash ?gt_Clash ?gc_Clash ?go_Clash ?gb_Clash ?sb_Clash ?sc_Clash ?v_LONGEST_SIDE ?z_isinstance ?z_int ?z_bool ?z_all ?z_len ?z_tuple ?z_list ?z_range ?z_abs ?z_sum ?z_min ?z_str ?z_zip ?z_ValueError
   (case aC_Finds | aX_SewError | aX_Clash | aX_BadSize | aX_BadBit | aX_NoCell | aX_NoLine | aX_NoStep | aX_Known | aX_NoFact | pg_Finds | hd_Finds | po_Finds | sa_Finds | mk_Finds | kc_Finds | naF_columns_count | naF_rows_count | naF_facts | naF_next_number | naF_groups | oi_Clash | of_Clash | ok_Clash | os_Clash | om_Clash | a_isnumber | a_isbelow | a_isbit | a_isside | a_needcell | a_cellstrips | a_linestrips | a_factstrips | a_factweight | a_lonegroups | a_weightbetween | a_tie | a_tiesbystrip | a_reasons | a_groupsof | a_FindsInit | i_FindsInit | a_Findswide | i_Findswide | a_Findstall | i_Findstall | a_Findsneedline | i_Findsneedline | a_Findsneedfact | i_Findsneedfact | a_Findsnote | i_Findsnote | a_Findswithdraw | i_Findswithdraw | a_Findskept | i_Findskept | a_Lword | a_Ltie | a_Lsums | a_Lclashes | a_Ldraws | a_Lbits | a_Lrow | a_Lsmall | a_Lsewn | a_Lvalue | a_Lfact | a_Lfalse | a_Lnoted | a_Lsame | a_Ltaken | a_Lwanted | a_law | bb | bm | bt | nb | nm | nt | ogs | otk | ga_BadSize | gt_BadSize | gc_BadSize | go_BadSize | gb_BadSize | sb_BadSize | ga_BadBit | gt_BadBit | gc_BadBit | go_BadBit | gb_BadBit | sb_BadBit | ga_NoCell | gt_NoCell | gc_NoCell | go_NoCell | gb_NoCell | sb_NoCell | ga_NoLine | gt_NoLine | gc_NoLine | go_NoLine | gb_NoLine | sb_NoLine | ga_NoStep | gt_NoStep | gc_NoStep | go_NoStep | gb_NoStep | sb_NoStep | ga_Known | gt_Known | gc_Known | go_Known | gb_Known | sb_Known | sn_Known | ga_NoFact | gt_NoFact | gc_NoFact | go_NoFact | gb_NoFact | sb_NoFact | bg | br | ba | nx_Clash_ring | ga_Clash | gt_Clash | gc_Clash | go_Clash | gb_Clash | sb_Clash | sc_Clash | v_LONGEST_SIDE | z_isinstance | z_int | z_bool | z_all | z_len | z_tuple | z_list | z_range | z_abs | z_sum | z_min | z_str | z_zip | z_ValueError=>k_is)
   (case ox_Clash=>(refine' L2.exi_mk ?xa ?xb ?xc ?xd ?xe ?xf; (case xa=>k_is); (case xb=>rfl); (case xc=>rfl); (case xd=>rfl); (case xe=>rfl); (case xf=>k_exc)))
   (case F_ClashInit | F_isnumber | F_isbelow | F_isbit | F_isside | F_needcell | F_cellstrips | F_linestrips | F_factstrips | F_factweight | F_lonegroups | F_weightbetween | F_tie | F_tiesbystrip | F_reasons | F_groupsof | F_FindsInit | F_Findswide | F_Findstall | F_Findsneedline | F_Findsneedfact | F_Findsnote | F_Findswithdraw | F_Findskept | F_Lword | F_Ltie | F_Lsums | F_Lclashes | F_Ldraws | F_Lbits | F_Lrow | F_Lsmall | F_Lsewn | F_Lvalue | F_Lfact | F_Lfalse | F_Lnoted | F_Lsame | F_Ltaken | F_Lwanted | F_law=>exact L2.fun_mk (by k_is) (by k_is) (by k_is))
   (case x_BadSize | x_BadBit | x_NoCell | x_NoLine | x_NoStep | x_Known | x_NoFact=>k_exc)
   (case kt_Known_Known | kt_Known_NoCell | kt_Known_BadBit | kt_Known_NoLine | kt_Known_NoStep | kt_Known_NoFact | kv_Known | kt_NoFact_Known | kt_NoFact_NoCell | kt_NoFact_BadBit | kt_NoFact_NoLine | kt_NoFact_NoStep | kt_NoFact_NoFact | kv_NoFact=>kit_is)
  obtain ⟨t,T⟩:=T
  have e0:=hmg.symm.trans T.mg_law
  cases e0
  exact ⟨t.d_law,T.F_law.bl fun _ _ _ _ _ _ _=>rfl,fun base _ _=>My.ok_law T⟩
 case S=>exact fun K H a ns hl _ hS=>⟨a,ns,rfl,hS,hl,fun _=>rfl⟩
 case C=>exact fun _ _ _ _ z=>z
