import PyProof.Rows.All
import Wide.All
import OpenK.AllK
import Wide.FinOn
import Lean
import PyProof.EqAt
import PyProof.EqKinds
import PyProof.TupleCall
import KE.KSortTup
import KE.KItemsList
import KE.KPairComp
import KE.KDictOf
import PyProof.AttrMissHeap
import PySem.Challenge.RW_sashiko_k51_chest_deeds_refused
set_option Elab.async false
set_option linter.all false
set_option maxRecDepth 100000
namespace L2
open PySem PySem.Spec PyProof.Rows
abbrev Key:=Sum Int Str
def keyIs:Key→Value→Bool
 | .inl k,v=>Value.isInt k v
 | .inr x,v=>Value.isStrOf x v
def keyH (w:World):Key→Int
 | .inl k=>hashInt k
 | .inr x=>hashStr w x
theorem keyIs_shape:∀ {k:Key} {v:Value},keyIs k v=true→(∃ i t,k=Sum.inl i∧v=Value.int i t)∨(∃ x t,k=Sum.inr x∧v=Value.str x t)
 | .inl i,v,h=>by
  obtain ⟨t,e⟩:=Value.isInt_shape (k:=i) (v:=v) h
  exact .inl ⟨i,t,rfl,e⟩
 | .inr x,v,h=>by
  obtain ⟨t,e⟩:=Value.isStrOf_shape (x:=x) (v:=v) h
  exact .inr ⟨x,t,rfl,e⟩
theorem keyIs_int (i:Int) (t:Tok):keyIs (.inl i) (.int i t)=true:=by simp [keyIs,Value.isInt]
theorem keyIs_str (x:Str) (t:Tok):keyIs (.inr x) (.str x t)=true:=by simp [keyIs,Value.isStrOf]
theorem key_ll (a b:Int):decide ((Sum.inl a:Key)=Sum.inl b)=(a==b):=by
 by_cases e:a=b
 ·subst e; simp
 ·have h:¬ (Sum.inl a:Key)=Sum.inl b:=fun q=>e (Sum.inl.inj q)
  rw [decide_eq_false h]
  exact (beq_eq_false_iff_ne.mpr e).symm
theorem key_rr (a b:Str):decide ((Sum.inr a:Key)=Sum.inr b)=decide (a=b):=by
 by_cases e:a=b
 ·subst e; simp
 ·have h:¬ (Sum.inr a:Key)=Sum.inr b:=fun q=>e (Sum.inr.inj q)
  rw [decide_eq_false h,decide_eq_false e]
theorem key_lr (a:Int) (b:Str):decide ((Sum.inl a:Key)=Sum.inr b)=false:=decide_eq_false (fun q=>nomatch q)
theorem key_rl (a:Str) (b:Int):decide ((Sum.inr a:Key)=Sum.inl b)=false:=decide_eq_false (fun q=>nomatch q)
def mixKind (prog:Program) (w:World):PySem.KeyKind prog w Key where
 is:=keyIs
 hash:=keyH w
 inj:=fun v a b ha hb=>by
  rcases keyIs_shape ha with ⟨i,t,rfl,rfl⟩ | ⟨x,t,rfl,rfl⟩
  ·rcases keyIs_shape hb with ⟨j,u,rfl,e⟩ | ⟨y,u,rfl,e⟩
   ·injection e with e1 _; rw [e1]
   ·exact nomatch e
  ·rcases keyIs_shape hb with ⟨j,u,rfl,e⟩ | ⟨y,u,rfl,e⟩
   ·exact nomatch e
   ·injection e with e1 _; rw [e1]
 byValue:=fun k v h=>by
  rcases keyIs_shape h with ⟨i,t,rfl,rfl⟩ | ⟨x,t,rfl,rfl⟩<;>rfl
 pyHash:=fun hv h=>by
  rcases keyIs_shape hv with ⟨i,t,rfl,rfl⟩ | ⟨x,t,rfl,rfl⟩
  ·exact wpAny_pyHash_int h
  ·exact wpAny_pyHash_str h
 eqBool:=fun hu hv h=>by
  rcases keyIs_shape hu with ⟨i,t,rfl,rfl⟩ | ⟨x,t,rfl,rfl⟩
  ·rcases keyIs_shape hv with ⟨j,u,rfl,rfl⟩ | ⟨y,u,rfl,rfl⟩
   ·rw [key_ll] at h; exact wpAny_eqBool_int h
   ·rw [key_lr] at h; exact SeqAt.EqAt.int_str i t y u _ _ _ _ h
  ·rcases keyIs_shape hv with ⟨j,u,rfl,rfl⟩ | ⟨y,u,rfl,rfl⟩
   ·rw [key_rl] at h; exact SeqAt.EqAt.str_int x t j u _ _ _ _ h
   ·rw [key_rr] at h; exact wpAny_eqBool_str h
 «strs»:=fun k x t v h=>by
  rcases keyIs_shape h with ⟨i,u,rfl,e⟩ | ⟨y,u,rfl,e⟩
  ·exact nomatch e
  ·injection e with e1 _
   subst e1
   cases v<;>rfl
theorem mixKind_int (prog:Program) (w:World) (i:Int) (t:Tok):(mixKind prog w).is (.inl i) (.int i t)=true:=keyIs_int i t
theorem mixKind_str (prog:Program) (w:World) (x:Str) (t:Tok):(mixKind prog w).is (.inr x) (.str x t)=true:=keyIs_str x t
end L2
namespace L2
open PySem PySem.Spec PyProof.Rows
inductive V where
 | non | bl (b:Bool) | int (i:Int) | str (x:Str) | byt (b:Array UInt8) | flt (b:UInt64) | ref (a:Addr) | ty (n:String)
 deriving DecidableEq
def RelV:V→Value→Prop
 | .non,u=>u=Value.none
 | .bl b,u=>u=Value.bool b
 | .int i,u=>∃ t,u=Value.int i t
 | .str x,u=>∃ t,u=Value.str x t
 | .byt b,u=>∃ t,u=Value.bytes b t
 | .flt b,u=>∃ t,u=Value.float b t
 | .ref a,u=>u=Value.ref a
 | .ty n,u=>u=Value.type n
abbrev Vals:List V→List Value→Prop:=Paired RelV
theorem Vals.length {xs:List V} {us:List Value} (r:Vals xs us):xs.length=us.length:=Paired.length r
theorem Vals.get:∀ {xs:List V} {us:List Value} {i:Nat} {x:V},Vals xs us→xs[i]?=some x→∃ u,us[i]?=some u∧RelV x u
 | _,_,_,_,.nil,e=>by simp at e
 | _,_,0,_,.cons r _,e=>by simp at e; subst e; exact ⟨_,rfl,r⟩
 | _,_,i+1,x,.cons _ t,e=>by
  obtain ⟨u,h1,h2⟩:=Vals.get (i:=i) (x:=x) t (by simpa using e)
  exact ⟨u,by simpa using h1,h2⟩
theorem Vals.set {x:V} {u:Value} (r:RelV x u):∀ {xs:List V} {us:List Value} (i:Nat),Vals xs us→Vals (xs.set i x) (us.set i u)
 | _,_,_,.nil=>.nil
 | _,_,0,.cons _ t=>.cons r t
 | _,_,i+1,.cons q t=>.cons q (Vals.set r i t)
theorem Vals.append:∀ {xs ys:List V} {us ws:List Value},Vals xs us→Vals ys ws→Vals (xs++ys) (us++ws)
 | _,_,_,_,.nil,s=>s
 | _,_,_,_,.cons r t,s=>.cons r (Vals.append t s)
theorem Vals.take:∀ {xs:List V} {us:List Value} (n:Nat),Vals xs us→Vals (xs.take n) (us.take n)
 | _,_,0,_=>.nil
 | _,_,_+1,.nil=>.nil
 | _,_,n+1,.cons r t=>.cons r (Vals.take n t)
theorem Vals.drop:∀ {xs:List V} {us:List Value} (n:Nat),Vals xs us→Vals (xs.drop n) (us.drop n)
 | _,_,0,r=>r
 | _,_,_+1,.nil=>.nil
 | _,_,n+1,.cons _ t=>Vals.drop n t
def RelO:Option V→Option Value→Prop
 | some v,some u=>RelV v u
 | none,none=>True
 | _,_=>False
def KV {κ:Type}:List (κ×V)→List (κ×Value)→Prop:=Paired fun (p:κ×V) (q:κ×Value)=>p.1=q.1∧RelV p.2 q.2
def kV:Key→V
 | .inl i=>.int i
 | .inr x=>.str x
inductive HO where
 | lst (xs:List V)
 | tup (xs:List V)
 | dK (kvs:List (Key×V)) | dT (kvs:List (List Key×V))
 | set (S:Int→Bool) (n:Nat)
 | ins (C dx:Addr) (fs:List (Str×V))
 | own (x:Addr)
 | xd (fs:List (Str×V))
 | met (f x:Addr)
 | rng (lo hi:Int)
 | frz (o:Obj) (u:HO)
 | tbl (ps:Array Value)
 | ext (φ:Heap→Prop)
abbrev Hp:=Addr→Option HO
def upd (H:Hp) (a:Addr) (o:HO):Hp:=fun b=>if b=a then some o else H b
theorem upd_same {H:Hp} {a:Addr} {o:HO}:upd H a o a=some o:=by unfold upd; rw [if_pos rfl]
theorem upd_ne {H:Hp} {a b:Addr} {o:HO} (h:b≠a):upd H a o b=H b:=by unfold upd; rw [if_neg h]
theorem upd_upd {H:Hp} {a:Addr} {o u:HO}:upd (upd H a o) a u=upd H a u:=by
 funext b; unfold upd; split<;>rfl
theorem ne_of {H:Hp} {a b:Addr} {o u:HO} (h:H a=some o) (h':H b=some u) (d:o≠u):a≠b:=by
 intro e; subst e; rw [h] at h'; exact d (Option.some.inj h')
theorem ne_of_none {H:Hp} {a b:Addr} {o:HO} (h:H a=some o) (h':H b=none):a≠b:=by
 intro e; subst e; rw [h] at h'; cases h'
section
variable (P:Program) (w:World)
def ObjOk (H:Hp) (h:Heap) (a:Addr):HO→Prop
  | .lst xs => xs.length ≤ sizeLine ∧ ∃ (its : List Value) (n : Nat), Vals xs its ∧ h.get? a = some { cls := .type "list", data := .seq its.toArray n }
  | .tup xs => xs.length ≤ sizeLine ∧ ∃ its : List Value, Vals xs its ∧ IsTup h a its.toArray
  | .dK kvs => kvs.length ≤ sizeLine ∧ (a == sysModules) = false ∧ ∃ vs, KV kvs vs ∧ h.DictOf (mixKind P w) a vs
  | .dT kvs => kvs.length ≤ sizeLine ∧ (a == sysModules) = false ∧ ∃ xs : List (List Key × Addr × Value),
      Paired (fun (p:List Key×V) (q:List Key×Addr×Value)=>p.1=q.1∧H q.2.1=some (.tup (p.1.map kV))∧RelV p.2 q.2.2) kvs xs ∧
      ∃ o es ep,h.get? a=some o∧o.ExactDict∧o.data=.dict es ep∧es.toList=xs.map (entryOfKey (tupleKind (mixKind P w)))∧(xs.map (·.1)).Nodup
  | .set S n => h.SetOf (intKind P w) a S n
  | .ins C dx fs => H dx = some (.own a) ∧ fs.length ≤ 1000 ∧ dx ≠ a ∧ h.get? a = some (PySem.W.instObj C dx) ∧
      ∃ mA,h.Ns1 dx mA∧(∀ f,RelO (fs.lookup f) (mA f))∧PySem.Within mA (fs.map (·.1))
  | .own _ => ∃ o, h.get? a = some o
  | .xd fs => ∃ mA, h.Ns1 a mA ∧ ∀ f, RelO (fs.lookup f) (mA f)
  | .rng lo hi => ∃ t u v, h.get? a = some { cls := .type "range", data := .fields #[.int lo t, .int hi u, .int 1 v] }
  | .frz o u => h.get? a = some o ∧ ObjOk H h a u
  | .tbl ps => h.get? a = some { cls := .none, data := .fields ps }
  | .met f x => h.get? a = some (PySem.W.methodObj (.ref f) (.ref x))
  | .ext φ => φ h ∧ (∃ o, h.get? a = some o) ∧ ∀ h1 h2 : Heap, φ h1 → (∀ o, h1.get? a = some o → h2.get? a = some o) → φ h2
def HOk (H:Hp) (h:Heap):Prop:=∀ a o,H a=some o→ObjOk P w H h a o
end
section
variable {P:Program} {w:World} {H H':Hp} {h h':Heap} {a:Addr} {o:HO}
theorem ObjOk.lt (x:ObjOk P w H h a o):a<h.objs.size:=by
 cases o with
 | lst xs=>obtain ⟨_,_,_,_,e⟩:=x; exact Heap.lt_size e
 | tup xs=>obtain ⟨_,_,_,p⟩:=x; exact p.lt
 | dK kvs=>obtain ⟨_,_,_,_,o,_,_,e,_⟩:=x; exact Heap.lt_size e
 | dT kvs=>obtain ⟨_,_,_,_,o,_,_,e,_⟩:=x; exact Heap.lt_size e
 | set S n=>obtain ⟨o,_,_,_,e,_⟩:=x; exact Heap.lt_size e
 | ins C dx fs=>obtain ⟨_,_,_,e,_⟩:=x; exact Heap.lt_size e
 | own y=>obtain ⟨_,e⟩:=x; exact Heap.lt_size e
 | xd fs=>obtain ⟨_,⟨_,_,_,e,_⟩,_⟩:=x; exact Heap.lt_size e
 | rng lo hi=>obtain ⟨_,_,_,e⟩:=x; exact Heap.lt_size e
 | frz ob u=>obtain ⟨e,_⟩:=x; exact Heap.lt_size e
 | tbl ps=>exact Heap.lt_size (show h.get? a=some _ from x)
 | met f y=>exact Heap.lt_size (show h.get? a=some _ from x)
 | ext φ=>obtain ⟨_,⟨_,e⟩,_⟩:=x; exact Heap.lt_size e
theorem Paired.mapP {α β:Type} {F G:α→β→Prop}:∀ {l₁:List α} {l₂:List β},Paired F l₁ l₂→(∀ a b,F a b→G a b)→Paired G l₁ l₂
 | _,_,.nil,_=>.nil
 | _,_,.cons r t,f=>.cons (f _ _ r) (Paired.mapP t f)
theorem ObjOk.stay (x:ObjOk P w H h a o) (k:∀ b u,(b=a∨H b=some (.own a))→h.get? b=some u→h'.get? b=some u)
  (ho:∀ b,H b=some (.own a)→H' b=some (.own a)) (ht:∀ b xs,H b=some (.tup xs)→H' b=some (.tup xs)):ObjOk P w H' h' a o:=by
 induction o with
 | lst xs=>obtain ⟨z,its,n,r,e⟩:=x; exact ⟨z,its,n,r,k _ _ (.inl rfl) e⟩
 | tup xs=>obtain ⟨z,its,r,ob,e,c⟩:=x; exact ⟨z,its,r,ob,k _ _ (.inl rfl) e,c⟩
 | dK kvs=>obtain ⟨z,y,vs,r,ob,es,ep,e,c⟩:=x; exact ⟨z,y,vs,r,ob,es,ep,k _ _ (.inl rfl) e,c⟩
 | dT kvs =>
  obtain ⟨z,y,xs,r,ob,es,ep,e,c⟩:=x
  exact ⟨z,y,xs,Paired.mapP r fun p q z=>⟨z.1,ht _ _ z.2.1,z.2.2⟩,ob,es,ep,k _ _ (.inl rfl) e,c⟩
 | set S n=>obtain ⟨ob,es,ep,t,e,c⟩:=x; exact ⟨ob,es,ep,t,k _ _ (.inl rfl) e,c⟩
 | ins C dx fs =>
  obtain ⟨d,z,ne,e,mA,⟨od,es,ep,e2,c⟩,r⟩:=x
  exact ⟨ho _ d,z,ne,k _ _ (.inl rfl) e,mA,⟨od,es,ep,k _ _ (.inr d) e2,c⟩,r⟩
 | own y=>obtain ⟨ob,e⟩:=x; exact ⟨ob,k _ _ (.inl rfl) e⟩
 | xd fs=>obtain ⟨mA,⟨od,es,ep,e,c⟩,r⟩:=x; exact ⟨mA,⟨od,es,ep,k _ _ (.inl rfl) e,c⟩,r⟩
 | rng lo hi=>obtain ⟨t,u,v,e⟩:=x; exact ⟨t,u,v,k _ _ (.inl rfl) e⟩
 | frz ob u ih=>obtain ⟨e,q⟩:=x; exact ⟨k _ _ (.inl rfl) e,ih q⟩
 | tbl ps =>
  have e:h.get? a=some { cls:=.none,data:=.fields ps }:=x
  show h'.get? a=some { cls:=.none,data:=.fields ps }
  exact k a _ (.inl rfl) e
 | met f y =>
  have e:h.get? a=some (PySem.W.methodObj (.ref f) (.ref y)):=x
  show h'.get? a=some (PySem.W.methodObj (.ref f) (.ref y))
  exact k a _ (.inl rfl) e
 | ext φ=>obtain ⟨p,⟨o,e⟩,st⟩:=x; exact ⟨st _ _ p fun o q=>k _ _ (.inl rfl) q,⟨o,k _ _ (.inl rfl) e⟩,st⟩
theorem HOk.lt (x:HOk P w H h) (e:H a=some o):a<h.objs.size:=(x a o e).lt
theorem HOk.fresh (x:HOk P w H h) (e:h.objs.size≤a):H a=none:=by
 cases q:H a with
 | none=>rfl
 | some u=>exact absurd (Nat.lt_of_lt_of_le (x.lt q) e) (Nat.lt_irrefl _)
theorem HOk.kept (x:HOk P w H h) (k:∀ b u,h.get? b=some u→h'.get? b=some u):HOk P w H h':=fun a o e =>
 (x a o e).stay (fun b u _ q=>k b u q) (fun _ q=>q) fun _ _ q=>q
theorem HOk.laid (x:HOk P w H h) (k:∀ b u,h.get? b=some u→h'.get? b=some u) (hp:h.objs.size≤a) (new:ObjOk P w (upd H a o) h' a o):HOk P w (upd H a o) h':=fun b u e=>by
 have hn:=x.fresh hp
 by_cases hb:b=a
 ·subst hb; rw [upd_same] at e; cases e; exact new
 ·rw [upd_ne hb] at e
  exact (x b u e).stay (fun c v _ q=>k c v q) (fun c q=>by rw [upd_ne (ne_of_none q hn)]; exact q) fun c xs q=>by rw [upd_ne (ne_of_none q hn)]; exact q
end
def Rd (H:Hp) (a:Addr) (u:HO):Prop:=H a=some u∨∃ o,H a=some (.frz o u)
theorem Rd.ok {P:Program} {w:World} {H:Hp} {h:Heap} {a:Addr} {u:HO} (r:Rd H a u) (x:HOk P w H h):ObjOk P w H h a u:=by
 rcases r with r | ⟨o,r⟩
 ·exact x a u r
 ·obtain ⟨_,q⟩:=x a _ r
  exact q
def Mut:Option HO→Prop
 | some (.lst _)=>True
 | some (.dK _)=>True
 | some (.dT _)=>True
 | some (.set _ _)=>True
 | some (.ins _ _ _)=>True
 | some (.ext _)=>True
 | _=>False
section
variable {P:Program} {w:World} {H:Hp} {h h':Heap} {x e:Addr} {o':HO}
theorem HOk.write (ok:HOk P w H h) (mu:Mut (H x)) (he:e=x∨H e=some (.own x)) (k:∀ b u,b≠e→h.get? b=some u→h'.get? b=some u) (heo:∃ u,h'.get? e=some u)
    (new:ObjOk P w (upd H x o') h' x o'):HOk P w (upd H x o') h':=fun b u q=>by
  have nown:∀ c y,H c=some (.own y)→c≠x:=fun c y r z=>by subst z; rw [r] at mu; exact mu
  have ntup:∀ c xs,H c=some (.tup xs)→c≠x:=fun c xs r z=>by subst z; rw [r] at mu; exact mu
  by_cases hb:b=x
  · subst hb; rw [upd_same] at q; cases q; exact new
  · rw [upd_ne hb] at q
    by_cases hbe:b=e
    · have q':H b=some (.own x):=by
        rcases he with z | z
        · exact absurd (hbe.trans z) hb
        · rw [hbe]; exact z
      rw [q] at q'; cases q'
      obtain ⟨v,hv⟩:=heo
      exact ⟨v,by rw [hbe]; exact hv⟩
    · refine (ok b u q).stay (fun c v hc r=>k c v ?_ r) (fun c r=>by rw [upd_ne (nown c b r)]; exact r) fun c xs r=>by rw [upd_ne (ntup c xs r)]; exact r
      rcases hc with rfl | hc
      · exact hbe
      · rintro rfl
        rcases he with z | z
        · exact nown c b hc z
        · rw [hc] at z; cases z; exact hb rfl
end
structure Un (fs ex:List Addr) (H H':Hp) (h h':Heap):Prop where
 keep:∀ b o,h.get? b=some o→H b=none→b∉fs→b∉ex→h'.get? b=some o
 slot:∀ b o,h.get? b=some o→H b=none→b∈fs→b∉ex→∃ sl,h'.get? b=some { o with slots:=sl }
 free:∀ b o,h.get? b=some o→H b=none→b∉ex→H' b=none
 there:∀ b o,h.get? b=some o→b∉ex→∃ o',h'.get? b=some o'
 tups:∀ b xs,H b=some (.tup xs)→H' b=some (.tup xs)
 frzs:∀ b o u,H b=some (.frz o u)→H' b=some (.frz o u)
 tbls:∀ b ps,H b=some (.tbl ps)→∃ more,H' b=some (.tbl (ps++more))
section
variable {fs fs' ex ex':List Addr} {H H1 H2:Hp} {h h1 h2 h':Heap} {a x e:Addr} {o:HO}
theorem Un.any (u:Un fs ex H H1 h h1) {b:Addr} {ob:Obj} (q:h.get? b=some ob) (n:H b=none) (hx:b∉ex):∃ sl,h1.get? b=some { ob with slots:=sl }:=by
 by_cases hb:b∈fs
 ·exact u.slot b ob q n hb hx
 ·exact ⟨ob.slots,u.keep b ob q n hb hx⟩
theorem Un.kept (k:∀ b u,h.get? b=some u→h'.get? b=some u):Un fs ex H H h h' :=
 ⟨fun b ob q _ _ _=>k b ob q,fun b ob q _ _ _=>⟨ob.slots,k b ob q⟩,fun _ _ _ n _=>n,fun b ob q _=>⟨ob,k b ob q⟩,fun _ _ q=>q,fun _ _ _ q=>q,fun _ ps q=>⟨#[],by rw [q]; simp⟩⟩
theorem Un.refl:Un fs ex H H h h:=Un.kept fun _ _ q=>q
theorem Un.laid (k:∀ b u,h.get? b=some u→h'.get? b=some u) (hp:h.objs.size≤a) (hn:H a=none):Un fs ex H (upd H a o) h h' where
 keep:=fun b u q _ _ _=>k b u q
 slot:=fun b u q _ _ _=>⟨u.slots,k b u q⟩
 free:=fun b u q n _=>by rw [upd_ne (Nat.ne_of_lt (Nat.lt_of_lt_of_le (Heap.lt_size q) hp))]; exact n
 there:=fun b u q _=>⟨u,k b u q⟩
 tups:=fun b xs q=>by rw [upd_ne (ne_of_none q hn)]; exact q
 frzs:=fun b u xs q=>by rw [upd_ne (ne_of_none q hn)]; exact q
 tbls:=fun b ps q=>⟨#[],by rw [upd_ne (ne_of_none q hn),q]; simp⟩
theorem Un.write (mu:Mut (H x)) (he:e=x∨H e=some (.own x)) (k:∀ b u,b≠e→h.get? b=some u→h'.get? b=some u) (heo:∃ u,h'.get? e=some u):Un fs ex H (upd H x o) h h':=by
 have hx:∀ b,H b=none→b≠x:=fun b n z=>by subst z; rw [n] at mu; exact mu
 have hb:∀ b,H b=none→b≠e:=fun b n z=>by
  subst z
  rcases he with r | r
  ·exact hx b n r
  ·rw [n] at r; cases r
 have hm:∀ b u,H b=some u→¬ Mut (some u)→b≠x:=fun b u q nm z=>by subst z; rw [q] at mu; exact nm mu
 refine ⟨fun b u q n _ _=>k b u (hb b n) q,fun b u q n _ _=>⟨u.slots,k b u (hb b n) q⟩,fun b u q n _=>by rw [upd_ne (hx b n)]; exact n,fun b u q _=>?_,
  fun b xs q=>by rw [upd_ne (hm b _ q fun z=>z)]; exact q,fun b u xs q=>by rw [upd_ne (hm b _ q fun z=>z)]; exact q,fun b ps q=>⟨#[],by rw [upd_ne (hm b _ q fun z=>z),q]; simp⟩⟩
 by_cases hbe:b=e
 ·subst hbe; exact heo
 ·exact ⟨u,k b u hbe q⟩
end
def trk (h:Heap) (H:Hp):List Addr:=(List.range h.objs.size).filter fun a=>(H a).isSome
def hidT (h:Heap) (H:Hp):Heap:=PySem.W.hideAll h (trk h H)
theorem hidT_size (h:Heap) (H:Hp):(hidT h H).objs.size=h.objs.size:=PySem.W.hideAll_size _ _
theorem hidT_get {h:Heap} {H:Hp} {b:Addr} {o:Obj} (e:h.get? b=some o) (n:H b=none):(hidT h H).get? b=some o :=
 PySem.W.hideAll_get _ e fun hm=>by
  have q:(H b).isSome=true:=(List.mem_filter.mp hm).2
  rw [n] at q; simp at q
theorem of_hidT {h:Heap} {H:Hp} {b:Addr} {o:Obj} (e:(hidT h H).get? b=some o):h.get? b=some o∧H b=none:=by
 have e':h.get? b=some o:=PySem.W.of_hideAll (trk h H) e
 refine ⟨e',?_⟩
 cases q:H b with
 | none=>rfl
 | some x =>
  have hm:b∈trk h H:=List.mem_filter.mpr ⟨List.mem_range.mpr (Heap.lt_size e'),by simp [q]⟩
  have z:(hidT h H).get? b=none:=PySem.W.hideAll_none (trk h H) hm
  rw [z] at e; cases e
def allNews (g h:Heap) (L:Addr):List (Addr×Obj):=(List.range h.objs.size).filterMap fun a=>if a=L∨(g.get? a).isSome=true then none else (h.get? a).map fun o=>(a,o)
def rest (g h:Heap) (L d:Addr):List (Addr×Obj):=(allNews g h L).filter fun p=>decide (p.1≠d)
end L2
namespace L2
open PySem PySem.Spec PyProof.Rows
structure Mod (K:PySem.W.Frag) (mg:Str→Option Value) (base:Heap):Prop where
 kin:K.In base
 glob:base.Ns mainGlobals mg
 blt:∃ mb,base.Ns builtinsNs mb∧∀ x:Str,x≠"__name__"→mb x=bootBuiltins x
 nolimit:base.NoLimit
structure Cx where
 prog:Program
 w:World
 K:PySem.W.Frag
 mg:Str→Option Value
 base:Heap
 A:Around
 N:List Str
 s₀:Shared
 H₀:Hp
 env:Env
 outer:List Env
 stack:List Env
 ex:List Addr
 fn:Str→Bool
 calm:Bool
 pn:List (Addr×Obj)
 xe:Value→Shared→Prop
def frs (l:List Env):List Addr:=l.filterMap (·.frame)
abbrev Cx.fs (X:Cx):List Addr:=frs X.outer
def Vis (sc:Scope) (x:Str):Prop:=sc.names.lookup x=some .local∨sc.names.lookup x=some .cell∨sc.names.lookup x=some .free
def Loc (sc:Scope) (x:Str):Prop:=sc.names.lookup x=some .local∨sc.names.lookup x=some .cell
def Look (env:Env) (h:Heap) (m:Str→Option Value) (x:Str) (u:Value):Prop :=
 (env.kindOf x=some .local∧m x=some u)∨((env.kindOf x=some .cell∨env.kindOf x=some .free)∧∃ c,env.cells.lookup x=some c∧h.IsCell c (some u))
structure Cx.Ok (X:Cx):Prop where
 mod:Mod X.K X.mg X.base
 kind:X.env.scope.kind=.function
 glob:X.env.globals=mainGlobals
 blt:X.env.builtins=builtinsNs
 above:X.s₀.heap.objs.size≤X.env.locals
 inj:∀ x y c,X.env.cells.lookup x=some c→X.env.cells.lookup y=some c→x=y
 has:∀ x,(X.env.kindOf x=some .cell∨X.env.kindOf x=some .free)→∃ c,X.env.cells.lookup x=some c
 cab:∀ x c,X.fn x=true→X.env.cells.lookup x=some c→X.s₀.heap.objs.size≤c
 hd:X.calm=true→X.A.handled=none
 frames:X.A.frames=some X.stack
 stk:X.stack=X.outer∨(X.stack=X.env::X.outer∧X.env.frame=some X.env.locals)
 exf:∀ b∈X.ex,b≠X.env.locals∧∀ x c,X.env.cells.lookup x=some c→c≠b
 bs:∀ b o,X.base.get? b=some o→X.s₀.heap.get? b=some o∧X.H₀ b=none
 bsz:X.base.objs.size≤X.s₀.heap.objs.size
 noex:∀ b o,X.base.get? b=some o→b∉X.ex
 exfs:∀ b∈X.ex,b∉X.fs
 funs:X.s₀.heap.FunFrames X.base X.outer
 frf:∀ b∈X.fs,X.H₀ b=none
structure Inv (X:Cx) (pins:List (Addr×Obj)) (σ:List (Option V)) (H:Hp) (s:Shared):Prop where
 ok:X.Ok
 os:s.os=X.s₀.os
 bare:AllBare s.gens
 base:Un X.fs X.ex X.H₀ H X.s₀.heap s.heap
 loc:∃ m,s.heap.Ns X.env.locals m∧∀ (i:Nat) (x:Str) (v:V),X.N[i]?=some x→σ[i]?=some (some v)→Vis X.env.scope x→∃ u,RelV v u∧Look X.env s.heap m x u
 cell:∀ x c,X.env.cells.lookup x=some c→∃ v,s.heap.IsCell c v
 free:H X.env.locals=none
 freeC:∀ x c,X.env.cells.lookup x=some c→H c=none
 pin:∀ p∈X.pn++pins,s.heap.get? p.1=some p.2∧H p.1=none∧p.1≠X.env.locals∧p.1∉X.fs∧∀ v,p.2.data≠.cell v
 hok:HOk X.prog X.w H s.heap
 len:σ.length=X.N.length
section
variable {X:Cx} {pins:List (Addr×Obj)} {σ:List (Option V)} {H H':Hp} {s:Shared} {h':Heap}
theorem Cx.Ok.nofr (ok:X.Ok) {b:Addr} {o:Obj} (e:X.base.get? b=some o):b∉X.fs:=fun hb=>by
 have:=(ok.funs.mem hb).1
 rw [e] at this; cases this
theorem Inv.bs (I:Inv X pins σ H s):∀ b o,X.base.get? b=some o→s.heap.get? b=some o∧H b=none:=fun b o e =>
 ⟨I.base.keep b o (I.ok.bs b o e).1 (I.ok.bs b o e).2 (I.ok.nofr e) (I.ok.noex b o e),I.base.free b o (I.ok.bs b o e).1 (I.ok.bs b o e).2 (I.ok.noex b o e)⟩
theorem Inv.bk (I:Inv X pins σ H s):∀ b o,X.base.get? b=some o→s.heap.get? b=some o:=fun b o e=>(I.bs b o e).1
theorem Inv.mod (I:Inv X pins σ H s):Mod X.K X.mg X.base:=I.ok.mod
theorem Inv.kIn (I:Inv X pins σ H s):X.K.In s.heap:=I.ok.mod.kin.keeps I.bk
theorem Inv.lt (I:Inv X pins σ H s):X.env.locals<s.heap.objs.size:=let ⟨_,hn,_⟩:=I.loc; hn.lt
theorem Inv.sz (I:Inv X pins σ H s):X.s₀.heap.objs.size≤s.heap.objs.size:=Nat.le_trans I.ok.above (Nat.le_of_lt I.lt)
theorem Inv.nofs (I:Inv X pins σ H s) {a:Addr} (h:s.heap.objs.size≤a):a∉X.fs:=fun hb=>by
 obtain ⟨_,o,ho,_⟩:=I.ok.funs.mem hb
 exact absurd (Nat.lt_of_lt_of_le (Heap.lt_size ho) (Nat.le_trans I.sz h)) (Nat.lt_irrefl _)
theorem Inv.cne (I:Inv X pins σ H s):∀ x c,X.env.cells.lookup x=some c→c≠X.env.locals:=fun x c e z=>by
 obtain ⟨v,o,ho,hd⟩:=I.cell x c e
 obtain ⟨m,⟨o',es,ep,ho',hd',_⟩,_⟩:=I.loc
 rw [z,ho'] at ho; cases ho; rw [hd'] at hd; cases hd
theorem Inv.funs (I:Inv X pins σ H s):s.heap.FunFrames X.base X.outer:=by
 have all:∀ (l:List Env),(∀ b∈frs l,b∈X.fs)→X.s₀.heap.FunFrames X.base l→s.heap.FunFrames X.base l:=by
  intro l
  induction l with
  | nil => intro _ _; trivial
  | cons env r ih =>
   intro hs hl
   obtain ⟨hk,⟨L,o,hf,hn,ho,hd⟩,hr⟩:=hl
   have hL:L∈X.fs:=hs L (by unfold frs; rw [List.filterMap_cons,hf]; exact List.mem_cons_self)
   obtain ⟨sl,e⟩:=I.base.slot L o ho (I.ok.frf L hL) hL fun z=>I.ok.exfs L z hL
   exact ⟨hk,⟨L,_,hf,hn,e,hd⟩,ih (fun b hb=>hs b (by unfold frs; rw [List.filterMap_cons,hf]; exact List.mem_cons_of_mem _ hb)) hr⟩
 exact all X.outer (fun _ hb=>hb) I.ok.funs
theorem Inv.stack (I:Inv X pins σ H s):s.heap.FunFrames X.base X.stack:=by
 rcases I.ok.stk with e | ⟨e,hf⟩
 ·rw [e]; exact I.funs
 ·rw [e]
  obtain ⟨m,hn,_⟩:=I.loc
  refine .cons (by rw [I.ok.kind]; decide) hf hn ?_ I.funs
  exact Heap.get?_none_of_le (Nat.le_trans I.ok.bsz I.ok.above)
theorem Inv.stkSub (I:Inv X pins σ H s):∀ b∈frs X.stack,b∈X.env.locals::X.fs:=fun b hb=>by
 rcases I.ok.stk with e | ⟨e,hf⟩
 ·rw [e] at hb; exact List.mem_cons_of_mem _ hb
 ·rw [e] at hb
  unfold frs at hb
  rw [List.filterMap_cons,hf] at hb
  exact hb
theorem Inv.stkFree (I:Inv X pins σ H s):∀ b∈frs X.stack,H b=none:=fun b hb=>by
 rcases List.mem_cons.mp (I.stkSub b hb) with e | hb
 ·rw [e]; exact I.free
 ·obtain ⟨_,o,ho,_⟩:=I.ok.funs.mem hb
  exact I.base.free b o ho (I.ok.frf b hb) fun z=>I.ok.exfs b z hb
theorem Inv.step {g':Array GenState} {t':Nat} {d':Drawn} {ch:List Addr} (I:Inv X pins σ H s)
  (hch:∀ b∈ch,(b∈X.ex∨X.s₀.heap.objs.size≤b)∧b≠X.env.locals∧(∀ x c,X.env.cells.lookup x=some c→c≠b)∧∀ p∈X.pn++pins,p.1≠b)
  (keep:∀ b o,b≠X.env.locals→b∉X.fs→b∉ch→s.heap.get? b=some o→H b=none→h'.get? b=some o)
  (slot:∀ b o,b≠X.env.locals→b∈X.fs→b∉ch→s.heap.get? b=some o→H b=none→∃ sl,h'.get? b=some { o with slots:=sl }) (free:∀ b o,b∉ch→s.heap.get? b=some o→H b=none→H' b=none)
  (there:∀ b o,b∉ch→s.heap.get? b=some o→∃ o',h'.get? b=some o')
  (tups:∀ b xs,H b=some (.tup xs)→H' b=some (.tup xs)) (frzs:∀ b o u,H b=some (.frz o u)→H' b=some (.frz o u)) (tbls:∀ b ps,H b=some (.tbl ps)→∃ more,H' b=some (.tbl (ps++more)))
  (ns:∀ m,s.heap.Ns X.env.locals m→h'.Ns X.env.locals m) (hok:HOk X.prog X.w H' h') (hg:AllBare g') :
  Inv X pins σ H' { s with heap:=h',gens:=g',drawn:=d',toks:=t' }:=by
 have neL:∀ b o,X.s₀.heap.get? b=some o→b≠X.env.locals:=fun b o e=>Nat.ne_of_lt (Nat.lt_of_lt_of_le (Heap.lt_size e) I.ok.above)
 have neC:∀ b o,X.s₀.heap.get? b=some o→b∉X.ex→b∉ch:=fun b o e hx hb=>by
  rcases (hch b hb).1 with z | z
  ·exact hx z
  ·exact absurd (Nat.lt_of_lt_of_le (Heap.lt_size e) z) (Nat.lt_irrefl _)
 have cellK:∀ x c,X.env.cells.lookup x=some c→∀ v,s.heap.IsCell c v→h'.IsCell c v:=fun x c e v ⟨o,ho,hd⟩=>by
  have nch:c∉ch:=fun z=>(hch c z).2.2.1 x c e rfl
  by_cases hc:c∈X.fs
  ·obtain ⟨sl,q⟩:=slot c o (I.cne x c e) hc nch ho (I.freeC x c e)
   exact ⟨_,q,hd⟩
  ·exact ⟨o,keep c o (I.cne x c e) hc nch ho (I.freeC x c e),hd⟩
 refine ⟨I.ok,I.os,hg,⟨fun b o e n hb hx=>?_,fun b o e n hb hx=>?_,fun b o e n hx=>?_,fun b o e hx=>?_,fun b xs e=>tups b xs (I.base.tups b xs e),fun b o xs e=>frzs b o xs (I.base.frzs b o xs e),fun b ps e=>?_⟩,?_,fun x c e=>?_,?_,fun x c e=>?_,fun p hp=>?_,hok,I.len⟩
 ·exact keep b o (neL b o e) hb (neC b o e hx) (I.base.keep b o e n hb hx) (I.base.free b o e n hx)
 ·obtain ⟨sl,e1⟩:=I.base.slot b o e n hb hx
  obtain ⟨sl',e2⟩:=slot b _ (neL b o e) hb (neC b o e hx) e1 (I.base.free b o e n hx)
  exact ⟨sl',e2⟩
 ·obtain ⟨o',e1⟩:=I.base.there b o e hx
  exact free b o' (neC b o e hx) e1 (I.base.free b o e n hx)
 ·obtain ⟨o',e1⟩:=I.base.there b o e hx
  exact there b o' (neC b o e hx) e1
 ·obtain ⟨m1,e1⟩:=I.base.tbls b ps e
  obtain ⟨m2,e2⟩:=tbls b _ e1
  exact ⟨m1++m2,by rw [e2,Array.append_assoc]⟩
 ·obtain ⟨m,hn,hl⟩:=I.loc
  refine ⟨m,ns m hn,fun i x v e1 e2 e3=>?_⟩
  obtain ⟨u,r,l⟩:=hl i x v e1 e2 e3
  refine ⟨u,r,?_⟩
  rcases l with l | ⟨k,c,e,z⟩
  ·exact .inl l
  ·exact .inr ⟨k,c,e,cellK x c e _ z⟩
 ·obtain ⟨v,z⟩:=I.cell x c e
  exact ⟨v,cellK x c e v z⟩
 ·obtain ⟨m,⟨o,_,_,ho,_⟩,_⟩:=I.loc
  exact free _ o (fun z=>(hch _ z).2.1 rfl) ho I.free
 ·obtain ⟨v,o,ho,hd⟩:=I.cell x c e
  exact free c o (fun z=>(hch c z).2.2.1 x c e rfl) ho (I.freeC x c e)
 ·obtain ⟨e,n,ne,nf,d⟩:=I.pin p hp
  have nch:p.1∉ch:=fun z=>(hch p.1 z).2.2.2 p hp rfl
  exact ⟨keep p.1 p.2 ne nf nch e n,free p.1 p.2 nch e n,ne,nf,d⟩
theorem Inv.un {t':Nat} (I:Inv X pins σ H s) (u:Un X.fs [] H H' s.heap h') (hok:HOk X.prog X.w H' h'):Inv X pins σ H' { s with heap:=h',toks:=t' }:=by
 obtain ⟨m,⟨o,es,ep,ho,r⟩,_⟩:=id I.loc
 obtain ⟨sl,hL⟩:=u.any ho I.free (by simp)
 exact I.step (g':=s.gens) (d':=s.drawn) (ch:=[]) (fun _ z=>nomatch z) (fun b o _ hb _ e n=>u.keep b o e n hb (by simp)) (fun b o _ hb _ e n=>u.slot b o e n hb (by simp)) (fun b o _ e n=>u.free b o e n (by simp)) (fun b o _ e=>u.there b o e (by simp)) u.tups u.frzs u.tbls (fun m' hm=>by
  obtain ⟨o',es',ep',ho',r'⟩:=hm
  rw [ho] at ho'; cases ho'
  exact ⟨_,es',ep',hL,r'⟩) hok I.bare
theorem Inv.call {g':Array GenState} {t':Nat} {d':Drawn} {ch:List Addr} (I:Inv X pins σ H s) (u:Un (frs X.stack) ch H H' s.heap h') (hok:HOk X.prog X.w H' h') (hg:AllBare g')
  (hch:∀ b∈ch,(b∈X.ex∨X.s₀.heap.objs.size≤b)∧b≠X.env.locals∧(∀ x c,X.env.cells.lookup x=some c→c≠b)∧∀ p∈X.pn++pins,p.1≠b) :
  Inv X pins σ H' { s with heap:=h',gens:=g',drawn:=d',toks:=t' }:=by
 obtain ⟨m,⟨o,es,ep,ho,r⟩,_⟩:=id I.loc
 obtain ⟨sl,hL⟩:=u.any ho I.free fun z=>(hch _ z).2.1 rfl
 exact I.step (ch:=ch) hch (fun b o hL hb hc e n=>u.keep b o e n (fun z=>(List.mem_cons.mp (I.stkSub b z)).elim hL hb) hc) (fun b o _ _ hc e n=>u.any e n hc) (fun b o hc e n=>u.free b o e n hc) (fun b o hc e=>u.there b o e hc) u.tups u.frzs u.tbls (fun m' hm=>by
  obtain ⟨o',es',ep',ho',r'⟩:=hm
  rw [ho] at ho'; cases ho'
  exact ⟨_,es',ep',hL,r'⟩) hok hg
theorem Inv.turned {t':Nat} {it:Addr} (I:Inv X pins σ H s) (k:∀ b o,b≠it→s.heap.get? b=some o→h'.get? b=some o) (hn:H it=none) (hL:it≠X.env.locals)
  (h1:it∈X.ex∨X.s₀.heap.objs.size≤it) (h2:∀ x c,X.env.cells.lookup x=some c→c≠it) (h3:∀ p∈X.pn++pins,p.1≠it):Inv X pins σ H { s with heap:=h',toks:=t' }:=by
 have nit:∀ b u,H b=some u→b≠it:=fun b u e z=>by rw [z,hn] at e; cases e
 refine I.step (g':=s.gens) (d':=s.drawn) (ch:=[it]) (fun b hb=>?_) (fun b o _ _ hc e _=>k b o (fun z=>hc (by simp [z])) e) (fun b o _ _ hc e _=>⟨o.slots,k b o (fun z=>hc (by simp [z])) e⟩) (fun _ _ _ _ n=>n)
  (fun b o hc e=>⟨o,k b o (fun z=>hc (by simp [z])) e⟩) (fun _ _ e=>e) (fun _ _ _ e=>e) (fun b ps e=>⟨#[],by rw [e]; simp⟩) (fun m hm=>?_) (fun b u e=>?_) I.bare
 ·have e:b=it:=by simpa using hb
  subst e
  exact ⟨h1,hL,h2,h3⟩
 ·obtain ⟨o,es,ep,ho,r⟩:=hm
  exact ⟨o,es,ep,k _ o (Ne.symm hL) ho,r⟩
 ·refine (I.hok b u e).stay (fun c v hc q=>k c v ?_ q) (fun _ q=>q) fun _ _ q=>q
  rcases hc with z | z
  ·rw [z]; exact nit b u e
  ·exact nit c _ z
theorem Inv.tok (I:Inv X pins σ H s) (t:Nat):Inv X pins σ H { s with toks:=t }:=I.un (h':=s.heap) (t':=t) Un.refl I.hok
theorem Inv.kept {t':Nat} (I:Inv X pins σ H s) (k:∀ b u,s.heap.get? b=some u→h'.get? b=some u):Inv X pins σ H { s with heap:=h',toks:=t' }:=I.un (Un.kept k) (I.hok.kept k)
theorem Inv.laid {a:Addr} {o:HO} {t':Nat} (I:Inv X pins σ H s) (k:∀ b u,s.heap.get? b=some u→h'.get? b=some u) (hp:s.heap.objs.size≤a) (new:ObjOk X.prog X.w (upd H a o) h' a o) :
  Inv X pins σ (upd H a o) { s with heap:=h',toks:=t' }:=I.un (Un.laid k hp (I.hok.fresh hp)) (I.hok.laid k hp new)
theorem Inv.write {x e:Addr} {o:HO} {t':Nat} (I:Inv X pins σ H s) (mu:Mut (H x)) (he:e=x∨H e=some (.own x)) (k:∀ b u,b≠e→s.heap.get? b=some u→h'.get? b=some u) (heo:∃ u,h'.get? e=some u)
  (new:ObjOk X.prog X.w (upd H x o) h' x o):Inv X pins σ (upd H x o) { s with heap:=h',toks:=t' }:=I.un (Un.write mu he k heo) (I.hok.write mu he k heo new)
theorem Inv.pins_of {pins':List (Addr×Obj)} (I:Inv X pins σ H s) (h:∀ p∈pins',s.heap.get? p.1=some p.2∧H p.1=none∧p.1≠X.env.locals∧p.1∉X.fs∧∀ v,p.2.data≠.cell v):Inv X pins' σ H s :=
 ⟨I.ok,I.os,I.bare,I.base,I.loc,I.cell,I.free,I.freeC,fun p hp=>(List.mem_append.mp hp).elim (fun z=>I.pin p (List.mem_append_left _ z)) (h p),I.hok,I.len⟩
theorem nodup_ix {N:List Str} (hN:N.Nodup) {i j:Nat} {x:Str} (a:N[i]?=some x) (b:N[j]?=some x):i=j:=by
 obtain ⟨h1,e1⟩:=List.getElem?_eq_some_iff.mp a
 obtain ⟨h2,e2⟩:=List.getElem?_eq_some_iff.mp b
 exact (List.getElem_inj hN).mp (e1.trans e2.symm)
theorem store_ok2 {M:Model} {A:Around} {E:Value→Shared→Prop} {i:Nat} {x:Str} {v:V} {u:Value} {Q:Unit→Shared→Prop} (I:Inv X pins σ H s) (hN:X.N.Nodup) (hi:X.N[i]?=some x) (hx:Loc X.env.scope x) (r:RelV v u)
    (h:∀ s',Inv X pins (σ.set i (some v)) H s'→(∃ a,Heap.SameBut a s.heap s'.heap∧(a=X.env.locals∨X.env.cells.lookup x=some a))→Q () s') (hf:X.fn x=true∨X.env.scope.names.lookup x=some .local:=by first | exact .inl rfl | exact .inr rfl | assumption):wpAny M A (storeName X.env x u) Q E s:=by
  obtain ⟨m,hn,hl⟩:=id I.loc
  have hcls:(X.env.scope.kind==.class||(X.env.scope.kind==.module&&X.env.locals != X.env.globals))=false:=by rw [I.ok.kind]; rfl
  have hiσ:i<σ.length:=by rw [I.len]; exact (List.getElem?_eq_some_iff.mp hi).1
  have cne:=I.cne
  have tracked:∀ {a:Addr} {h':Heap},(∃ o,s.heap.get? a=some o∧H a=none)→Heap.SameBut a s.heap h'→HOk X.prog X.w H h':=fun {a h'} ha hs b ob e=>by
    obtain ⟨_,_,hfree⟩:=ha
    refine (I.hok b ob e).stay (fun c w' hc q=>(hs.2 c ?_).trans q) (fun _ q=>q) fun _ _ q=>q
    rintro rfl
    rcases hc with rfl | hc
    · rw [hfree] at e; cases e
    · rw [hfree] at hc; cases hc
  rcases hx with hk | hk
  · refine wpAny_storeName_local hk hn (fun h' hn' hs=>?_) hcls
    obtain ⟨oL,_,_,hoL,_⟩:=id hn
    refine h _ ⟨I.ok,I.os,I.bare,⟨fun b o e n hb hx=>?_,fun b o e n hb hx=>?_,I.base.free,fun b o e hx=>?_,I.base.tups,I.base.frzs,I.base.tbls⟩,⟨_,hn',fun j y v' e1 e2 e3=>?_⟩,fun y c e=>?_,I.free,I.freeC,fun p hp=>?_,tracked ⟨oL,hoL,I.free⟩ hs,by simpa using I.len⟩ ⟨_,hs,.inl rfl⟩
    · exact (hs.2 b (Nat.ne_of_lt (Nat.lt_of_lt_of_le (Heap.lt_size e) I.ok.above))).trans (I.base.keep b o e n hb hx)
    · obtain ⟨sl,e1⟩:=I.base.slot b o e n hb hx
      exact ⟨sl,(hs.2 b (Nat.ne_of_lt (Nat.lt_of_lt_of_le (Heap.lt_size e) I.ok.above))).trans e1⟩
    · obtain ⟨o',e1⟩:=I.base.there b o e hx
      exact ⟨o',(hs.2 b (Nat.ne_of_lt (Nat.lt_of_lt_of_le (Heap.lt_size e) I.ok.above))).trans e1⟩
    · by_cases hj:j=i
      · subst hj
        rw [hi] at e1; cases e1
        rw [List.getElem?_set_self hiσ] at e2
        cases e2
        exact ⟨u,r,.inl ⟨hk,by simp⟩⟩
      · rw [List.getElem?_set_ne (Ne.symm hj)] at e2
        obtain ⟨u',r',q⟩:=hl j y v' e1 e2 e3
        refine ⟨u',r',?_⟩
        rcases q with ⟨k,e⟩ | ⟨k,c,e,z⟩
        · refine .inl ⟨k,?_⟩
          have:y≠x:=fun e=>hj (nodup_ix hN e1 (e ▸ hi))
          simp [this,e]
        · exact .inr ⟨k,c,e,z.sameBut hs (cne y c e)⟩
    · obtain ⟨w',z⟩:=I.cell y c e
      exact ⟨w',z.sameBut hs (cne y c e)⟩
    · obtain ⟨e,n,ne,nf,d⟩:=I.pin p hp
      exact ⟨(hs.2 p.1 ne).trans e,n,ne,nf,d⟩
  · have hfn:X.fn x=true:=by
      rcases hf with z | z
      · exact z
      · rw [z] at hk; cases hk
    obtain ⟨c,hc⟩:=I.ok.has x (.inl hk)
    obtain ⟨w',z⟩:=I.cell x c hc
    refine wpAny_storeName_cell I.ok.kind hk hc z (fun h' hc' hs=>?_)
    obtain ⟨oc,hoc,hocd⟩:=id z
    refine h { s with heap:=h' } ⟨I.ok,I.os,I.bare,⟨fun b o e n hb hx=>?_,fun b o e n hb hx=>?_,I.base.free,fun b o e hx=>?_,I.base.tups,I.base.frzs,I.base.tbls⟩,⟨m,hn.sameBut hs (Ne.symm (cne x c hc)),fun j y v' e1 e2 e3=>?_⟩,fun y c' e=>?_,I.free,I.freeC,fun p hp=>?_,tracked ⟨oc,hoc,I.freeC x c hc⟩ hs,by simpa using I.len⟩ ⟨c,hs,.inr hc⟩
    · exact (hs.2 b (Nat.ne_of_lt (Nat.lt_of_lt_of_le (Heap.lt_size e) (I.ok.cab x c hfn hc)))).trans (I.base.keep b o e n hb hx)
    · obtain ⟨sl,e1⟩:=I.base.slot b o e n hb hx
      exact ⟨sl,(hs.2 b (Nat.ne_of_lt (Nat.lt_of_lt_of_le (Heap.lt_size e) (I.ok.cab x c hfn hc)))).trans e1⟩
    · obtain ⟨o',e1⟩:=I.base.there b o e hx
      exact ⟨o',(hs.2 b (Nat.ne_of_lt (Nat.lt_of_lt_of_le (Heap.lt_size e) (I.ok.cab x c hfn hc)))).trans e1⟩
    · by_cases hj:j=i
      · subst hj
        rw [hi] at e1; cases e1
        rw [List.getElem?_set_self hiσ] at e2
        cases e2
        exact ⟨u,r,.inr ⟨.inl hk,c,hc,hc'⟩⟩
      · rw [List.getElem?_set_ne (Ne.symm hj)] at e2
        obtain ⟨u',r',q⟩:=hl j y v' e1 e2 e3
        refine ⟨u',r',?_⟩
        rcases q with q | ⟨k,c',e,z'⟩
        · exact .inl q
        · refine .inr ⟨k,c',e,z'.sameBut hs ?_⟩
          rintro rfl
          exact hj (nodup_ix hN e1 (I.ok.inj _ _ _ e hc ▸ hi))
    · by_cases hcc:c'=c
      · subst hcc; exact ⟨_,hc'⟩
      · obtain ⟨w2,z2⟩:=I.cell y c' e
        exact ⟨w2,z2.sameBut hs hcc⟩
    · obtain ⟨e,n,ne,nf,d⟩:=I.pin p hp
      refine ⟨(hs.2 p.1 ?_).trans e,n,ne,nf,d⟩
      intro q
      rw [q,hoc] at e
      have q':oc=p.2:=Option.some.inj e
      exact d w' (by rw [← q']; exact hocd)
theorem store_ok {M:Model} {A:Around} {E:Value→Shared→Prop} {i:Nat} {x:Str} {v:V} {u:Value} {Q:Unit→Shared→Prop} (I:Inv X pins σ H s) (hN:X.N.Nodup) (hi:X.N[i]?=some x) (hx:Loc X.env.scope x) (r:RelV v u)
  (h:∀ s',Inv X pins (σ.set i (some v)) H s'→Q () s') (hf:X.fn x=true∨X.env.scope.names.lookup x=some .local:=by first | exact .inl rfl | exact .inr rfl | assumption):wpAny M A (storeName X.env x u) Q E s :=
 store_ok2 I hN hi hx r (fun s' I' _=>h s' I') hf
theorem Inv.call' {s':Shared} {ch:List Addr} (I:Inv X pins σ H s) (ho:s'.os=s.os) (u:Un (frs X.stack) ch H H' s.heap s'.heap) (hok:HOk X.prog X.w H' s'.heap) (hg:AllBare s'.gens)
  (hch:∀ b∈ch,(b∈X.ex∨X.s₀.heap.objs.size≤b)∧b≠X.env.locals∧(∀ x c,X.env.cells.lookup x=some c→c≠b)∧∀ p∈X.pn++pins,p.1≠b):Inv X pins σ H' s':=by
 obtain ⟨h',g',d',t',o'⟩:=s'
 have e:o'=s.os:=ho
 subst e
 exact I.call (g':=g') (t':=t') (d':=d') u hok hg hch
end
abbrev XK:=Value→Option Addr→Hp→Prop
abbrev St:=List (Option V)
abbrev VK:=V→Hp→Prop
abbrev TE:=St→Hp→VK→Prop
abbrev TT:=St→Hp→(Bool→Hp→Prop)→Prop
abbrev TA:=St→Hp→(List V→Hp→Prop)→Prop
structure Ends where
 nx:St→Hp→Prop
 rt:VK
 bk:St→Hp→Prop:=fun _ _=>False
 ct:St→Hp→Prop:=fun _ _=>False
abbrev TS:=Ends→St→Hp→Prop
def EP (X:Cx) (pins:List (Addr×Obj)) (σ:St) (Q:VK) (u:Value) (s':Shared):Prop:=∃ v H',Inv X pins σ H' s'∧RelV v u∧Q v H'
def TP (X:Cx) (pins:List (Addr×Obj)) (σ:St) (Q:Bool→Hp→Prop) (b:Bool) (s':Shared):Prop:=∃ H',Inv X pins σ H' s'∧Q b H'
def AP (X:Cx) (pins:List (Addr×Obj)) (σ:St) (Q:List V→Hp→Prop) (us:List Value) (s':Shared):Prop:=∃ vs H',Inv X pins σ H' s'∧Vals vs us∧Q vs H'
def SP (X:Cx) (pins:List (Addr×Obj)) (D:Ends) (f:Flow) (s':Shared):Prop :=
 match f with
 | .next=>∃ σ' H',Inv X pins σ' H' s'∧D.nx σ' H'
 | .brk=>∃ σ' H',Inv X pins σ' H' s'∧D.bk σ' H'
 | .cont=>∃ σ' H',Inv X pins σ' H' s'∧D.ct σ' H'
 | .ret u=>∃ v σ' H',Inv X pins σ' H' s'∧RelV v u∧D.rt v H'
def PE (X:Cx) (e:Expr) (t:TE):Prop :=
 ∀ (pins:List (Addr×Obj)) (s:Shared) (σ:St) (H:Hp) (Q:VK),Inv X pins σ H s→t σ H Q→wpAny (model X.prog X.w) X.A (eval e X.env) (EP X pins σ Q) X.xe s
def PT (X:Cx) (e:Expr) (t:TT):Prop :=
 ∀ (pins:List (Addr×Obj)) (s:Shared) (σ:St) (H:Hp) (Q:Bool→Hp→Prop),Inv X pins σ H s→t σ H Q→wpAny (model X.prog X.w) X.A (isTrue e X.env (eval e X.env)) (TP X pins σ Q) X.xe s
def PW (X:Cx) (e:Expr) (t:TT):Prop :=
 ∀ (whole:Sem Value) (pins:List (Addr×Obj)) (s:Shared) (σ:St) (H:Hp) (Q:Bool→Hp→Prop),Inv X pins σ H s→t σ H Q→wpAny (model X.prog X.w) X.A (isTrue e X.env whole) (TP X pins σ Q) X.xe s
theorem PW.pt {X:Cx} {e:Expr} {t:TT} (h:PW X e t):PT X e t:=h _
def PA (X:Cx) (es:List Expr) (t:TA):Prop :=
 ∀ (pos:Pos) (pins:List (Addr×Obj)) (s:Shared) (σ:St) (H:Hp) (Q:List V→Hp→Prop),Inv X pins σ H s→t σ H Q→wpAny (model X.prog X.w) X.A (spliced (backTo pos (starEach es X.env))) (AP X pins σ Q) X.xe s
def PS (X:Cx) (st:Stmt) (t:TS):Prop :=
 ∀ (pins:List (Addr×Obj)) (s:Shared) (σ:St) (H:Hp) (D:Ends),Inv X pins σ H s→t D σ H→wpAny (model X.prog X.w) X.A (exec st X.env) (SP X pins D) X.xe s
def PSs (X:Cx) (st:List Stmt) (t:TS):Prop :=
 ∀ (pins:List (Addr×Obj)) (s:Shared) (σ:St) (H:Hp) (D:Ends),Inv X pins σ H s→t D σ H→wpAny (model X.prog X.w) X.A (execs st X.env) (SP X pins D) X.xe s
theorem thn {α:Type} {t:Sem α} {Q Q':α→Shared→Prop} {M:Model} {A:Around} {E:Value→Shared→Prop} {s:Shared} (h:wpAny M A t Q E s) (hQ:∀ a s,Q a s→Q' a s):wpAny M A t Q' E s:=wpAny_mono h hQ fun _ _ x=>x
end L2
namespace L2
open PySem PySem.Spec PyProof.Rows
section
variable {X:Cx}
def tVar (i:Nat):TE:=fun σ H Q=>∃ v,σ[i]?=some (some v)∧Q v H
def tC (v:V):TE:=fun _ H Q=>Q v H
theorem pe_var {i:Nat} {x:Str} {pos:Pos} (hN:X.N[i]?=some x) (hv:Vis X.env.scope x) (hd:(x==("__debug__":Str))=false:=by decide) (hcd:(x==("__classdict__":Str))=false:=by decide):PE X (.Name x pos) (tVar i):=by
 intro pins s σ H Q I h
 obtain ⟨v,e,h⟩:=h
 obtain ⟨m,hn,hl⟩:=I.loc
 obtain ⟨u,r,l⟩:=hl i x v hN e hv
 have fin:EP X pins σ Q u s:=⟨v,H,I,r,h⟩
 rcases l with ⟨hk,hm⟩ | ⟨hk,c,hc,hcell⟩
 ·exact wpAny_Name (wpAny_loadName_local I.ok.kind hk hn hm fin) hd
 ·rcases hk with hk | hk
  ·exact wpAny_Name (wpAny_loadName_cell I.ok.kind hk hc hcell fin) hd
  ·exact wpAny_Name (wpAny_loadName_free I.ok.kind hk hc hcell fin hcd) hd
theorem pe_int {i j pos}:PE X (.Constant (.int i) j pos) (tC (.int i)):=fun _ _ _ H _ I h=>wpAny_Constant_int ⟨.int i,H,I.tok _,⟨_,rfl⟩,h⟩
theorem pe_bl {b j pos}:PE X (.Constant (.bool b) j pos) (tC (.bl b)):=fun _ _ _ H _ I h=>Constant_bool ⟨.bl b,H,I,rfl,h⟩
theorem pe_non {j pos}:PE X (.Constant .none j pos) (tC .non):=fun _ _ _ H _ I h=>Constant_none ⟨.non,H,I,rfl,h⟩
theorem pe_str {x j pos}:PE X (.Constant (.str x) j pos) (tC (.str x)):=fun _ _ _ H _ I h=>Calls.Constant_str ⟨.str x,H,I.tok _,⟨_,rfl⟩,h⟩
def Gl (X:Cx) (x:Str):Prop:=X.env.kindOf x=some .globalImplicit
theorem ld_glob {E:Value→Shared→Prop} {pins:List (Addr×Obj)} {s:Shared} {σ:St} {H:Hp} {x:Str} {u:Value} {pos:Pos} {Q:Value→Shared→Prop} (I:Inv X pins σ H s) (hg:Gl X x) (hm:X.mg x=some u) (h:Q u s)
  (hd:(x==("__debug__":Str))=false:=by decide):wpAny (model X.prog X.w) X.A (eval (.Name x pos) X.env) Q E s :=
 Calls.Name_function_global I.ok.kind hg (Calls.loadGlobal_global (by rw [I.ok.glob]; exact I.mod.glob.keeps I.bk) hm h) hd
theorem ld_blt {E:Value→Shared→Prop} {pins:List (Addr×Obj)} {s:Shared} {σ:St} {H:Hp} {x:Str} {u:Value} {pos:Pos} {Q:Value→Shared→Prop} (I:Inv X pins σ H s) (hg:Gl X x) (hm:X.mg x=none) (hv:bootBuiltins x=some u) (h:Q u s)
  (hn:x≠"__name__":=by decide) (hd:(x==("__debug__":Str))=false:=by decide):wpAny (model X.prog X.w) X.A (eval (.Name x pos) X.env) Q E s:=by
 obtain ⟨mb,h1,h2⟩:=I.mod.blt
 exact Calls.Name_function_global I.ok.kind hg (Calls.loadGlobal_builtin (by rw [I.ok.glob]; exact I.mod.glob.keeps I.bk) hm (by rw [I.ok.blt]; exact h1.keeps I.bk) ((h2 x hn).trans hv) h) hd
theorem pe_glob {x:Str} {v:V} {u:Value} {pos:Pos} (hg:Gl X x) (hm:X.mg x=some u) (r:RelV v u) (hd:(x==("__debug__":Str))=false:=by decide):PE X (.Name x pos) (tC v) :=
 fun _ _ _ H _ I h=>ld_glob I hg hm ⟨v,H,I,r,h⟩ hd
theorem pe_bltn {x:Str} {v:V} {u:Value} {pos:Pos} (hg:Gl X x) (hm:X.mg x=none) (hv:bootBuiltins x=some u) (r:RelV v u) (hn:x≠"__name__":=by decide) (hd:(x==("__debug__":Str))=false:=by decide):PE X (.Name x pos) (tC v) :=
 fun _ _ _ H _ I h=>ld_blt I hg hm hv ⟨v,H,I,r,h⟩ hn hd
variable {a b:Expr} {ta tb:TE} {pos:Pos}
def PC (X:Cx) (op:CmpOp) (a b:Expr) (t:TE):Prop :=
 ∀ (pins:List (Addr×Obj)) (s:Shared) (σ:St) (H:Hp) (Q:VK),Inv X pins σ H s→t σ H Q →
  wpAny (model X.prog X.w) X.A (eval a X.env) (fun v s₁=>wpAny (model X.prog X.w) X.A (eval b X.env) (fun u s₂=>wpAny (model X.prog X.w) X.A (compareOp op v u) (EP X pins σ Q) X.xe s₂) X.xe s₁) X.xe s
def tB (t:TE):TT:=fun σ H Q=>t σ H fun x H1=>∃ c,x=.bl c∧Q c H1
theorem pt_cmp {op:CmpOp} {t:TE} (h:PC X op a b t) (h1:behindInMarks op b=false:=by first | exact nobehind _ (by decide) (by decide) | rfl):PT X (.Compare a [op] [b] pos) (tB t):=by
 intro pins s σ H Q I hw
 refine wpAny_isTrue_Compare1 (thn (h pins s σ H _ I hw) fun v s1 h1=>thn h1 fun u s2 h2=>thn h2 fun c s3 ⟨x,H1,I1,r1,q1⟩=>?_) h1
 obtain ⟨d,rfl,q⟩:=q1
 cases r1
 exact wpAny_truthy_bool ⟨H1,I1,q⟩
theorem pt_val {e:Expr} {t:TE} (h:PE X e t) (he:∀ whole,isTrue e X.env whole=(do let v ← whole; standAt e.pos; holding [v] (truthy v)):=by intro _; rfl):PT X e (tB t):=by
 intro pins s σ H Q I hw
 refine isTrue_plain (thn (h pins s σ H _ I hw) fun v s1 ⟨x,H1,I1,r1,q1⟩=>?_) (he _)
 obtain ⟨d,rfl,q⟩:=q1
 cases r1
 exact wpAny_truthy_bool ⟨H1,I1,q⟩
variable {tA tB':TT} {rest:List Expr}
def tAnd (t u:TT):TT:=fun σ H Q=>t σ H fun c H1=>if c=true then u σ H1 Q else Q false H1
def tOr (t u:TT):TT:=fun σ H Q=>t σ H fun c H1=>if c=true then Q true H1 else u σ H1 Q
def tNot (t:TT):TT:=fun σ H Q=>t σ H fun c H1=>Q (!c) H1
theorem pw_and1 (ha:PT X a tA):PW X (.BoolOp .And [a] pos) tA:=by
 intro wh pins s σ H Q I h
 refine isTrue_and (thn (ha pins s σ H Q I h) fun c s1 e=>?_)
 cases c with
 | true=>exact isTrue_and_nil e
 | false=>exact e
theorem pw_or1 (ha:PT X a tA):PW X (.BoolOp .Or [a] pos) tA:=by
 intro wh pins s σ H Q I h
 refine isTrue_or (thn (ha pins s σ H Q I h) fun c s1 e=>?_)
 cases c with
 | false=>exact isTrue_or_nil e
 | true=>exact e
theorem pw_and (ha:PT X a tA) (hb:PW X (.BoolOp .And (b::rest) pos) tB'):PW X (.BoolOp .And (a::b::rest) pos) (tAnd tA tB'):=by
 intro wh pins s σ H Q I h
 refine isTrue_and (thn (ha pins s σ H _ I h) fun c s1 ⟨H1,I1,q1⟩=>?_)
 cases c with
 | true=>exact hb wh pins s1 σ H1 Q I1 q1
 | false=>exact ⟨H1,I1,q1⟩
theorem pw_or (ha:PT X a tA) (hb:PW X (.BoolOp .Or (b::rest) pos) tB'):PW X (.BoolOp .Or (a::b::rest) pos) (tOr tA tB'):=by
 intro wh pins s σ H Q I h
 refine isTrue_or (thn (ha pins s σ H _ I h) fun c s1 ⟨H1,I1,q1⟩=>?_)
 cases c with
 | true=>exact ⟨H1,I1,q1⟩
 | false=>exact hb wh pins s1 σ H1 Q I1 q1
theorem pt_not (ha:PT X a tA):PT X (.UnaryOp .Not a pos) (tNot tA):=by
 intro pins s σ H Q I h
 exact isTrue_not (ha pins s σ H (fun c H1=>Q (!c) H1) I h)
def tAndV (ta tb:TE):TE:=fun σ H Q=>ta σ H fun x H1=>∃ c,x=.bl c∧if c=true then tb σ H1 Q else Q (.bl false) H1
def tNotV (ta:TE):TE:=fun σ H Q=>ta σ H fun x H1=>∃ c,x=.bl c∧Q (.bl (!c)) H1
theorem pe_one {op} {t:TE} (h:PE X a t):PE X (.BoolOp op [a] pos) t:=fun pins s σ H Q I hw=>BoolOp_one (h pins s σ H Q I hw)
theorem pe_and (ha:PE X a ta) (hb:PE X (.BoolOp .And (b::rest) pos) tb):PE X (.BoolOp .And (a::b::rest) pos) (tAndV ta tb):=by
 intro pins s σ H Q I h
 refine BoolOp_and (thn (ha pins s σ H _ I h) fun v s1 ⟨x,H1,I1,r1,q1⟩=>?_)
 obtain ⟨c,rfl,q1⟩:=q1
 cases r1
 refine wpAny_truthy_bool ?_
 cases c with
 | true=>exact hb pins s1 σ H1 Q I1 q1
 | false=>exact ⟨.bl false,H1,I1,rfl,q1⟩
theorem pe_not (ha:PE X a ta):PE X (.UnaryOp .Not a pos) (tNotV ta):=by
 intro pins s σ H Q I h
 refine UnaryOp_ (thn (ha pins s σ H _ I h) fun v s1 ⟨x,H1,I1,r1,q1⟩=>?_)
 obtain ⟨c,rfl,q1⟩:=q1
 cases r1
 exact not_of (wpAny_truthy_bool ⟨.bl (!c),H1,I1,rfl,q1⟩)
end
end L2
namespace L2
open PySem PySem.Spec PyProof.Rows
def SqL (K:PySem.W.Frag) (H:Hp) (a:Addr) (xs:List V):Prop :=
 Rd H a (.lst xs) ∨
  ∃ (o:Obj) (its:Array Value) (n:Nat),K.lookup a=some o∧o.cls=.type "list"∧o.dict=none∧o.data=.seq its n∧its.size≤sizeLine∧Vals xs its.toList
def SqT (K:PySem.W.Frag) (H:Hp) (a:Addr) (xs:List V):Prop :=
 Rd H a (.tup xs) ∨
  ∃ (o:Obj) (its:Array Value) (n:Nat),K.lookup a=some o∧o.cls=.type "tuple"∧o.data=.seq its n∧its.size≤sizeLine∧Vals xs its.toList
def absV:Value→Option V
 | .none=>some .non
 | .bool b=>some (.bl b)
 | .int i _=>some (.int i)
 | .str x _=>some (.str x)
 | .bytes b _=>some (.byt b)
 | .float b _=>some (.flt b)
 | .ref a=>some (.ref a)
 | .type n=>some (.ty n)
 | _=>none
theorem RelV.abs {x:V} {u:Value} (r:RelV x u):absV u=some x:=by
 cases x with
 | non=>cases r; rfl
 | bl _=>cases r; rfl
 | int _=>obtain ⟨t,rfl⟩:=r; rfl
 | str _=>obtain ⟨t,rfl⟩:=r; rfl
 | byt _=>obtain ⟨t,rfl⟩:=r; rfl
 | flt _=>obtain ⟨t,rfl⟩:=r; rfl
 | ref _=>cases r; rfl
 | ty _=>cases r; rfl
theorem RelV.inj {x y:V} {u:Value} (r:RelV x u) (q:RelV y u):x=y:=Option.some.inj (r.abs.symm.trans q.abs)
theorem Vals.inj:∀ {xs ys:List V} {us:List Value},Vals xs us→Vals ys us→xs=ys
 | _,_,_,.nil,.nil=>rfl
 | _,_,_,.cons r t,.cons r' t'=>by rw [r.inj r',Vals.inj t t']
section
variable {X:Cx} {pins:List (Addr×Obj)} {σ:St} {H:Hp} {s:Shared} {a:Addr} {xs ys:List V}
theorem SqL.of {K:PySem.W.Frag} (h:H a=some (.lst xs)):SqL K H a xs:=.inl (.inl h)
theorem SqT.of {K:PySem.W.Frag} (h:H a=some (.tup xs)):SqT K H a xs:=.inl (.inl h)
theorem Inv.list (I:Inv X pins σ H s) (h:SqL X.K H a xs):∃ its:List Value,Vals xs its∧PlainL s.heap a its.toArray∧xs.length≤sizeLine:=by
 rcases h with h | ⟨o,its,n,hk,hc,hd,hs,hz,r⟩
 ·obtain ⟨z,its,n,r,e⟩:=h.ok I.hok
  exact ⟨its,r,⟨_,n,e,rfl,rfl,rfl⟩,z⟩
 ·refine ⟨its.toList,r,⟨o,n,I.kIn a o hk,hc,hd,by simpa using hs⟩,?_⟩
  have e:=r.length
  simp only [Array.length_toList] at e
  omega
theorem Inv.tuple (I:Inv X pins σ H s) (h:SqT X.K H a xs):∃ its:List Value,Vals xs its∧IsTup s.heap a its.toArray∧xs.length≤sizeLine:=by
 rcases h with h | ⟨o,its,n,hk,hc,hs,hz,r⟩
 ·obtain ⟨z,its,r,p⟩:=h.ok I.hok
  exact ⟨its,r,p,z⟩
 ·refine ⟨its.toList,r,⟨o,I.kIn a o hk,hc,n,by simpa using hs⟩,?_⟩
  have e:=r.length
  simp only [Array.length_toList] at e
  omega
theorem Inv.list_inj (I:Inv X pins σ H s) (h:SqL X.K H a xs) (h':SqL X.K H a ys):xs=ys:=by
 obtain ⟨its,r,⟨o,n,e,_,_,d⟩,_⟩:=I.list h
 obtain ⟨its',r',⟨o',n',e',_,_,d'⟩,_⟩:=I.list h'
 rw [e] at e'; cases e'
 rw [d] at d'
 injection d' with d1 _
 have:its=its':=by simpa using congrArg Array.toList d1
 subst this
 exact r.inj r'
theorem Inv.tuple_inj (I:Inv X pins σ H s) (h:SqT X.K H a xs) (h':SqT X.K H a ys):xs=ys:=by
 obtain ⟨its,r,⟨o,e,_,n,d⟩,_⟩:=I.tuple h
 obtain ⟨its',r',⟨o',e',_,n',d'⟩,_⟩:=I.tuple h'
 rw [e] at e'; cases e'
 rw [d] at d'
 injection d' with d1 _
 have:its=its':=by simpa using congrArg Array.toList d1
 subst this
 exact r.inj r'
end
abbrev Cx.wish (X:Cx) (E:Value→Shared→Prop):Cx:={ X with xe:=E }
abbrev Cx.nox (X:Cx):Cx:=X.wish fun _ _=>False
theorem Cx.Ok.wish {X:Cx} (ok:X.Ok) (E:Value→Shared→Prop):(X.wish E).Ok :=
 ⟨ok.mod,ok.kind,ok.glob,ok.blt,ok.above,ok.inj,ok.has,ok.cab,ok.hd,ok.frames,ok.stk,ok.exf,ok.bs,ok.bsz,ok.noex,ok.exfs,ok.funs,ok.frf⟩
theorem Cx.Ok.unwish {X:Cx} {E:Value→Shared→Prop} (ok:(X.wish E).Ok):X.Ok :=
 ⟨ok.mod,ok.kind,ok.glob,ok.blt,ok.above,ok.inj,ok.has,ok.cab,ok.hd,ok.frames,ok.stk,ok.exf,ok.bs,ok.bsz,ok.noex,ok.exfs,ok.funs,ok.frf⟩
section
variable {X:Cx} {pins:List (Addr×Obj)} {σ:St} {H:Hp} {s:Shared} {E:Value→Shared→Prop}
theorem Inv.wish (I:Inv X pins σ H s) (E:Value→Shared→Prop):Inv (X.wish E) pins σ H s:=⟨I.ok.wish E,I.os,I.bare,I.base,I.loc,I.cell,I.free,I.freeC,I.pin,I.hok,I.len⟩
theorem Inv.unwish (I:Inv (X.wish E) pins σ H s):Inv X pins σ H s:=⟨I.ok.unwish,I.os,I.bare,I.base,I.loc,I.cell,I.free,I.freeC,I.pin,I.hok,I.len⟩
theorem SP.unwish {D:Ends} {f:Flow} {s':Shared} (h:SP (X.wish E) pins D f s'):SP X pins D f s':=by
 cases f with
 | next=>obtain ⟨σ',H',I,q⟩:=h; exact ⟨σ',H',I.unwish,q⟩
 | brk=>obtain ⟨σ',H',I,q⟩:=h; exact ⟨σ',H',I.unwish,q⟩
 | cont=>obtain ⟨σ',H',I,q⟩:=h; exact ⟨σ',H',I.unwish,q⟩
 | ret u=>obtain ⟨v,σ',H',I,r,q⟩:=h; exact ⟨v,σ',H',I.unwish,r,q⟩
theorem PSs.nox {st:List Stmt} {t:TS} (h:PSs X.nox st t):PSs X st t:=fun pins s σ H D I hw =>
 wpAny_mono (h pins s σ H D (I.wish _) hw) (fun _ _ q=>q.unwish) fun _ _ z=>False.elim z
end
section
variable {X:Cx} {st:Stmt} {rest:List Stmt} {t u:TS} {e:Expr} {te:TE} {pos:Pos}
def tNext:TS:=fun D σ H=>D.nx σ H
def tSeq (t u:TS):TS:=fun D σ H=>t { D with nx:=u D } σ H
theorem pss_nil:PSs X [] tNext:=fun _ _ σ H _ I h=>wpAny_execs_nil ⟨σ,H,I,h⟩
theorem pss_cons (h1:PS X st t) (h2:PSs X rest u):PSs X (st::rest) (tSeq t u):=by
 intro pins s σ H D I h
 refine wpAny_execs_cons (thn (h1 pins s σ H { D with nx:=u D } I h) fun f s1 q=>?_)
 cases f with
 | next =>
  obtain ⟨σ',H',I',q⟩:=q
  exact h2 pins s1 σ' H' D I' q
 | ret v=>exact q
 | brk=>exact q
 | cont=>exact q
theorem pss_one (h1:PS X st t):PSs X [st] t:=by
 intro pins s σ H D I h
 refine wpAny_execs_cons (thn (h1 pins s σ H D I h) fun f s1 q=>?_)
 cases f with
 | next=>exact wpAny_execs_nil q
 | ret v=>exact q
 | brk=>exact q
 | cont=>exact q
theorem Inv.quiet {pins:List (Addr×Obj)} {σ:St} {H:Hp} {s:Shared} (I:Inv X pins σ H s):interactive X.env=false:=by simp [interactive,I.ok.kind]
def tDrop (te:TE):TS:=fun D σ H=>te σ H fun _ H1=>D.nx σ H1
theorem ps_expr (he:PE X e te) (hs:swapsWith e none pos.line X.env=pure false:=by rfl):PS X (.Expr e pos) (tDrop te):=by
 intro pins s σ H D I h
 exact wpAny_Expr_any (thn (he pins s σ H _ I h) fun v s1 ⟨x,H1,I1,r1,q1⟩=>⟨σ,H1,I1,q1⟩) I.quiet hs
def tRet (te:TE):TS:=fun D σ H=>te σ H D.rt
theorem ps_ret (he:PE X e te):PS X (.Return (some e) pos) (tRet te):=by
 intro pins s σ H D I h
 exact wpAny_Return_some (thn (he pins s σ H _ I h) fun v s1 ⟨x,H1,I1,r1,q1⟩=>⟨x,σ,H1,I1,r1,q1⟩)
def tIfS (c:TT) (t u:TS):TS:=fun D σ H=>c σ H fun b H1=>if b=true then t D σ H1 else u D σ H1
theorem ps_if {c:Expr} {a b:List Stmt} {tc:TT} (hc:PT X c tc) (ha:PSs X a t) (hb:PSs X b u):PS X (.If c a b pos) (tIfS tc t u):=by
 intro pins s σ H D I h
 refine wpAny_If (thn (hc pins s σ H _ I h) fun d s1 ⟨H1,I1,q1⟩=>?_)
 cases d with
 | true=>exact ha pins s1 σ H1 D I1 q1
 | false=>exact hb pins s1 σ H1 D I1 q1
def tNever:TS:=fun _ _ _=>False
theorem pss_never {sts:List Stmt}:PSs X sts tNever:=fun _ _ _ _ _ _ h=>h.elim
end
abbrev TG:=V→St→Hp→(St→Hp→Prop)→Prop
abbrev TGs:=List V→St→Hp→(St→Hp→Prop)→Prop
def PG (X:Cx) (target:Expr) (t:TG):Prop :=
 ∀ (pins:List (Addr×Obj)) (s:Shared) (σ:St) (H:Hp) (v:V) (u:Value) (Q:St→Hp→Prop),Inv X pins σ H s→RelV v u→t v σ H Q →
  wpAny (model X.prog X.w) X.A (assign target X.env u) (fun _ s'=>∃ σ' H',Inv X pins σ' H' s'∧Q σ' H') X.xe s
def PGs (X:Cx) (ts:List Expr) (t:TGs):Prop :=
 ∀ (pins:List (Addr×Obj)) (s:Shared) (σ:St) (H:Hp) (vs:List V) (us:List Value) (Q:St→Hp→Prop),Inv X pins σ H s→Vals vs us→t vs σ H Q →
  wpAny (model X.prog X.w) X.A (assignInOrder ((assignEach ts X.env).map (·.2)) us) (fun _ s'=>∃ σ' H',Inv X pins σ' H' s'∧Q σ' H') X.xe s
abbrev TSet:=V→V→V→Hp→(Hp→Prop)→Prop
def PSet (X:Cx) (t:TSet):Prop :=
 ∀ (pins:List (Addr×Obj)) (s:Shared) (σ:St) (H:Hp) (o i v:V) (ov iv u:Value) (Q:Hp→Prop),Inv X pins σ H s→RelV o ov→RelV i iv→RelV v u→t o i v H Q →
  wpAny (model X.prog X.w) X.A (setItem ov iv u) (fun _ s'=>∃ H',Inv X pins σ H' s'∧Q H') X.xe s
section
variable {X:Cx} {pos:Pos}
def gName (i:Nat):TG:=fun v σ H Q=>Q (σ.set i (some v)) H
theorem pg_name {i:Nat} {x:Str} (hN:X.N.Nodup) (hi:X.N[i]?=some x) (hx:Loc X.env.scope x) (hf:X.fn x=true∨X.env.scope.names.lookup x=some .local:=by first | exact .inl rfl | exact .inr rfl | assumption):PG X (.Name x pos) (gName i):=by
 intro pins s σ H v u Q I r h
 exact wpAny_assign_Name (store_ok I hN hi hx r (fun s' I'=>⟨_,H,I',h⟩) hf)
def gNil:TGs:=fun vs σ H Q=>vs=[]∧Q σ H
def gCons (t:TG) (u:TGs):TGs:=fun vs σ H Q=>∃ v r,vs=v::r∧t v σ H fun σ' H'=>u r σ' H' Q
theorem pgs_nil:PGs X [] gNil:=by
 intro pins s σ H vs us Q I r h
 obtain ⟨e,h⟩:=h
 subst e
 cases r
 exact assignInOrder_nil ⟨σ,H,I,h⟩
theorem pgs_cons {e:Expr} {es:List Expr} {t:TG} {u:TGs} (h1:PG X e t) (h2:PGs X es u)
  (hs:(assignEach (e::es) X.env).map (·.2)=assign e X.env::(assignEach es X.env).map (·.2):=by rfl):PGs X (e::es) (gCons t u):=by
 intro pins s σ H vs us Q I r h
 obtain ⟨v,vr,e1,h⟩:=h
 subst e1
 cases r with
 | cons r rr =>
  rw [hs]
  refine assignInOrder_cons (thn (h1 pins s σ H _ _ _ I r h) fun _ s1 ⟨σ1,H1,I1,q1⟩=>?_)
  exact h2 pins s1 σ1 H1 _ _ Q I1 rr q1
def gTup (K:PySem.W.Frag) (n:Nat) (t:TGs):TG:=fun v σ H Q=>∃ a xs,v=.ref a∧SqT K H a xs∧xs.length=n∧t xs σ H Q
theorem pg_tup {es:List Expr} {k:Nat} {t:TGs} {n:Nat} (hc:X.calm=true) (h:PGs X es t)
  (hn:(assignEach es X.env).length=n:=by rfl) (hst:(assignEach es X.env).findIdx? (·.1)=none:=by rfl):PG X (.Tuple es k pos) (gTup X.K n t):=by
 intro pins s σ H v u Q I r hw
 obtain ⟨a,xs,e1,hq,hl,hw⟩:=hw
 subst e1
 cases r
 obtain ⟨its,rv,ht,hz⟩:=I.tuple hq
 refine assign_Tuple_tuple (I.ok.hd hc) ht (by simp [hn,← hl,rv.length]) hst fun h' hx=>?_
 have I1:Inv X pins σ H { s with heap:=h' }:=I.kept (t':=s.toks) fun b o e=>hx b o (Nat.ne_of_lt (Heap.lt_size e)) e
 exact h pins _ σ H xs _ Q I1 (by simpa using rv) hw
def gSub (to ti:TE) (t:TSet):TG:=fun v σ H Q=>to σ H fun o H1=>ti σ H1 fun i H2=>t o i v H2 fun H3=>Q σ H3
theorem pg_sub {o i:Expr} {to ti:TE} {t:TSet} (ho:PE X o to) (hi:PE X i ti) (hs:PSet X t)
  (ha:∀ v,assign (.Subscript o i pos) X.env v=(do
   let ov ← holding [v] (eval o X.env)
   let iv ← holding [v,ov] (eval i X.env)
   standAt pos
   holding [v,ov,iv] (setItem ov iv v)
   release [v,ov,iv] []):=by intro _; rfl):PG X (.Subscript o i pos) (gSub to ti t):=by
 intro pins s σ H v u Q I r h
 rw [ha]
 refine wpAny_bind (wpAny_holding (thn (ho pins s σ H _ I h) fun ov s1 ⟨x,H1,I1,r1,q1⟩=>?_))
 refine wpAny_bind (wpAny_holding (thn (hi pins s1 σ H1 _ I1 q1) fun iv s2 ⟨y,H2,I2,r2,q2⟩=>?_))
 refine wpAny_bind (wpAny_standAt (wpAny_bind (wpAny_holding (thn (hs pins s2 σ H2 x y v ov iv u _ I2 r1 r2 r q2) fun _ s3 ⟨H3,I3,q3⟩=>?_))))
 exact wpAny_release ⟨σ,H3,I3,q3⟩
def tAsg (te:TE) (g:TG):TS:=fun D σ H=>te σ H fun x H1=>g x σ H1 D.nx
theorem ps_asg {tg e:Expr} {te:TE} {g:TG} (he:PE X e te) (hg:PG X tg g) (hs:swapsWithSole [tg] e pos.line X.env=pure false:=by rfl) (hw:swappedStores [tg] e X.env=pure none:=by rfl)
  (h1:(assignEach [tg] X.env).map (·.2)=[assign tg X.env]:=by rfl):PS X (.Assign [tg] e pos) (tAsg te g):=by
 intro pins s σ H D I h
 refine wpAny_Assign_stores (thn (he pins s σ H _ I h) fun v s1 ⟨x,H1,I1,r1,q1⟩=>?_) hs hw
 rw [h1]
 exact thn (hg pins s1 σ H1 x v _ I1 r1 q1) fun _ s2 q=>q
theorem ps_set {i:Nat} {x:Str} {e:Expr} {te:TE} {pos':Pos} (hN:X.N.Nodup) (hi:X.N[i]?=some x) (hx:Loc X.env.scope x) (he:PE X e te) (hs:swapsWith e (some (.Name x pos')) pos.line X.env=pure false:=by rfl) (hf:X.fn x=true∨X.env.scope.names.lookup x=some .local:=by first | exact .inl rfl | exact .inr rfl | assumption) :
  PS X (.Assign [.Name x pos'] e pos) (tAsg te (gName i)):=by
 intro pins s σ H D I h
 refine wpAny_Assign_Name (thn (he pins s σ H _ I h) fun v s1 ⟨y,H1,I1,r1,q1⟩=>?_) hs
 exact store_ok I1 hN hi hx r1 (fun s2 I2=>⟨_,H1,I2,q1⟩) hf
end
section
variable {X:Cx} {pos:Pos}
def tWhile (c:TT) (tb:TS):TS:=fun D σ H=>∃ W:Nat→St→Hp→Prop,(∃ m,W m σ H)∧∀ m σ H,W m σ H →
 c σ H fun b H1=>if b=true then ∃ N:St→Hp→Prop,(∀ σ' H',N σ' H'→∃ m',m'<m∧W m' σ' H')∧tb { D with nx:=N,ct:=N,bk:=D.nx } σ H1 else D.nx σ H1
theorem ps_while {c:Expr} {body:List Stmt} {tc:TT} {tb:TS} (hp:PassesOwn (model X.prog X.w) X.A X.env X.xe) (hc:PT X c tc) (hb:PSs X body tb):PS X (.While c body [] pos) (tWhile tc tb):=by
 intro pins s σ H D I h
 obtain ⟨W,⟨m0,w0⟩,turn⟩:=h
 refine wpAny_While (codeAny_whileLoop (fun n s'=>∃ σ' H',Inv X pins σ' H' s'∧W n σ' H') ?_ m0 ⟨σ,H,I,w0⟩)
 rintro n s1 ⟨σ1,H1,I1,w1⟩
 refine wpAny_passesOwn hp (thn (hc pins s1 σ1 H1 _ I1 (turn n σ1 H1 w1)) fun b s2 ⟨H2,I2,q2⟩=>?_)
 cases b with
 | true =>
  obtain ⟨N,hN,q2⟩:=q2
  rw [if_pos rfl]
  refine wpAny_passesOwn hp (thn (hb pins s2 σ1 H2 _ I2 q2) fun f s3 q3=>?_)
  cases f with
  | next =>
   obtain ⟨σ3,H3,I3,n3⟩:=q3
   obtain ⟨m',hm,w3⟩:=hN σ3 H3 n3
   exact ⟨m',hm,σ3,H3,I3,w3⟩
  | cont =>
   obtain ⟨σ3,H3,I3,n3⟩:=q3
   obtain ⟨m',hm,w3⟩:=hN σ3 H3 n3
   exact ⟨m',hm,σ3,H3,I3,w3⟩
  | brk => exact q3
  | ret v => exact q3
 | false =>
  rw [if_neg Bool.false_ne_true]
  exact wpAny_execs_nil ⟨σ1,H2,I2,q2⟩
end
structure It where
 go:Nat→Hp→Prop
 yld:Nat→Hp→V→Hp→Prop
 stop:Nat→Hp→Prop
def FpOk (X:Cx) (pins:List (Addr×Obj)) (H:Hp) (b:Addr):Prop :=
 H b=none∧b≠X.env.locals∧b∉X.fs∧(b∈X.ex∨X.s₀.heap.objs.size≤b)∧(∀ x c,X.env.cells.lookup x=some c→c≠b)∧∀ p∈X.pn++pins,p.1≠b
theorem Inv.fpOk {X:Cx} {pins:List (Addr×Obj)} {σ:St} {H H':Hp} {s:Shared} {b:Addr} (I:Inv X pins σ H s) (hb:s.heap.objs.size≤b) (hn:H' b=none):FpOk X pins H' b:=by
 refine ⟨hn,Nat.ne_of_gt (Nat.lt_of_lt_of_le I.lt hb),I.nofs hb,.inr (Nat.le_trans I.sz hb),fun x c e z=>?_,fun p hp z=>?_⟩
 ·obtain ⟨v,q⟩:=I.cell x c e
  exact absurd (Nat.lt_of_lt_of_le q.lt (by rw [z]; exact hb)) (Nat.lt_irrefl _)
 ·exact absurd (Nat.lt_of_lt_of_le (Heap.lt_size (I.pin p hp).1) (by rw [z]; exact hb)) (Nat.lt_irrefl _)
structure Turn (P:Program) (w:World) (K:PySem.W.Frag) (tg:Expr) (J:It) (fp:List Addr) (it:Addr) (tn:Nat→Heap→Prop):Prop where
 mem:it∈fp
 obj:∀ i h,tn i h→∀ b∈fp,∃ o,h.get? b=some o∧∀ v,o.data≠.cell v
 keep:∀ i h h',tn i h→(∀ b∈fp,∀ o,h.get? b=some o→h'.get? b=some o)→tn i h'
 item:∀ (X:Cx),X.prog=P→X.w=w→X.K=K→X.calm=true→∀ (i:Nat) (pins:List (Addr×Obj)) (s:Shared) (σ:St) (H:Hp) (E:Value→Shared→Prop),Inv X pins σ H s→(∀ b∈fp,FpOk X pins H b)→tn i s.heap→J.go i H →
  wpAny (model P w) X.A (pyNext (.ref it)) (fun r s1=>∃ u,r=some u ∧
   wpAny (model P w) X.A (letOwnedTupleGo tg (.ref it) u) (fun _ s2=>∃ x H',Inv X pins σ H' s2∧RelV x u∧J.yld i H x H'∧tn (i+1) s2.heap∧∀ b∈fp,H' b=none) E s1) E s
 done:∀ (X:Cx),X.prog=P→X.w=w→X.K=K→X.calm=true→∀ (i:Nat) (pins:List (Addr×Obj)) (s:Shared) (σ:St) (H:Hp) (E:Value→Shared→Prop),Inv X pins σ H s→(∀ b∈fp,FpOk X pins H b)→tn i s.heap→J.stop i H →
  wpAny (model P w) X.A (pyNext (.ref it)) (fun r s1=>r=none∧Inv X pins σ H s1) E s
 self:∀ (A:Around) (i:Nat) (s:Shared) (Q:Value→Shared→Prop) (E:Value→Shared→Prop),tn i s.heap→Q (.ref it) s→wpAny (model P w) A (pyIter (.ref it)) Q E s
abbrev TI:=St→Hp→(It→Hp→Prop)→Prop
def PIE (X:Cx) (pins:List (Addr×Obj)) (σ:St) (tg:Expr) (R:It→Hp→Prop) (itv:Value) (s2:Shared):Prop :=
 ∃ (it:Addr) (fp:List Addr) (tn:Nat→Heap→Prop) (J:It) (H':Hp),itv=.ref it∧Inv X pins σ H' s2∧Turn X.prog X.w X.K tg J fp it tn∧tn 0 s2.heap∧(∀ b∈fp,FpOk X pins H' b)∧R J H'
def PI (X:Cx) (tg iter:Expr) (wi:TI):Prop :=
 ∀ (pins:List (Addr×Obj)) (s:Shared) (σ:St) (H:Hp) (R:It→Hp→Prop),Inv X pins σ H s→wi σ H R →
  wpAny (model X.prog X.w) X.A (eval iter X.env) (fun v s1=>wpAny (model X.prog X.w) X.A (pyIter v) (PIE X pins σ tg R) X.xe s1) X.xe s
theorem go_of {M:Model} {A:Around} {E:Value→Shared→Prop} {s:Shared} {tg:Expr} {it:Addr} {u:Value} {o:Obj} {n:String} {vs:Array Value} {Q:Unit→Shared→Prop} (ho:s.heap.get? it=some o) (hc:o.cls=.type n) (hd:o.data=.fields vs)
    (hn:["enumerate","zip","dict_itemiterator","dict_reverseitemiterator","odict_iterator","itertools.zip_longest","itertools.pairwise"].contains n=false) (hQ:Q () s):wpAny M A (letOwnedTupleGo tg (.ref it) u) Q E s:=by
  unfold letOwnedTupleGo
  cases tg<;>first
    | exact wpAny_pure hQ
    | (cases u<;>first
        | exact wpAny_pure hQ
        | (refine wpAny_bind (wpAny_load ho ?_)
           rw [hc,hd]
           show wpAny M A (if (["enumerate","zip","dict_itemiterator","dict_reverseitemiterator","odict_iterator","itertools.zip_longest","itertools.pairwise"].contains n&&vs[0]?==some (rawInt _))=true then _ else _) Q E s
           rw [if_neg (by intro h; rw [hn,Bool.false_and] at h; cases h)]
           exact wpAny_pure hQ))
def Itl (K:PySem.W.Frag) (a:Addr):It :=
 ⟨fun i H=>∃ xs x,SqL K H a xs∧xs[i]?=some x,fun i H x H'=>H'=H∧∀ xs,SqL K H a xs→xs[i]?=some x,fun i H=>∃ xs,SqL K H a xs∧xs.length≤i⟩
def Itr (lo:Int) (n:Nat):It:=⟨fun i _=>i<n,fun i H x H'=>H'=H∧x=.int (lo+i),fun i _=>n≤i⟩
theorem turn_list {P:Program} {w:World} {K:PySem.W.Frag} {tg:Expr} (a it:Addr):Turn P w K tg (Itl K a) [it] it (fun i h=>h.IsListIter it a i) where
 mem:=by simp
 obj:=fun i h st b hb=>by
  have e:b=it:=by simpa using hb
  subst e
  obtain ⟨o,e,c,d⟩:=st
  exact ⟨o,e,fun v z=>by rw [d] at z; cases z⟩
 keep:=fun i h h' st k=>st.at fun o e=>k it (by simp) o e
 item:=by
  intro X hP hw hK hc i pins s σ H E I hf st hg
  subst hP hw hK
  obtain ⟨xs,x,hq,hx⟩:=hg
  obtain ⟨its,rv,p,hz⟩:=I.list hq
  obtain ⟨u,hu,ru⟩:=rv.get hx
  obtain ⟨f0,f1,f2,f3,f4,f5⟩:=hf it (by simp)
  refine wpAny_pyNext_list_item st p.isList (x:=u) (by simpa using hu) fun h' st' sb=>?_
  have I1:Inv X pins σ H { s with heap:=h' }:=I.turned (t':=s.toks) (fun b o hb e=>(sb.2 b hb).trans e) f0 f1 f3 f4 f5
  obtain ⟨o,e,c,d⟩:=id st'
  exact ⟨u,rfl,go_of (s:={ s with heap:=h' }) e c d (by decide) ⟨x,H,I1,ru,⟨rfl,fun ys hy=>by rw [I.list_inj hy hq]; exact hx⟩,st',fun b hb=>(hf b hb).1⟩⟩
 done:=by
  intro X hP hw hK hc i pins s σ H E I hf st hg
  subst hP hw hK
  obtain ⟨xs,hq,hx⟩:=hg
  obtain ⟨its,rv,p,hz⟩:=I.list hq
  obtain ⟨f0,f1,f2,f3,f4,f5⟩:=hf it (by simp)
  have hl:=rv.length
  exact wpAny_pyNext_list_end (I.ok.hd hc) st p.isList (by simp; omega) fun h' eb=>⟨rfl,I.turned (t':=s.toks) (fun b o hb e=>eb b o hb e) f0 f1 f3 f4 f5⟩
 self:=fun _ _ _ _ _ st h=>wpAny_pyIter_listiter st h
theorem turn_range {P:Program} {w:World} {K:PySem.W.Frag} {tg:Expr} (it:Addr) (lo:Int) (n:Nat):Turn P w K tg (Itr lo n) [it] it (fun i h=>IsRangeIter h it (lo+(i:Nat)*1) ((n:Int) - (i:Nat)) 1) where
 mem:=by simp
 obj:=fun i h st b hb=>by
  have e:b=it:=by simpa using hb
  subst e
  exact ⟨_,st,fun v z=>by
   have z':Data.fields _=Data.cell v:=z
   cases z'⟩
 keep:=fun i h h' st k=>k it (by simp) _ st
 item:=by
  intro X hP hw hK hc i pins s σ H E I hf st hg
  subst hP hw hK
  obtain ⟨f0,f1,f2,f3,f4,f5⟩:=hf it (by simp)
  have W:=Walks.range (prog:=X.prog) (w:=X.w) (I.ok.hd hc) it lo 1 n
  refine W.item i s _ _ hg st fun v h' tk hv st' kk=>?_
  obtain ⟨t,rfl⟩:=hv
  have I1:Inv X pins σ H { s with heap:=h',toks:=tk }:=I.turned (fun b o hb e=>kk b o (by simpa using hb) e) f0 f1 f3 f4 f5
  refine ⟨_,rfl,go_of (s:={ s with heap:=h',toks:=tk }) (n:="range_iterator") st' rfl rfl (by decide) ⟨.int (lo+i),H,I1,⟨t,?_⟩,⟨rfl,rfl⟩,st',fun b hb=>(hf b hb).1⟩⟩
  rw [Int.mul_one]
 done:=by
  intro X hP hw hK hc i pins s σ H E I hf st hg
  subst hP hw hK
  obtain ⟨f0,f1,f2,f3,f4,f5⟩:=hf it (by simp)
  exact wpAny_pyNext_range_end (I.ok.hd hc) st (by have:n≤i:=hg; omega) fun h' eb=>⟨rfl,I.turned (t':=s.toks) (fun b o hb e=>eb b o hb e) f0 f1 f3 f4 f5⟩
 self:=fun _ _ _ _ _ st h=>wpAny_pyIter_rangeiter st h
end L2
namespace L2
open PySem PySem.Spec PyProof.Rows
section
variable {X:Cx} {tg:Expr}
def iList (K:PySem.W.Frag) (tl:TE):TI:=fun σ H R=>tl σ H fun x H1=>∃ a,x=.ref a∧(∃ xs,SqL K H1 a xs)∧R (Itl K a) H1
theorem pi_list {l:Expr} {tl:TE} (hl:PE X l tl):PI X tg l (iList X.K tl):=by
 intro pins s σ H R I h
 refine thn (hl pins s σ H _ I h) fun v s1 ⟨x,H1,I1,r1,q1⟩=>?_
 obtain ⟨a,e,⟨xs,hq⟩,q⟩:=q1
 subst e
 cases r1
 obtain ⟨its,rv,p,hz⟩:=I1.list hq
 refine wpAny_pyIter_list p.isList ?_
 refine ⟨s1.heap.objs.size,[s1.heap.objs.size],_,_,H1,rfl,I1.kept (t':=s1.toks) fun b o e=>Heap.get?_push_of_some _ e,turn_list a _,⟨_,Heap.get?_push_size _ rfl,rfl,rfl⟩,fun b hb=>?_,q⟩
 have e:b=s1.heap.objs.size:=by simpa using hb
 subst e
 exact I1.fpOk (Nat.le_refl _) (I1.hok.fresh (Nat.le_refl _))
theorem range_it {pins:List (Addr×Obj)} {σ:St} {H:Hp} {s:Shared} {R:It→Hp→Prop} {E:Value→Shared→Prop} {lo hi:Int} {t u v:Tok} {tk:Nat} (I:Inv X pins σ H s) (h1:-(2 ^ 62)≤lo) (h2:lo<2 ^ 62) (h3:-(2 ^ 62)≤hi) (h4:hi<2 ^ 62)
  (q:R (Itr lo (hi - lo).toNat) H):wpAny (model X.prog X.w) X.A (pyIter (.ref s.heap.objs.size)) (PIE X pins σ tg R) E { s with heap:=s.heap.push { cls:=.type "range",data:=.fields #[.int lo t,.int hi u,.int 1 v] },toks:=tk }:=by
 refine wpAny_pyIter_range (IsRange.new ..) (small_one h1 h2 h3 h4) ?_
 have I1:Inv X pins σ H { s with heap:=s.heap.push { cls:=.type "range",data:=.fields #[.int lo t,.int hi u,.int 1 v] },toks:=tk }:=I.kept fun b o e=>Heap.get?_push_of_some _ e
 refine ⟨(s.heap.push { cls:=.type "range",data:=.fields #[.int lo t,.int hi u,.int 1 v] }).objs.size,[(s.heap.push { cls:=.type "range",data:=.fields #[.int lo t,.int hi u,.int 1 v] }).objs.size],_,_,H,rfl,
  I1.kept (t':=tk) fun b o e=>Heap.get?_push_of_some _ e,turn_range _ lo (hi - lo).toNat,?_,fun b hb=>?_,q⟩
 ·have e1:lo+((0:Nat):Int)*1=lo:=by simp
  have e2:(((hi - lo).toNat:Nat):Int) - ((0:Nat):Int)=Builtin.Range.rangeSize lo hi 1:=by rw [rangeSize_one]; split<;>omega
  show IsRangeIter _ _ (lo+((0:Nat):Int)*1) ((((hi - lo).toNat:Nat):Int) - ((0:Nat):Int)) 1
  rw [e1,e2]
  exact Heap.get?_push_size _ rfl
 ·have e:b=(s.heap.push { cls:=.type "range",data:=.fields #[.int lo t,.int hi u,.int 1 v] }).objs.size:=by simpa using hb
  subst e
  exact I1.fpOk (Nat.le_refl _) (I1.hok.fresh (Nat.le_refl _))
def iRng1 (ta:TA):TI:=fun σ H R=>ta σ H fun vs H1=>∃ j:Int,vs=[.int j]∧-(2 ^ 62)≤j∧j<2 ^ 62∧R (Itr 0 j.toNat) H1
theorem pi_range1 {a:Expr} {ta:TA} {p pos:Pos} (hg:Gl X "range") (hm:X.mg "range"=none) (ha:PA X [a] ta) (hs:starEach [a] X.env=[(false,eval a X.env)]:=by rfl):PI X tg (.Call (.Name "range" p) [a] [] pos) (iRng1 ta):=by
 intro pins s σ H R I h
 refine Call_ (ld_blt I hg hm boot_range (PyProof.Rows.callWith_type1 (thn (ha pos pins s σ H _ I h) fun us s1 ⟨vs,H1,I1,r1,q1⟩=>?_) hs rfl))
 obtain ⟨j,e,q1,q2,q⟩:=q1
 subst e
 cases r1 with
 | cons r rr =>
  cases rr
  obtain ⟨t,rfl⟩:=r
  exact call_range_1 (range_it I1 (by omega) (by omega) q1 q2 (by simpa using q))
def tFor (wi:TI) (g:TG) (tb:TS):TS:=fun D σ H=>wi σ H fun J H1=>∃ W:Nat→Nat→St→Hp→Prop,(∃ m,W 0 m σ H1)∧∀ i m σ H,W i m σ H →
 (J.stop i H∧D.nx σ H)∨(J.go i H∧∃ N:St→Hp→Prop,(∀ σ' H',N σ' H'→∃ m',m'<m∧W (i+1) m' σ' H')∧∀ x H',J.yld i H x H'→g x σ H' fun σ2 H2=>tb { D with nx:=N,ct:=N,bk:=D.nx } σ2 H2)
def pinsAt (fp:List Addr) (h:Heap):List (Addr×Obj):=fp.filterMap fun b=>(h.get? b).map fun o=>(b,o)
theorem mem_pinsAt {fp:List Addr} {h:Heap} {b:Addr} {o:Obj} (hb:b∈fp) (e:h.get? b=some o):(b,o)∈pinsAt fp h:=List.mem_filterMap.mpr ⟨b,hb,by rw [e]; rfl⟩
theorem of_pinsAt {fp:List Addr} {h:Heap} {p:Addr×Obj} (hp:p∈pinsAt fp h):p.1∈fp∧h.get? p.1=some p.2:=by
 obtain ⟨b,hb,e⟩:=List.mem_filterMap.mp hp
 cases q:h.get? b with
 | none=>rw [q] at e; cases e
 | some o =>
  rw [q] at e
  have e':(b,o)=p:=Option.some.inj e
  subst e'
  exact ⟨hb,q⟩
theorem Inv.pinned {pins:List (Addr×Obj)} {σ:St} {H:Hp} {s:Shared} {fp:List Addr} (I:Inv X pins σ H s) (hf:∀ b∈fp,FpOk X pins H b) (ho:∀ b∈fp,∃ o,s.heap.get? b=some o∧∀ v,o.data≠.cell v):Inv X (pins++pinsAt fp s.heap) σ H s :=
 I.pins_of fun p hp=>(List.mem_append.mp hp).elim (fun z=>I.pin p (List.mem_append_right _ z)) fun z=>by
  obtain ⟨hb,e⟩:=of_pinsAt z
  obtain ⟨f0,f1,f2,_⟩:=hf p.1 hb
  obtain ⟨o,e',d⟩:=ho p.1 hb
  rw [e] at e'; cases e'
  exact ⟨e,f0,f1,f2,d⟩
theorem Inv.unpinned {pins pl:List (Addr×Obj)} {σ:St} {H:Hp} {s:Shared} (I:Inv X (pins++pl) σ H s):Inv X pins σ H s:=I.pins_of fun p hp=>I.pin p (List.mem_append_right _ (List.mem_append_left _ hp))
theorem ps_for {iter:Expr} {body:List Stmt} {wi:TI} {g:TG} {tb:TS} {pos:Pos} (hp:PassesOwn (model X.prog X.w) X.A X.env X.xe) (hc:X.calm=true) (hi:PI X tg iter wi) (hg:PG X tg g) (hb:PSs X body tb)
  (hs:∀ x,foldedSetIterable iter X.env x=pure x:=by intro _; rfl):PS X (.For tg iter body [] pos) (tFor wi g tb):=by
 intro pins s σ H D I h
 refine wpAny_For (thn (hi pins s σ H _ I h) fun v s1 h1=>thn h1 fun itv s2 h2=>?_) hs
 obtain ⟨it,fp,tn,J,H2,e,I2,T,st2,f2,W,⟨m0,w0⟩,turn⟩:=h2
 subst e
 -- what stays true of the iterator's objects through the loop
 have stat:∀ {H':Hp},(∀ b∈fp,H' b=none)→∀ b∈fp,FpOk X pins H' b:=fun hn b hb=>⟨hn b hb,(f2 b hb).2⟩
 refine codeAny_forLoop_any (fun n s'=>∃ i σ' H',Inv X pins σ' H' s'∧tn i s'.heap∧(∀ b∈fp,H' b=none)∧W i n σ' H') ?_ m0 ⟨0,σ,H2,I2,st2,fun b hb=>(f2 b hb).1,w0⟩
 rintro n s3 ⟨i,σ3,H3,I3,st3,fr3,w3⟩
 rcases turn i n σ3 H3 w3 with ⟨stop,qn⟩ | ⟨go,N,hN,step⟩
 ·refine wpAny_passesOwn hp (thn (T.done X rfl rfl rfl hc i pins s3 σ3 H3 X.xe I3 (stat fr3) st3 stop) fun r s4 ⟨hr,I4⟩=>?_)
  subst hr
  exact wpAny_execs_nil ⟨σ3,H3,I4,qn⟩
 ·refine wpAny_passesOwn hp (thn (T.item X rfl rfl rfl hc i pins s3 σ3 H3 X.xe I3 (stat fr3) st3 go) fun r s4 ⟨u,hr,h4⟩=>?_)
  subst hr
  refine wpAny_passesOwn hp (thn h4 fun _ s5 ⟨x,H5,I5,r5,y5,st5,fr5⟩=>?_)
  have I5':=I5.pinned (stat fr5) (T.obj _ _ st5)
  refine wpAny_passesOwn hp (thn (hg _ s5 σ3 H5 x u _ I5' r5 (step x H5 y5)) fun _ s6 ⟨σ6,H6,I6,q6⟩=>?_)
  refine wpAny_passesOwn hp (thn (hb _ s6 σ6 H6 _ I6 q6) fun f s7 q7=>?_)
  have again:∀ {σ7:St} {H7:Hp},Inv X (pins++pinsAt fp s5.heap) σ7 H7 s7→N σ7 H7→∃ m,m<n∧∃ i σ' H',Inv X pins σ' H' s7∧tn i s7.heap∧(∀ b∈fp,H' b=none)∧W i m σ' H':=fun {σ7 H7} I7 n7=>by
   obtain ⟨m',hm,w7⟩:=hN σ7 H7 n7
   refine ⟨m',hm,i+1,σ7,H7,I7.unpinned,T.keep _ _ _ st5 fun b hb o e=>(I7.pin (b,o) (List.mem_append_right _ (List.mem_append_right _ (mem_pinsAt hb e)))).1,fun b hb=>?_,w7⟩
   obtain ⟨o,e,d⟩:=T.obj _ _ st5 b hb
   exact (I7.pin (b,o) (List.mem_append_right _ (List.mem_append_right _ (mem_pinsAt hb e)))).2.1
  cases f with
  | next => obtain ⟨σ7, H7, I7, n7⟩ := q7; exact again I7 n7
  | cont => obtain ⟨σ7, H7, I7, n7⟩ := q7; exact again I7 n7
  | brk => obtain ⟨σ7, H7, I7, q7⟩ := q7; exact ⟨σ7, H7, I7.unpinned, q7⟩
  | ret v => obtain ⟨x7, σ7, H7, I7, r7, q7⟩ := q7; exact ⟨x7, σ7, H7, I7.unpinned, r7, q7⟩
end
theorem for_list {K:PySem.W.Frag} {a:Addr} {xs:List V} {g:TG} {tb:TS} {D:Ends} {σ:St} {H:Hp} (Pv:Nat→St→Hp→Prop) (h0:Pv 0 σ H) (hl:∀ i σ H,i≤xs.length→Pv i σ H→SqL K H a xs)
  (hs:∀ i x σ H,xs[i]?=some x→Pv i σ H→g x σ H fun σ2 H2=>tb { D with nx:=Pv (i+1),ct:=Pv (i+1),bk:=D.nx } σ2 H2) (hd:∀ σ H,Pv xs.length σ H→D.nx σ H) :
  ∃ W:Nat→Nat→St→Hp→Prop,(∃ m,W 0 m σ H)∧∀ i m σ H,W i m σ H →
   ((Itl K a).stop i H∧D.nx σ H)∨((Itl K a).go i H∧∃ N:St→Hp→Prop,(∀ σ' H',N σ' H'→∃ m',m'<m∧W (i+1) m' σ' H')∧∀ x H',(Itl K a).yld i H x H'→g x σ H' fun σ2 H2=>tb { D with nx:=N,ct:=N,bk:=D.nx } σ2 H2):=by
 refine ⟨fun i m σ H=>m=xs.length - i∧i≤xs.length∧Pv i σ H,⟨xs.length,by simp,Nat.zero_le _,h0⟩,?_⟩
 rintro i m σ H ⟨rfl,hi,p⟩
 have q:=hl i σ H hi p
 by_cases hlt:i<xs.length
 ·refine .inr ⟨⟨xs,xs[i],q,by simp [hlt]⟩,Pv (i+1),fun σ' H' p'=>⟨xs.length - (i+1),by omega,rfl,hlt,p'⟩,fun x H' y=>?_⟩
  obtain ⟨e,y⟩:=y
  subst e
  exact hs i x σ _ (y xs q) p
 ·have e:i=xs.length:=by omega
  subst e
  exact .inl ⟨⟨xs,q,Nat.le_refl _⟩,hd σ H p⟩
theorem for_range {lo:Int} {n:Nat} {g:TG} {tb:TS} {D:Ends} {σ:St} {H:Hp} (Pv:Nat→St→Hp→Prop) (h0:Pv 0 σ H)
  (hs:∀ i σ H,i<n→Pv i σ H→g (.int (lo+i)) σ H fun σ2 H2=>tb { D with nx:=Pv (i+1),ct:=Pv (i+1),bk:=D.nx } σ2 H2) (hd:∀ σ H,Pv n σ H→D.nx σ H) :
  ∃ W:Nat→Nat→St→Hp→Prop,(∃ m,W 0 m σ H)∧∀ i m σ H,W i m σ H →
   ((Itr lo n).stop i H∧D.nx σ H)∨((Itr lo n).go i H∧∃ N:St→Hp→Prop,(∀ σ' H',N σ' H'→∃ m',m'<m∧W (i+1) m' σ' H')∧∀ x H',(Itr lo n).yld i H x H'→g x σ H' fun σ2 H2=>tb { D with nx:=N,ct:=N,bk:=D.nx } σ2 H2):=by
 refine ⟨fun i m σ H=>m=n - i∧i≤n∧Pv i σ H,⟨n,by simp,Nat.zero_le _,h0⟩,?_⟩
 rintro i m σ H ⟨rfl,hi,p⟩
 by_cases hlt:i<n
 ·refine .inr ⟨hlt,Pv (i+1),fun σ' H' p'=>⟨n - (i+1),by omega,rfl,hlt,p'⟩,fun x H' y=>?_⟩
  obtain ⟨e,y⟩:=y
  subst e y
  exact hs i σ _ hlt p
 ·have e:i=n:=by omega
  subst e
  exact .inl ⟨Nat.le_refl _,hd σ H p⟩
end L2
namespace L2
open PySem PySem.Spec PyProof.Rows
abbrev R2:=V→V→Hp→VK→Prop
def OpR (X:Cx) (f:Value→Value→Sem Value) (r:R2):Prop :=
 ∀ (pins:List (Addr×Obj)) (s:Shared) (σ:St) (H:Hp) (x y:V) (v u:Value) (Q:VK),Inv X pins σ H s→RelV x v→RelV y u→r x y H Q →
  wpAny (model X.prog X.w) X.A (f v u) (EP X pins σ Q) X.xe s
def UnR (X:Cx) (f:Value→Sem Value) (r:V→Hp→VK→Prop):Prop :=
 ∀ (pins:List (Addr×Obj)) (s:Shared) (σ:St) (H:Hp) (x:V) (v:Value) (Q:VK),Inv X pins σ H s→RelV x v→r x H Q →
  wpAny (model X.prog X.w) X.A (f v) (EP X pins σ Q) X.xe s
def CallR (X:Cx) (f:Value) (r:List V→Hp→VK→Prop):Prop :=
 ∀ (pins:List (Addr×Obj)) (s:Shared) (σ:St) (H:Hp) (xs:List V) (us:List Value) (Q:VK),Inv X pins σ H s→Vals xs us→r xs H Q →
  wpAny (model X.prog X.w) X.A (call f us) (EP X pins σ Q) X.xe s
def tOp (r:R2) (ta tb:TE):TE:=fun σ H Q=>ta σ H fun x H1=>tb σ H1 fun y H2=>r x y H2 Q
def tUn (r:V→Hp→VK→Prop) (ta:TE):TE:=fun σ H Q=>ta σ H fun x H1=>r x H1 Q
def rI (C:Int→Int→Prop) (g:Int→Int→V):R2:=fun x y H Q=>∃ i j,x=.int i∧y=.int j∧C i j∧Q (g i j) H
def rI0 (g:Int→Int→V):R2:=fun x y H Q=>∃ i j,x=.int i∧y=.int j∧Q (g i j) H
def rU (g:Int→V):V→Hp→VK→Prop:=fun x H Q=>∃ i,x=.int i∧Q (g i) H
section
variable {X:Cx} {a b c:Expr} {ta tb tc:TE} {pos:Pos}
theorem binT (ha:PE X a ta) (hb:PE X b tb) {pins:List (Addr×Obj)} {s:Shared} {σ:St} {H:Hp} {R:V→V→Hp→Prop} (I:Inv X pins σ H s)
  (h:ta σ H fun x H1=>tb σ H1 fun y H2=>R x y H2) {Q:Value→Shared→Prop} {f:Value→Value→Sem Value}
  (hf:∀ v u s2 x y H2,Inv X pins σ H2 s2→RelV x v→RelV y u→R x y H2→wpAny (model X.prog X.w) X.A (f v u) Q X.xe s2) :
  wpAny (model X.prog X.w) X.A (eval a X.env) (fun v s₁=>wpAny (model X.prog X.w) X.A (eval b X.env) (fun u s₂=>wpAny (model X.prog X.w) X.A (f v u) Q X.xe s₂) X.xe s₁) X.xe s:=by
 refine thn (ha pins s σ H _ I h) fun v s1 ⟨x,H1,I1,r1,q1⟩=>?_
 refine thn (hb pins s1 σ H1 _ I1 q1) fun u s2 ⟨y,H2,I2,r2,q2⟩=>?_
 exact hf v u s2 x y H2 I2 r1 r2 q2
theorem pe_op {op:Operator} {r:R2} (ho:OpR X (binaryOp op) r) (ha:PE X a ta) (hb:PE X b tb):PE X (.BinOp a op b pos) (tOp r ta tb):=by
 intro pins s σ H Q I h
 exact wpAny_BinOp (binT ha hb I h fun v u s2 x y H2 I2 rx ry q=>ho pins s2 σ H2 x y v u Q I2 rx ry q)
theorem pe_un {op:UnaryOp} {r:V→Hp→VK→Prop} (ho:UnR X (unaryOp op) r) (ha:PE X a ta):PE X (.UnaryOp op a pos) (tUn r ta):=by
 intro pins s σ H Q I h
 exact UnaryOp_ (thn (ha pins s σ H _ I h) fun v s1 ⟨x,H1,I1,r1,q1⟩=>ho pins s1 σ H1 x v Q I1 r1 q1)
theorem opI {f:Value→Value→Sem Value} {C:Int→Int→Prop} {g:Int→Int→Int}
  (rule:∀ (i j:Int) (t u:Tok) (s:Shared) (Q:Value→Shared→Prop) (E:Value→Shared→Prop),C i j→Q (.int (g i j) s.toks) { s with toks:=s.toks+1 }→wpAny (model X.prog X.w) X.A (f (.int i t) (.int j u)) Q E s) :
  OpR X f (rI C fun i j=>.int (g i j)):=by
 intro pins s σ H x y v u Q I rx ry h
 obtain ⟨i,j,rfl,rfl,hc,q⟩:=h
 obtain ⟨t,rfl⟩:=rx
 obtain ⟨t',rfl⟩:=ry
 exact rule i j t t' s _ _ hc ⟨.int (g i j),H,I.tok _,⟨_,rfl⟩,q⟩
theorem opI0 {f:Value→Value→Sem Value} {g:Int→Int→Int}
  (rule:∀ (i j:Int) (t u:Tok) (s:Shared) (Q:Value→Shared→Prop) (E:Value→Shared→Prop),Q (.int (g i j) s.toks) { s with toks:=s.toks+1 }→wpAny (model X.prog X.w) X.A (f (.int i t) (.int j u)) Q E s) :
  OpR X f (rI0 fun i j=>.int (g i j)):=by
 intro pins s σ H x y v u Q I rx ry h
 obtain ⟨i,j,rfl,rfl,q⟩:=h
 obtain ⟨t,rfl⟩:=rx
 obtain ⟨t',rfl⟩:=ry
 exact rule i j t t' s _ _ ⟨.int (g i j),H,I.tok _,⟨_,rfl⟩,q⟩
theorem opB0 {f:Value→Value→Sem Value} {g:Int→Int→Bool}
  (rule:∀ (i j:Int) (t u:Tok) (s:Shared) (Q:Value→Shared→Prop) (E:Value→Shared→Prop),Q (.bool (g i j)) s→wpAny (model X.prog X.w) X.A (f (.int i t) (.int j u)) Q E s) :
  OpR X f (rI0 fun i j=>.bl (g i j)):=by
 intro pins s σ H x y v u Q I rx ry h
 obtain ⟨i,j,rfl,rfl,q⟩:=h
 obtain ⟨t,rfl⟩:=rx
 obtain ⟨t',rfl⟩:=ry
 exact rule i j t t' s _ _ ⟨.bl (g i j),H,I,rfl,q⟩
def CDiv (i j:Int):Prop:=0<j∧j<1073741824
def CPow (i j:Int):Prop:=0≤j∧j≤1000000∧i.natAbs<2 ^ 64
def CMul (i j:Int):Prop:=(-(2 ^ 64)<i∧i<2 ^ 64)∨(-(2 ^ 64)<j∧j<2 ^ 64)
theorem CMul.ok {i j:Int} (h:CMul i j):IntMulOk i j:=by
 rcases h with ⟨h1,h2⟩ | ⟨h1,h2⟩
 ·exact .of_left (intBits_le_64 h1 h2)
 ·exact .of_right (intBits_le_64 h1 h2)
theorem op_add:OpR X (binaryOp .Add) (rI0 fun i j=>.int (i+j)):=opI0 fun _ _ _ _ _ _ _ q=>add_int q
theorem op_sub:OpR X (binaryOp .Sub) (rI0 fun i j=>.int (i - j)):=opI0 fun _ _ _ _ _ _ _ q=>sub_int q
theorem op_mul:OpR X (binaryOp .Mult) (rI CMul fun i j=>.int (i*j)):=opI fun _ _ _ _ _ _ _ hc q=>mul_int q hc.ok
theorem op_fdiv:OpR X (binaryOp .FloorDiv) (rI CDiv fun i j=>.int (i / j)):=opI fun i j _ _ _ _ _ hc q=>by
 have h1:(0:Int)<j:=hc.1
 have h2:j<1073741824:=hc.2
 exact floordiv_int (by omega) (by rw [Int.fdiv_eq_ediv_of_nonneg i (by omega)]; exact q) (.inl (PyProof.noPylong_small (by omega)))
theorem op_mod:OpR X (binaryOp .Mod) (rI (fun _ j=>0<j) fun i j=>.int (i%j)):=opI fun i j _ _ _ _ _ hc q=>by
 have h1:(0:Int)<j:=hc
 exact mod_int' (by omega) (by rw [Int.fmod_eq_emod_of_nonneg i (by omega)]; exact q)
theorem op_pow:OpR X (binaryOp .Pow) (rI CPow fun i j=>.int (i ^ j.toNat)):=opI fun _ _ _ _ _ _ _ hc q=>pow_int_small hc.1 hc.2.1 hc.2.2 q
theorem unI {f:Value→Sem Value} {g:Int→Int}
  (rule:∀ (i:Int) (t:Tok) (s:Shared) (Q:Value→Shared→Prop) (E:Value→Shared→Prop),Q (.int (g i) s.toks) { s with toks:=s.toks+1 }→wpAny (model X.prog X.w) X.A (f (.int i t)) Q E s) :
  UnR X f (rU fun i=>.int (g i)):=by
 intro pins s σ H x v Q I rx h
 obtain ⟨i,rfl,q⟩:=h
 obtain ⟨t,rfl⟩:=rx
 exact rule i t s _ _ ⟨.int (g i),H,I.tok _,⟨_,rfl⟩,q⟩
theorem un_neg:UnR X (unaryOp .USub) (rU fun i=>.int (-i)):=unI fun _ _ _ _ _ q=>neg_int q
end
def scal:V→V→Bool
 | .non,.non=>true | .non,.int _=>true | .int _,.non=>true | .non,.bl _=>true | .bl _,.non=>true | .non,.str _=>true | .str _,.non=>true
 | .int _,.int _=>true | .bl _,.bl _=>true | .str _,.str _=>true | .byt _,.byt _=>true
 | .int _,.str _=>true | .str _,.int _=>true | .bl _,.str _=>true | .str _,.bl _=>true
 | _,_=>false
def rEq:R2:=fun x y H Q=>scal x y=true∧Q (.bl (decide (x=y))) H
def rNe:R2:=fun x y H Q=>scal x y=true∧Q (.bl (!decide (x=y))) H
theorem dec_int {i j:Int}:decide (V.int i=V.int j)=(i==j):=by
 rw [Bool.eq_iff_iff]
 simp
theorem dec_bl {i j:Bool}:decide (V.bl i=V.bl j)=(i==j):=by
 rw [Bool.eq_iff_iff]
 simp
theorem dec_str {i j:Str}:decide (V.str i=V.str j)=(i==j):=by
 rw [Bool.eq_iff_iff]
 simp
theorem dec_byt {i j:Array UInt8}:decide (V.byt i=V.byt j)=(i.toList==j.toList):=by
 rw [Bool.eq_iff_iff]
 cases i
 cases j
 simp
section
variable {X:Cx} {a b c:Expr} {ta tb tc:TE} {pos:Pos}
theorem fin_bl {pins:List (Addr×Obj)} {σ:St} {H:Hp} {s:Shared} {Q:VK} {k k':Bool} (I:Inv X pins σ H s) (q:Q (.bl k) H) (e:k=k'):EP X pins σ Q (.bool k') s:=by
 subst e
 exact ⟨.bl k,H,I,rfl,q⟩
theorem op_eq:OpR X (compareOp .Eq) rEq:=by
 intro pins s σ H x y v u Q I rx ry h
 obtain ⟨hs,q⟩:=h
 cases x with
 | non =>
  cases rx
  cases y with
  | non => cases ry; exact PySem.EqNone.eq_none_none (fin_bl I q (by simp))
  | bl j => cases ry; exact PySem.EqNone.eq_none_bool (fin_bl I q (by simp))
  | int j => obtain ⟨t', rfl⟩ := ry; exact PySem.EqNone.eq_none_int (fin_bl I q (by simp))
  | str j => obtain ⟨t', rfl⟩ := ry; exact PySem.EqNone.eq_none_str (fin_bl I q (by simp))
  | _ => exact absurd (show false = true from hs) Bool.false_ne_true
 | bl i =>
  cases rx
  cases y with
  | non => cases ry; exact PySem.EqNone.eq_bool_none (fin_bl I q (by simp))
  | bl j => cases ry; exact eq_bool (fin_bl I q dec_bl)
  | str j => obtain ⟨t', rfl⟩ := ry; exact PySem.EqMixed.eq_bool_str (fin_bl I q (by simp))
  | _ => exact absurd (show false = true from hs) Bool.false_ne_true
 | int i =>
  obtain ⟨t,rfl⟩:=rx
  cases y with
  | non => cases ry; exact PySem.EqNone.eq_int_none (fin_bl I q (by simp))
  | int j => obtain ⟨t', rfl⟩ := ry; exact eq_int (fin_bl I q dec_int)
  | str j => obtain ⟨t', rfl⟩ := ry; exact PySem.EqMixed.eq_int_str (fin_bl I q (by simp))
  | _ => exact absurd (show false = true from hs) Bool.false_ne_true
 | str i =>
  obtain ⟨t,rfl⟩:=rx
  cases y with
  | non => cases ry; exact PySem.EqNone.eq_str_none (fin_bl I q (by simp))
  | bl j => cases ry; exact PySem.EqMixed.eq_str_bool (fin_bl I q (by simp))
  | int j => obtain ⟨t', rfl⟩ := ry; exact PySem.EqMixed.eq_str_int (fin_bl I q (by simp))
  | str j => obtain ⟨t', rfl⟩ := ry; exact eq_str (fin_bl I q dec_str)
  | _ => exact absurd (show false = true from hs) Bool.false_ne_true
 | byt i =>
  obtain ⟨t,rfl⟩:=rx
  cases y with
  | byt j => obtain ⟨t', rfl⟩ := ry; exact PySem.W.eq_bytes (fin_bl I q dec_byt)
  | _ => exact absurd (show false = true from hs) Bool.false_ne_true
 | _=>cases y<;>exact absurd (show false=true from hs) Bool.false_ne_true
theorem op_ne:OpR X (compareOp .NotEq) rNe:=by
 intro pins s σ H x y v u Q I rx ry h
 obtain ⟨hs,q⟩:=h
 cases x with
 | non =>
  cases rx
  cases y with
  | non => cases ry; exact PySem.EqNone.ne_none_none (fin_bl I q (by simp))
  | bl j => cases ry; exact PySem.EqNone.ne_none_bool (fin_bl I q (by simp))
  | int j => obtain ⟨t', rfl⟩ := ry; exact PySem.EqNone.ne_none_int (fin_bl I q (by simp))
  | str j => obtain ⟨t', rfl⟩ := ry; exact PySem.EqNone.ne_none_str (fin_bl I q (by simp))
  | _ => exact absurd (show false = true from hs) Bool.false_ne_true
 | bl i =>
  cases rx
  cases y with
  | non => cases ry; exact PySem.EqNone.ne_bool_none (fin_bl I q (by simp))
  | bl j => cases ry; exact ne_bool (fin_bl I q (congrArg not dec_bl))
  | str j => obtain ⟨t', rfl⟩ := ry; exact PySem.EqMixed.ne_bool_str (fin_bl I q (by simp))
  | _ => exact absurd (show false = true from hs) Bool.false_ne_true
 | int i =>
  obtain ⟨t,rfl⟩:=rx
  cases y with
  | non => cases ry; exact PySem.EqNone.ne_int_none (fin_bl I q (by simp))
  | int j => obtain ⟨t', rfl⟩ := ry; exact ne_int (fin_bl I q (congrArg not dec_int))
  | str j => obtain ⟨t', rfl⟩ := ry; exact PySem.EqMixed.ne_int_str (fin_bl I q (by simp))
  | _ => exact absurd (show false = true from hs) Bool.false_ne_true
 | str i =>
  obtain ⟨t,rfl⟩:=rx
  cases y with
  | non => cases ry; exact PySem.EqNone.ne_str_none (fin_bl I q (by simp))
  | bl j => cases ry; exact PySem.EqMixed.ne_str_bool (fin_bl I q (by simp))
  | int j => obtain ⟨t', rfl⟩ := ry; exact PySem.EqMixed.ne_str_int (fin_bl I q (by simp))
  | str j => obtain ⟨t', rfl⟩ := ry; exact ne_str (fin_bl I q (congrArg not dec_str))
  | _ => exact absurd (show false = true from hs) Bool.false_ne_true
 | byt i =>
  obtain ⟨t,rfl⟩:=rx
  cases y with
  | byt j => obtain ⟨t', rfl⟩ := ry; exact PySem.W.ne_bytes (fin_bl I q (congrArg not dec_byt))
  | _ => exact absurd (show false = true from hs) Bool.false_ne_true
 | _=>cases y<;>exact absurd (show false=true from hs) Bool.false_ne_true
theorem op_lt:OpR X (compareOp .Lt) (rI0 fun i j=>.bl (decide (i<j))):=opB0 fun _ _ _ _ _ _ _ q=>lt_int q
theorem op_le:OpR X (compareOp .LtE) (rI0 fun i j=>.bl (decide (i≤j))):=opB0 fun _ _ _ _ _ _ _ q=>le_int q
theorem op_gt:OpR X (compareOp .Gt) (rI0 fun i j=>.bl (decide (j<i))):=opB0 fun _ _ _ _ _ _ _ q=>gt_int q
theorem op_isN:OpR X (compareOp .Is) (fun x y H Q=>y=.non∧Q (.bl (decide (x=.non))) H):=by
 intro pins s σ H x y v u Q I rx ry h
 obtain ⟨rfl,q⟩:=h
 cases ry
 refine is_none_gen (fin_bl I q ?_)
 cases x<;>first
  | (cases rx; rfl)
  | (obtain ⟨t, rfl⟩ := rx; rfl)
theorem nomark (b:Expr) {op:CmpOp} (h:op≠.In:=by decide) (h2:op≠.NotIn:=by decide):behindInMarks op b=false:=by
 have e1:(op==CmpOp.In)=false:=by cases op<;>first | rfl | exact absurd rfl h
 have e2:(op==CmpOp.NotIn)=false:=by cases op<;>first | rfl | exact absurd rfl h2
 cases b<;>simp [behindInMarks,e1,e2]
theorem pe_cmpR {op:CmpOp} {r:R2} (ho:OpR X (compareOp op) r) (ha:PE X a ta) (hb:PE X b tb) (hm:behindInMarks op b=false):PE X (.Compare a [op] [b] pos) (tOp r ta tb):=by
 intro pins s σ H Q I h
 exact wpAny_Compare1 (binT ha hb I h fun v u s2 x y H2 I2 rx ry q=>ho pins s2 σ H2 x y v u Q I2 rx ry q) hm
def tTest (t:TE):TT:=fun σ H Q=>t σ H fun x H'=>∃ k,x=.bl k∧Q k H'
theorem pt_cmpR {op:CmpOp} {r:R2} (ho:OpR X (compareOp op) r) (ha:PE X a ta) (hb:PE X b tb) (hm:behindInMarks op b=false):PT X (.Compare a [op] [b] pos) (tTest (tOp r ta tb)):=by
 intro pins s σ H Q I h
 refine wpAny_isTrue_Compare1 (thn (ha pins s σ H _ I h) fun v s1 ⟨x,H1,I1,r1,q1⟩=>thn (hb pins s1 σ H1 _ I1 q1) fun u s2 ⟨y,H2,I2,r2,q2⟩ =>
  thn (ho pins s2 σ H2 x y v u _ I2 r1 r2 q2) fun c s3 ⟨z,H3,I3,r3,k,e,q3⟩=>?_) hm
 subst e
 cases r3
 exact wpAny_truthy_bool ⟨H3,I3,q3⟩
def tChain (r r':R2) (ta tb tc:TE):TE:=fun σ H Q=>ta σ H fun x H1=>tb σ H1 fun y H2=>r x y H2 fun z H3=>∃ k,z=.bl k ∧
 (if k=true then tc σ H3 fun w' H4=>r' y w' H4 Q else Q (.bl false) H3)
theorem pe_chain {op op':CmpOp} {r r':R2} (ho:OpR X (compareOp op) r) (ho':OpR X (compareOp op') r') (ha:PE X a ta) (hb:PE X b tb) (hc:PE X c tc)
  (hm:lastMarks [op,op'] [b,c]=false:=by with_unfolding_all rfl):PE X (.Compare a [op,op'] [b,c] pos) (tChain r r' ta tb tc):=by
 intro pins s σ H Q I h
 refine Compare_chain (thn (ha pins s σ H _ I h) fun v s1 ⟨x,H1,I1,r1,q1⟩=>chain_link (thn (hb pins s1 σ H1 _ I1 q1) fun u s2 ⟨y,H2,I2,r2,q2⟩ =>
  thn (ho pins s2 σ H2 x y v u _ I2 r1 r2 q2) fun d s3 ⟨z,H3,I3,r3,k,e,q3⟩=>?_)) hm
 subst e
 cases r3
 refine wpAny_truthy_bool ?_
 cases k with
 | false=>exact ite_ff ⟨.bl false,H3,I3,rfl,q3⟩
 | true=>exact ite_tt (chain_last (thn (hc pins s3 σ H3 _ I3 q3) fun w' s4 ⟨z',H4,I4,r4,q4⟩=>ho' pins s4 σ H4 y z' u w' Q I4 r2 r4 q4))
theorem line63:(sizeLine:Nat)<2 ^ 63:=by rw [sizeLine_eq]; decide
theorem op_add_str:OpR X (binaryOp .Add) (fun x y H Q=>∃ i j,x=.str i∧y=.str j∧i.length+j.length≤sizeLine∧Q (.str (i++j)) H):=by
 intro pins s σ H x y v u Q I rx ry h
 obtain ⟨i,j,rfl,rfl,hz,q⟩:=h
 obtain ⟨t,rfl⟩:=rx
 obtain ⟨t',rfl⟩:=ry
 exact add_str (fun t' tk=>⟨.str (i++j),H,I.tok _,⟨_,rfl⟩,q⟩) hz
theorem vals1 {x:V} {us:List Value} (r:Vals [x] us):∃ u,us=[u]∧RelV x u:=by
 cases r with
 | cons r1 r2=>cases r2; exact ⟨_,rfl,r1⟩
theorem call_abs:CallR X (.builtin "abs") (fun xs H Q=>∃ i,xs=[.int i]∧Q (.int (if i<0 then -i else i)) H):=by
 intro pins s σ H xs us Q I r h
 obtain ⟨i,rfl,q⟩:=h
 obtain ⟨u,rfl,t,rfl⟩:=vals1 r
 exact call_abs_int fun u tk=>⟨.int (if i<0 then -i else i),H,I.tok _,⟨_,rfl⟩,q⟩
end
end L2
namespace L2
open PySem PySem.Spec PyProof.Rows
structure ObjM (h:Heap) (x dx C:Addr) (mA:Str→Option Value):Prop where
 obj:h.get? x=some (PySem.W.instObj C dx)
 ns:h.Ns1 dx mA
 ne:dx≠x
theorem lookIn_ns {h:Heap} {dx:Addr} {mA:Str→Option Value} (n:h.Ns1 dx mA):∃ od,h.get? dx=some od∧∀ name,PySem.W.lookIn name od=some (mA name):=by
 obtain ⟨o,es,ep,ho,hd,hk,_,hm⟩:=n
 refine ⟨o,ho,fun name=>?_⟩
 have e:=hm name
 unfold nsFind findBy at e
 rw [← Array.find?_toList] at e
 unfold PySem.W.lookIn
 rw [hd]
 dsimp only
 split
 ·rename_i y q
  rw [q] at e
  exact congrArg some e
 ·rename_i q
  rw [q] at e
  have a:es.toList.any (·.refKey)=false:=by
   rw [List.any_eq_false]
   intro y hy
   obtain ⟨z,t,hkey⟩:=hk y (Array.mem_toList_iff.mp hy)
   simp [DictEntry.refKey,hkey]
  have a':¬ es.toList.any (·.refKey)=true:=by rw [a]; exact Bool.false_ne_true
  rw [if_neg a']
  exact congrArg some e
theorem ObjM.look {h:Heap} {x dx C:Addr} {mA:Str→Option Value} (I:ObjM h x dx C mA):∃ od,PySem.W.InstAt h x (PySem.W.instObj C dx) C (some od)∧∀ name,PySem.W.lookIn name od=some (mA name) :=
 let ⟨od,ho,hl⟩:=lookIn_ns I.ns
 ⟨od,⟨I.obj,rfl,rfl,ho⟩,hl⟩
section
variable {prog:Program} {w:World} {A:Around} {E:Value→Shared→Prop} {s:Shared} {K:PySem.W.Frag} {x dx C f:Addr} {mA:Str→Option Value} {name:Str} {v:Value}
theorem get_map {expr:Bool} {Q:Value→Shared→Prop} (X:K.In s.heap) (I:ObjM s.heap x dx C mA) (hg:PySem.W.plainGet K C name=true) (hh:PySem.W.hasDictIn K C=true)
  (ha:PySem.W.findIn K (.ref C) name=some none) (hv:mA name=some v) (hv':PySem.W.handedIn v=true) (h:Q v { s with toks:=s.toks+1 }) :
  wpAny (model prog w) A (getAttr (.ref x) name expr) Q E s:=by
 obtain ⟨od,J,hl⟩:=I.look
 exact PySem.W.get_value X J (PySem.W.plainGet_of hg).1 (PySem.W.findObj_own hh ha rfl (by rw [hl,hv])) hv' h
theorem get_meth {pl:Sem Bool} {Q:Value×List Value→Shared→Prop} (X:K.In s.heap) (I:ObjM s.heap x dx C mA) (hg:PySem.W.plainGet K C name=true)
  (hf:PySem.W.findIn K (.ref C) name=some (some (.ref f))) (ht:PySem.W.isFn K (.ref f)=true) (hv:mA name=none) (h:Q (.ref f,[.ref x]) s) :
  wpAny (model prog w) A (getMethod (.ref x) name pl) Q E s:=by
 obtain ⟨od,J,hl⟩:=I.look
 exact PySem.W.method_fn X J (PySem.W.plainGet_of hg).1 (PySem.W.plainGet_of hg).2 hf (beq_iff_eq.mp ht) (by show (PySem.W.lookIn name od).map (·.isSome)=some false; rw [hl,hv]; rfl) h
theorem set_map {ns:List Str} {Q:Unit→Shared→Prop} (X:K.In s.heap) (I:ObjM s.heap x dx C mA)
  (hs:PySem.W.findIn K (.ref C) "__setattr__"=some (some (.builtin "object.__setattr__"))) (hp:PySem.W.plainOver K C=true) (ht:PySem.W.takerIn K C name=some none) (hh:PySem.W.hasDictIn K C=true)
  (hw:PySem.Within mA ns) (hsz:ns.length≤sizeLine)
  (h:∀ h',ObjM h' x dx C (fun y=>if y=name then some v else mA y)→Heap.SameBut dx s.heap h'→Q () { s with heap:=h',toks:=s.toks+2 }) :
  wpAny (model prog w) A (setAttr (.ref x) name v) Q E s:=by
 obtain ⟨od,J,hl⟩:=I.look
 refine PySem.W.set_plain X J hs (PySem.W.osa_open (s:={ s with toks:=s.toks+1 }) (r:=none) X J hp ht fun b=>?_)
 obtain ⟨cd,hc,hd'⟩:=PySem.W.any_some hh
 have hx:s.heap.get? x=some ⟨.ref C,some dx,.plain,#[]⟩:=I.obj
 refine wpAny_bind (wpAny_pure (wpAny_bind (wpAny_bind (wpAny_loadPart hx (wpAny_bind (PySem.W.Looks.here (s:={ s with toks:=s.toks+1 }) (PySem.W.looks_clsIn X hc) ?_))))))
 rw [hd']
 refine wpAny_pure (a:=some dx) (wpAny_bind (wpAny_pure (wpAny_bind ?_)))
 refine wpAny_nsSet1 (s:={ s with toks:=s.toks+1 }) I.ns fun h' hn2 hs2=>?_
 obtain ⟨oD,esD,epD,hoD,hdD,hcD⟩:=hn2.count (PySem.Within.cons name v hw)
 refine wpAny_bind (wpAny_lookBehind hoD (by rw [hdD]; exact pastItsLine_dict (Nat.le_trans hcD (by rw [List.length_cons]; omega))) ?_)
 exact wpAny_pure (h _ ⟨(hs2.2 _ (Ne.symm I.ne)).trans I.obj,hn2,I.ne⟩ hs2)
theorem make_map {R:Result→Shared→Prop} {vs:List Value} {kw:List (Str×Value)} (X:K.In s.heap) (hm:PySem.W.makesIn K C=true)
  (hi:PySem.W.findIn K (.ref C) "__init__"=some (some (.ref f))) (hf:PySem.W.typeIn K (.ref f)=some (.type "function"))
  (h:codeAny (model prog w) (A.under (.builtin "type.__call__" ⟨.ref C::vs,kw⟩)) (.call (.ref f) ⟨.ref (s.heap.objs.size+1)::vs,kw⟩) (PySem.W.InitBack (s.heap.objs.size+1) R)
   { s with heap:=(s.heap.push PySem.W.emptyDict).push (PySem.W.instObj C s.heap.objs.size) }) :
  codeAny (model prog w) A (.call (.ref C) ⟨vs,kw⟩) R s:=by
 obtain ⟨hh,g,d,t,os⟩:=s
 exact PySem.W.make_core (PySem.W.makes_of X hm) (PySem.W.looks_findIn X hi) (fun self=>PySem.W.bind_fn X self hf) (.inl rfl) h
end
def putF (f:Str) (v:V):List (Str×V)→List (Str×V)
 | []=>[(f,v)]
 | (g,x)::r=>if g=f then (g,v)::r else (g,x)::putF f v r
theorem lookup_putF (f g:Str) (v:V):∀ fs:List (Str×V),(putF f v fs).lookup g=if g=f then some v else fs.lookup g
 | []=>by
  show List.lookup g [(f,v)]=_
  by_cases h:g=f
  ·have hb:(g==f)=true:=beq_iff_eq.mpr h
   simp only [List.lookup,hb,if_pos h]
  ·have hb:(g==f)=false:=beq_eq_false_iff_ne.mpr h
   simp only [List.lookup,hb,if_neg h]
 | (k,x)::r=>by
  have ih:=lookup_putF f g v r
  rw [show putF f v ((k,x)::r)=(if k=f then (k,v)::r else (k,x)::putF f v r) from rfl]
  by_cases hk:k=f
  ·rw [if_pos hk]
   by_cases h:g=k
   ·have hb:(g==k)=true:=beq_iff_eq.mpr h
    simp only [List.lookup,hb,if_pos (h.trans hk)]
   ·have hb:(g==k)=false:=beq_eq_false_iff_ne.mpr h
    simp only [List.lookup,hb,if_neg (fun e:g=f=>h (e.trans hk.symm))]
  ·rw [if_neg hk]
   by_cases h:g=k
   ·have hb:(g==k)=true:=beq_iff_eq.mpr h
    simp only [List.lookup,hb,if_neg (fun e:g=f=>hk (h.symm.trans e))]
   ·have hb:(g==k)=false:=beq_eq_false_iff_ne.mpr h
    simp only [List.lookup,hb]
    exact ih
theorem keys_putF (f:Str) (v:V):∀ fs:List (Str×V),f∈(putF f v fs).map (·.1)∧∀ g,g∈fs.map (·.1)→g∈(putF f v fs).map (·.1)
 | []=>⟨by simp [putF],fun g h=>by simp at h⟩
 | (k,x)::r=>by
  obtain ⟨i1,i2⟩:=keys_putF f v r
  rw [show putF f v ((k,x)::r)=(if k=f then (k,v)::r else (k,x)::putF f v r) from rfl]
  by_cases hk:k=f
  ·rw [if_pos hk]
   subst hk
   exact ⟨by simp,fun g h=>by simpa using h⟩
  ·rw [if_neg hk]
   refine ⟨?_,fun g h=>?_⟩
   ·rw [List.map_cons]
    exact List.mem_cons_of_mem _ i1
   ·rw [List.map_cons] at h ⊢
    rcases List.mem_cons.mp h with e | e
    ·exact List.mem_cons.mpr (.inl e)
    ·exact List.mem_cons_of_mem _ (i2 g e)
theorem length_putF (f:Str) (v:V):∀ fs:List (Str×V),(putF f v fs).length≤fs.length+1
 | []=>by simp [putF]
 | (k,x)::r=>by
  have ih:=length_putF f v r
  rw [show putF f v ((k,x)::r)=(if k=f then (k,v)::r else (k,x)::putF f v r) from rfl]
  by_cases hk:k=f
  ·rw [if_pos hk,List.length_cons,List.length_cons]; omega
  ·rw [if_neg hk,List.length_cons,List.length_cons]; omega
theorem RelO.some_of {v:V} {o:Option Value} (r:RelO (some v) o):∃ u,o=some u∧RelV v u:=by
 cases o with
 | none=>exact (show False from r).elim
 | some u=>exact ⟨u,rfl,r⟩
theorem RelO.none_of {o:Option Value} (r:RelO none o):o=none:=by
 cases o with
 | none=>rfl
 | some u=>exact (show False from r).elim
theorem handed_of {v:V} {u:Value} (r:RelV v u):PySem.W.handedIn u=true:=by
 cases v with
 | non=>cases (show u=Value.none from r); rfl
 | bl b=>cases (show u=Value.bool b from r); rfl
 | int i=>obtain ⟨t,e⟩:=(show ∃ t,u=Value.int i t from r); cases e; rfl
 | str x=>obtain ⟨t,e⟩:=(show ∃ t,u=Value.str x t from r); cases e; rfl
 | byt b=>obtain ⟨t,e⟩:=(show ∃ t,u=Value.bytes b t from r); cases e; rfl
 | flt b=>obtain ⟨t,e⟩:=(show ∃ t,u=Value.float b t from r); cases e; rfl
 | ref a=>cases (show u=Value.ref a from r); rfl
 | ty n=>cases (show u=Value.type n from r); rfl
section
variable {P:Program} {w:World} {H H':Hp} {h h':Heap} {a C dx:Addr} {fs fs':List (Str×V)}
theorem ins_get (hok:HOk P w H h) (e:H a=some (.ins C dx fs)):∃ mA,ObjM h a dx C mA∧(∀ f,RelO (fs.lookup f) (mA f))∧PySem.Within mA (fs.map (·.1))∧fs.length≤1000∧H dx=some (.own a):=by
 obtain ⟨d,z,ne,ob,mA,n,r,q⟩:=(show ObjOk P w H h a (.ins C dx fs) from hok a _ e)
 exact ⟨mA,⟨ob,n,ne⟩,r,q,z,d⟩
end
structure Cls (K:PySem.W.Frag) (C:Addr):Prop where
 pg:PySem.W.plainGet K C Str.empty=true
 hd:PySem.W.hasDictIn K C=true
 po:PySem.W.plainOver K C=true
 sa:PySem.W.findIn K (.ref C) "__setattr__"=some (some (.builtin "object.__setattr__"))
theorem Cls.get {K:PySem.W.Frag} {C:Addr} (c:Cls K C) (f:Str):PySem.W.plainGet K C f=true:=c.pg
def NoAttr (K:PySem.W.Frag) (C:Addr) (f:Str):Prop:=PySem.W.findIn K (.ref C) f=some none
theorem NoAttr.taker {K:PySem.W.Frag} {C:Addr} {f:Str} (n:NoAttr K C f):PySem.W.takerIn K C f=some none:=by
 unfold PySem.W.takerIn
 rw [show PySem.W.findIn K (.ref C) f=some none from n]
 rfl
structure Con (K:PySem.W.Frag) (C:Addr) (f:Str) (v:V) (u:Value):Prop where
 at_:PySem.W.findIn K (.ref C) f=some (some u)
 rel:RelV v u
 get:PySem.W.specialIn K u "__get__"=some none
 cp:PySem.W.copiedNames.contains f=false
structure Meth (K:PySem.W.Frag) (C:Addr) (m:Str) (f:Addr):Prop where
 at_:PySem.W.findIn K (.ref C) m=some (some (.ref f))
 fn:PySem.W.isFn K (.ref f)=true
 kp:PySem.W.keepIn K (.ref f)=true
section
variable {X:Cx} {pins:List (Addr×Obj)} {σ:St} {H:Hp} {s:Shared} {a C dx:Addr} {fs:List (Str×V)} {f:Str} {v:V} {A:Around} {E:Value→Shared→Prop}
theorem getattr_ok {b:Bool} {Q:Value→Shared→Prop} (I:Inv X pins σ H s) (e:H a=some (.ins C dx fs)) (c:Cls X.K C) (n:NoAttr X.K C f) (l:fs.lookup f=some v)
  (h:∀ u s',Inv X pins σ H s'→RelV v u→Q u s'):wpAny (model X.prog X.w) A (getAttr (.ref a) f b) Q E s:=by
 obtain ⟨mA,O,r,_,_,_⟩:=ins_get I.hok e
 obtain ⟨u,hu,ru⟩:=RelO.some_of (v:=v) (o:=mA f) (by rw [← l]; exact r f)
 exact get_map I.kIn O (c.get f) c.hd n hu (handed_of ru) (h u _ (I.tok _) ru)
theorem getmeth_ok {m:Str} {g:Addr} {pl:Sem Bool} {Q:Value×List Value→Shared→Prop} (I:Inv X pins σ H s) (e:H a=some (.ins C dx fs)) (c:Cls X.K C) (k:Meth X.K C m g) (l:fs.lookup m=none)
  (h:Q (.ref g,[.ref a]) s):wpAny (model X.prog X.w) A (getMethod (.ref a) m pl) Q E s:=by
 obtain ⟨mA,O,r,_,_,_⟩:=ins_get I.hok e
 have hn:mA m=none:=RelO.none_of (by rw [← l]; exact r m)
 exact get_meth I.kIn O (c.get m) k.at_ k.fn hn h
theorem setattr_ok {y:V} {u:Value} {Q:Unit→Shared→Prop} (I:Inv X pins σ H s) (e:H a=some (.ins C dx fs)) (c:Cls X.K C) (n:NoAttr X.K C f) (hl:fs.length<1000) (ry:RelV y u)
  (h:∀ s',Inv X pins σ (upd H a (.ins C dx (putF f y fs))) s'→Q () s'):wpAny (model X.prog X.w) A (setAttr (.ref a) f u) Q E s:=by
 obtain ⟨mA,O,r,wi,_,ho⟩:=ins_get I.hok e
 have hz:(fs.map (·.1)).length≤sizeLine:=by rw [List.length_map,sizeLine_eq]; omega
 refine set_map I.kIn O c.sa c.po n.taker c.hd wi hz fun h' O' sb=>h _ ?_
 have hd:∃ o,h'.get? dx=some o:=let ⟨o,_,_,e',_⟩:=O'.ns; ⟨o,e'⟩
 refine I.write (x:=a) (e:=dx) (by rw [e]; exact True.intro) (.inr ho) (fun b q hb z=>(sb.2 b hb).trans z) hd ?_
 refine ⟨by rw [upd_ne O.ne]; exact ho,?_,O.ne,O'.obj,_,O'.ns,fun g=>?_,fun g hg=>?_⟩
 ·have:=length_putF f y fs; omega
 ·show RelO ((putF f y fs).lookup g) (if g=f then some u else mA g)
  rw [lookup_putF]
  by_cases q:g=f
  ·rw [if_pos q,if_pos q]; exact ry
  ·rw [if_neg q,if_neg q]; exact r g
 ·by_cases q:g=f
  ·rw [q]; exact (keys_putF f y fs).1
  ·refine (keys_putF f y fs).2 g (wi g fun z=>hg ?_)
   show (if g=f then some u else mA g)=none
   rw [if_neg q]; exact z
theorem Inv.made (I:Inv X pins σ H s):Inv X pins σ (upd (upd H s.heap.objs.size (.own (s.heap.objs.size+1))) (s.heap.objs.size+1) (.ins C s.heap.objs.size []))
  { s with heap:=(s.heap.push PySem.W.emptyDict).push (PySem.W.instObj C s.heap.objs.size) }:=by
 have e1:(s.heap.push PySem.W.emptyDict).get? s.heap.objs.size=some PySem.W.emptyDict:=Heap.get?_push_size s.heap rfl
 have e2:((s.heap.push PySem.W.emptyDict).push (PySem.W.instObj C s.heap.objs.size)).get? (s.heap.objs.size+1)=some (PySem.W.instObj C s.heap.objs.size):=by
  have:=Heap.get?_push_size (s.heap.push PySem.W.emptyDict) (o:=PySem.W.instObj C s.heap.objs.size) rfl
  rwa [Heap.size_push] at this
 have e3:(s.heap.push PySem.W.emptyDict).Ns s.heap.objs.size (fun _=>none):=⟨PySem.W.emptyDict,#[],_,e1,rfl,(fun e he=>absurd he (by simp)),fun _=>rfl⟩
 have I1:=I.laid (a:=s.heap.objs.size) (o:=.own (s.heap.objs.size+1)) (h':=s.heap.push PySem.W.emptyDict) (t':=s.toks) (fun b u q=>Heap.get?_push_of_some _ q) (Nat.le_refl _) ⟨_,e1⟩
 refine I1.laid (a:=s.heap.objs.size+1) (o:=.ins C s.heap.objs.size []) (t':=s.toks) (fun b u q=>Heap.get?_push_of_some _ q) (Nat.le_of_eq (Heap.size_push _ _)) ?_
 have ne:s.heap.objs.size≠s.heap.objs.size+1:=Nat.ne_of_lt (Nat.lt_succ_self _)
 refine ⟨by rw [upd_ne ne,upd_same],Nat.zero_le _,ne,e2,fun _=>none,(Heap.Ns1.of_empty e3).at fun o q=>Heap.get?_push_of_some _ q,fun _=>True.intro,fun y hy=>absurd rfl hy⟩
theorem attr_of {prog:Program} {w:World} {env:Env} {e:Expr} {f:Str} {pos:Pos} {s:Shared} {Q:Value→Shared→Prop} (hb:attributeBase e f env (eval e env)=eval e env)
  (h:wpAny (model prog w) A (eval e env) (fun o s₁=>wpAny (model prog w) A (getAttr o f true) Q E s₁) E s):wpAny (model prog w) A (eval (.Attribute e f pos) env) Q E s :=
 Attribute_any_ h (by rw [arm_eval_Attribute,hb])
end
def tFld (K:PySem.W.Frag) (ta:TE) (f:Str):TE:=fun σ H Q=>ta σ H fun x H1=>∃ a C dx fs v,x=.ref a∧H1 a=some (.ins C dx fs)∧Cls K C∧NoAttr K C f∧fs.lookup f=some v∧Q v H1
def sFld (K:PySem.W.Frag) (ta tv:TE) (f:Str):TS:=fun D σ H=>tv σ H fun y H1=>ta σ H1 fun x H2=>∃ a C dx fs,x=.ref a∧H2 a=some (.ins C dx fs)∧Cls K C∧NoAttr K C f∧fs.length<1000 ∧
 D.nx σ (upd H2 a (.ins C dx (putF f y fs)))
section
variable {X:Cx} {o e value:Expr} {f:Str} {pos pos' tpos:Pos} {ta tv:TE}
theorem pe_fld (he:PE X e ta) (hb:attributeBase e f X.env (eval e X.env)=eval e X.env):PE X (.Attribute e f pos) (tFld X.K ta f):=by
 intro pins s σ H Q I h
 refine attr_of hb (thn (he pins s σ H _ I h) fun u s1 ⟨x,H1,I1,rx,a,C,dx,fs,v,ex,ea,c,n,l,q⟩=>?_)
 subst ex
 obtain rfl:u=Value.ref a:=rx
 exact getattr_ok I1 ea c n l fun u' s2 I2 ru=>⟨v,H1,I2,ru,q⟩
theorem ps_fld (ha:PE X o ta) (hv:PE X value tv) (hs:swapsWith value (some (.Attribute o f pos')) pos.line X.env=pure false):PS X (.Assign [.Attribute o f pos'] value pos) (sFld X.K ta tv f):=by
 intro pins s σ H D I h
 refine plainObj_wpAny_Assign_Attribute (thn (hv pins s σ H _ I h) fun u s1 ⟨y,H1,I1,ry,q⟩=>thn (ha pins s1 σ H1 _ I1 q) fun ov s2 ⟨x,H2,I2,rx,a,C,dx,fs,ex,ea,c,n,l,q2⟩=>?_) hs
 subst ex
 obtain rfl:ov=Value.ref a:=rx
 exact setattr_ok I2 ea c n l ry fun s3 I3=>⟨σ,_,I3,q2⟩
end
section
variable {X:Cx} {pins:List (Addr×Obj)} {σ:St} {H:Hp} {s:Shared} {A:Around} {E:Value→Shared→Prop} {Q:Value→Shared→Prop} {c:Value} {b:Bool}
inductive TyOf (K:PySem.W.Frag) (H:Hp):V→Value→Prop where
  | non : TyOf K H .non (.type "NoneType")
  | bl (x : Bool) : TyOf K H (.bl x) (.type "bool")
  | int (i : Int) : TyOf K H (.int i) (.type "int")
  | str (x : Str) : TyOf K H (.str x) (.type "str")
  | flt (x : UInt64) : TyOf K H (.flt x) (.type "float")
  | lst {a : Addr} {xs : List V} (e : H a = some (.lst xs)) : TyOf K H (.ref a) (.type "list")
  | frz {a : Addr} {o : Obj} {xs : List V} (e : H a = some (.frz o (.lst xs))) : TyOf K H (.ref a) (.type "list")
  | tup {a : Addr} {xs : List V} (e : H a = some (.tup xs)) : TyOf K H (.ref a) (.type "tuple")
  | dK {a : Addr} {kvs : List (Key × V)} (e : H a = some (.dK kvs)) : TyOf K H (.ref a) (.type "dict")
  | dT {a : Addr} {kvs : List (List Key × V)} (e : H a = some (.dT kvs)) : TyOf K H (.ref a) (.type "dict")
  | ins {a C dx : Addr} {fs : List (Str × V)} (e : H a = some (.ins C dx fs)) (cl : Cls K C) (ha : PySem.W.findIn K (.ref C) "__class__" = some (some (.builtin "object.__class__")))
      (hn:PySem.W.specialIn K (.builtin "object.__class__") "__get__"=some (some (.builtin "getset_descriptor.__get__"))) (htk:PySem.W.takesIn K (.builtin "object.__class__")=some true)
      (hm:PySem.W.mroIn K C (.type "object")=some true):TyOf K H (.ref a) (.ref C)
theorem isinst_ok {x:V} {u t:Value} (I:Inv X pins σ H s) (rx:RelV x u) (ty:TyOf X.K H x t) (e:PySem.W.kitOne X.K t c=some b) (h:∀ tk,Q (.bool b) { s with toks:=tk }) :
  wpAny (model X.prog X.w) A (call (.builtin "isinstance") [u,c]) Q E s:=by
 cases ty with
 | non=>cases (show u=Value.none from rx); exact PySem.W.kia_one PySem.W.kitx_none I.kIn True.intro e (fun z=>nomatch z) h
 | bl y=>cases (show u=Value.bool y from rx); exact PySem.W.kia_one PySem.W.kitx_bool I.kIn True.intro e (fun z=>nomatch z) h
 | int i=>obtain ⟨t,q⟩:=(show ∃ t,u=Value.int i t from rx); cases q; exact PySem.W.kia_one PySem.W.kitx_int I.kIn True.intro e (fun z=>nomatch z) h
 | str y=>obtain ⟨t,q⟩:=(show ∃ t,u=Value.str y t from rx); cases q; exact PySem.W.kia_one PySem.W.kitx_str I.kIn True.intro e (fun z=>nomatch z) h
 | flt y=>obtain ⟨t,q⟩:=(show ∃ t,u=Value.float y t from rx); cases q; exact PySem.W.kia_one PySem.W.kitx_float I.kIn True.intro e (fun z=>nomatch z) h
 | @lst a xs ea =>
  cases (show u=Value.ref a from rx)
  obtain ⟨_,_,n,_,h1⟩:=(show ObjOk X.prog X.w H s.heap a (.lst xs) from I.hok a _ ea)
  exact PySem.W.kia_one PySem.W.kitx_list I.kIn ⟨_,h1,rfl⟩ e (fun z=>nomatch z) h
 | @frz a ob xs ea =>
  cases (show u=Value.ref a from rx)
  obtain ⟨_,_,_,n,_,h1⟩:=(show ObjOk X.prog X.w H s.heap a (.frz ob (.lst xs)) from I.hok a _ ea)
  exact PySem.W.kia_one PySem.W.kitx_list I.kIn ⟨_,h1,rfl⟩ e (fun z=>nomatch z) h
 | @tup a xs ea =>
  cases (show u=Value.ref a from rx)
  obtain ⟨_,_,_,p⟩:=(show ObjOk X.prog X.w H s.heap a (.tup xs) from I.hok a _ ea)
  obtain ⟨o,h1,h2,_⟩:=p
  exact PySem.W.kia_one PySem.W.kitx_tuple I.kIn ⟨o,h1,h2⟩ e (fun z=>nomatch z) h
 | @dK a kvs ea =>
  cases (show u=Value.ref a from rx)
  obtain ⟨_,_,vs,_,p⟩:=(show ObjOk X.prog X.w H s.heap a (.dK kvs) from I.hok a _ ea)
  obtain ⟨o,es,ep,h1,h2,_⟩:=p
  exact PySem.W.kia_one PySem.W.kitx_dict I.kIn ⟨o,h1,h2.1⟩ e (fun z=>nomatch z) h
 | @dT a kvs ea =>
  cases (show u=Value.ref a from rx)
  obtain ⟨_,_,xs,_,o,es,ep,h1,h2,_⟩:=(show ObjOk X.prog X.w H s.heap a (.dT kvs) from I.hok a _ ea)
  exact PySem.W.kia_one PySem.W.kitx_dict I.kIn ⟨o,h1,h2.1⟩ e (fun z=>nomatch z) h
 | @ins a C dx fs ea cl ha hn htk hm =>
  cases (show u=Value.ref a from rx)
  obtain ⟨mA,O,_⟩:=ins_get I.hok ea
  obtain ⟨od,J,_⟩:=O.look
  exact PySem.W.kia_one (PySem.W.kitx_own (cl.get _) cl.hd ha hn htk hm) I.kIn J e (fun z=>nomatch z) h
end
end L2
namespace L2
open PySem PySem.Spec PyProof.Rows
structure Room (k:Nat) (A:Around):Prop where
 hd:A.handled=none
 dp:A.depth+3*k+5<recursionLimit
 un:A.units+16*k+200<cLine
theorem Room.mono {j k:Nat} {A:Around} (r:Room k A) (h:j≤k):Room j A:=⟨r.hd,by have:=r.dp; omega,by have:=r.un; omega⟩
theorem Room.deeper {k:Nat} {A:Around} (r:Room (k+1) A) (env:Env):Room k (A.deeper env) :=
 ⟨r.hd,by have:=r.dp; show A.depth+1+3*k+5<_; omega,by have:=r.un; show A.units+3+16*k+200<_; omega⟩
theorem make_depth {A:Around} {C:Addr} {us:List Value} {kw:List (Str×Value)}:(A.under (.builtin "type.__call__" ⟨.ref C::us,kw⟩)).depth=A.depth+1:=by
 first | rfl | simp [Around.under,Code.weight,Code.isCreation,Code.isGuard,Code.isCaller,Code.frames,Code.isFrame,guardIds]
theorem make_units {A:Around} {C:Addr} {us:List Value} {kw:List (Str×Value)}:(A.under (.builtin "type.__call__" ⟨.ref C::us,kw⟩)).units=A.units+1:=by
 first | rfl | simp [Around.under,Code.cUnits,Code.frames,Code.isFrame]
theorem Room.make {k:Nat} {A:Around} (r:Room (k+1) A) (C:Addr) (us:List Value) (kw:List (Str×Value)):Room k (A.under (.builtin "type.__call__" ⟨.ref C::us,kw⟩)) :=
 ⟨r.hd,by have:=r.dp; rw [make_depth]; omega,by have:=r.un; rw [make_units]; omega⟩
theorem Room.depth {k:Nat} {A:Around} (r:Room k A):A.depth<recursionLimit:=by have:=r.dp; omega
theorem Room.units {k:Nat} {A:Around} (r:Room k A):A.units+64<cLine:=by have:=r.un; omega
def tNil:TA:=fun _ H Q=>Q [] H
def tCons (ta:TE) (tr:TA):TA:=fun σ H Q=>ta σ H fun x H1=>tr σ H1 fun xs H2=>Q (x::xs) H2
section
variable {X:Cx} {e:Expr} {es:List Expr} {te:TE} {t:TA} {pos:Pos}
theorem pa_nil:PA X [] tNil:=fun _ _ _ _ H Q I h=>Calls.spliced_nil ⟨[],H,I,.nil,h⟩
theorem pa_cons (ha:PE X e te) (hr:PA X es t) (hs:starEach (e::es) X.env=(false,eval e X.env)::starEach es X.env:=by rfl):PA X (e::es) (tCons te t):=by
 intro pos pins s σ H Q I h
 rw [hs]
 show wpAny _ _ (spliced ((false,eval e X.env)::backTo pos (starEach es X.env))) _ _ s
 refine Calls.spliced_cons (thn (ha pins s σ H _ I h) fun u s1 ⟨x,H1,I1,r1,q1⟩=>?_)
 exact thn (hr pos pins s1 σ H1 _ I1 q1) fun us s2 ⟨xs,H2,I2,r2,q2⟩=>⟨x::xs,H2,I2,.cons r1 r2,q2⟩
def tTup (t:TA):TE:=fun σ H Q=>t σ H fun xs H1=>xs.length≤sizeLine∧∀ p,H1 p=none→Q (.ref p) (upd H1 p (.tup xs))
def tLst (t:TA):TE:=fun σ H Q=>t σ H fun xs H1=>xs.length≤sizeLine∧∀ p,H1 p=none→Q (.ref p) (upd H1 p (.lst xs))
theorem pe_tup {x1} (h:PA X es t):PE X (.Tuple es x1 pos) (tTup t):=by
 intro pins s σ H Q I hq
 refine wpAny_Tuple_spliced (thn (h pos pins s σ H _ I hq) fun us s1 ⟨xs,H1,I1,r,z,q⟩=>⟨by rw [← r.length]; exact z,?_⟩)
 have hf:H1 s1.heap.objs.size=none:=I1.hok.fresh (Nat.le_refl _)
 refine ⟨.ref s1.heap.objs.size,upd H1 s1.heap.objs.size (.tup xs),I1.laid (t':=s1.toks) (fun b u e=>Heap.get?_push_of_some _ e) (Nat.le_refl _) ?_,rfl,q _ hf⟩
 exact ⟨z,us,r,⟨_,Heap.get?_push_size _ rfl,rfl,_,rfl⟩⟩
theorem pe_lst (h:PA X es t):PE X (.List es pos) (tLst t):=by
 intro pins s σ H Q I hq
 refine wpAny_List_spliced (thn (h pos pins s σ H _ I hq) fun us s1 ⟨xs,H1,I1,r,z,q⟩=>⟨by rw [← r.length]; exact z,?_⟩)
 have hf:H1 s1.heap.objs.size=none:=I1.hok.fresh (Nat.le_refl _)
 refine ⟨.ref s1.heap.objs.size,upd H1 s1.heap.objs.size (.lst xs),I1.laid (t':=s1.toks) (fun b u e=>Heap.get?_push_of_some _ e) (Nat.le_refl _) ?_,rfl,q _ hf⟩
 exact ⟨z,us,0,r,Heap.get?_push_size _ rfl⟩
end
abbrev Sp:=List V→Hp→VK→XK→Prop
abbrev CXT:=List Env→Hp→Shared→XK→Value→Shared→Prop
structure Env0 (P:Program) (w:World) (K:PySem.W.Frag) (mg:Str→Option Value) (base:Heap) (A:Around) (outer:List Env) (s:Shared) (H:Hp):Prop where
 frames:A.frames=some outer
 mod:Mod K mg base
 bs:∀ b o,base.get? b=some o→s.heap.get? b=some o∧H b=none
 bsz:base.objs.size≤s.heap.objs.size
 funs:s.heap.FunFrames base outer
 frf:∀ b∈frs outer,H b=none
 hok:HOk P w H s.heap
 bare:AllBare s.gens
def CE (outer:List Env) (P:Program) (w:World) (H:Hp) (s:Shared) (Q:VK) (u:Value) (s':Shared):Prop :=
 ∃ v H',s'.os=s.os∧AllBare s'.gens∧Un (frs outer) [] H H' s.heap s'.heap∧HOk P w H' s'.heap∧RelV v u∧Q v H'
def CR (CX:CXT) (outer:List Env) (P:Program) (w:World) (H:Hp) (s:Shared) (Q:VK) (E:XK) (r:Result) (s':Shared):Prop :=
 match r with
 | .ok (.ret u)=>CE outer P w H s Q u s'
 | .ok _=>False
 | .error e=>CX outer H s E e s'
structure FnOk (P:Program) (w:World) (K:PySem.W.Frag) (mg:Str→Option Value) (base:Heap) (CX:CXT) (k:Nat) (f:Addr) (fd:FuncData) (ps:List Str) (sp:Sp):Prop where
 len:∀ vs H Q E,sp vs H Q E→vs.length=ps.length
 run:∀ (A:Around) (outer:List Env) (s:Shared) (H:Hp) (args:Args) (us:List Value) (vs:List V) (Q:VK) (E:XK),Room k A→Env0 P w K mg base A outer s H→BindsTo s fd args (ps.zip us)→Vals vs us→sp vs H Q E →
  codeAny (model P w) A (.call (.ref f) args) (CR CX outer P w H s Q E) s
theorem Env0.make {P:Program} {w:World} {K:PySem.W.Frag} {mg:Str→Option Value} {base:Heap} {A:Around} {outer:List Env} {s:Shared} {H:Hp} (e:Env0 P w K mg base A outer s H) (C:Addr) (us:List Value) (kw:List (Str×Value)) :
  Env0 P w K mg base (A.under (.builtin "type.__call__" ⟨.ref C::us,kw⟩)) outer s H:=⟨by first | exact e.frames | (simpa [Around.under,Code.envs,Code.isFrame,pushEnvs] using e.frames),e.mod,e.bs,e.bsz,e.funs,e.frf,e.hok,e.bare⟩
section
variable {X:Cx} {pins:List (Addr×Obj)} {σ:St} {H:Hp} {s s':Shared}
theorem Inv.env0 (I:Inv X pins σ H s):Env0 X.prog X.w X.K X.mg X.base X.A X.stack s H :=
 ⟨I.ok.frames,I.ok.mod,I.bs,Nat.le_trans I.ok.bsz I.sz,I.stack,I.stkFree,I.hok,I.bare⟩
theorem Inv.after {Q:VK} {u:Value} (I:Inv X pins σ H s) (h:CE X.stack X.prog X.w H s Q u s'):EP X pins σ Q u s':=by
 obtain ⟨v,H',os,bare,un,hok,r,q⟩:=h
 obtain ⟨hh,g,d,t,os'⟩:=s'
 obtain rfl:os'=s.os:=os
 exact ⟨v,H',I.call (h':=hh) (g':=g) (d':=d) (t':=t) (ch:=[]) un hok bare (fun b z=>absurd z (by simp)),r,q⟩
end
def tCall (sp:Sp) (dvs:List V) (E:XK) (t:TA):TE:=fun σ H Q=>t σ H fun vs H1=>sp (vs++dvs) H1 Q E
def tMeth (C:Addr) (m:Str) (sp:Sp) (dvs:List V) (E:XK) (ta:TE) (t:TA):TE:=fun σ H Q=>ta σ H fun x H1=>∃ a dx fs,x=.ref a∧H1 a=some (.ins C dx fs)∧fs.lookup m=none ∧
 t σ H1 fun vs H2=>sp (x::(vs++dvs)) H2 Q E
def tMake (C:Addr) (sp:Sp) (dvs:List V) (E:XK) (t:TA):TE:=fun σ H Q=>t σ H fun vs H1=>∀ x dx,H1 x=none→H1 dx=none→dx≠x →
 sp (.ref x::(vs++dvs)) (upd (upd H1 dx (.own x)) x (.ins C dx [])) (fun v H2=>v=.non∧Q (.ref x) H2) E
def Binds (K:PySem.W.Frag) (fd:FuncData) (ps:List Str) (ds:List Value):Prop :=
 ∀ (s:Shared) (us:List Value),K.In s.heap→(us++ds).length=ps.length→BindsTo s fd ⟨us,[]⟩ (ps.zip (us++ds))
theorem Binds.all {K:PySem.W.Frag} {fd:FuncData} {ps:List Str} (h:∀ us:List Value,us.length=ps.length→bindArgs fd ⟨us,[]⟩=pure (ps.zip us)):Binds K fd ps []:=fun s us _ hl=>by
 rw [List.append_nil] at hl ⊢
 exact .of_eq (h us hl)
def Passes (CX:CXT) (X:Cx) (E:XK):Prop:=∀ (pins:List (Addr×Obj)) (σ:St) (H:Hp) (s:Shared) (e:Value) (s':Shared),Inv X pins σ H s→CX X.stack H s E e s'→X.xe e s'
section
variable {X:Cx} {CX:CXT} {k:Nat} {f C:Addr} {fd:FuncData} {ps:List Str} {sp:Sp} {dvs:List V} {ds:List Value} {E:XK} {x m:Str} {p pos apos:Pos} {e o:Expr} {es:List Expr} {ta:TE} {t:TA}
theorem run_fn {pins:List (Addr×Obj)} {σ:St} {H:Hp} {s:Shared} {Q:VK} {us:List Value} {vs:List V} (F:FnOk X.prog X.w X.K X.mg X.base CX k f fd ps sp) (hr:Room k X.A) (hb:Binds X.K fd ps ds) (hd:Vals dvs ds) (hx:Passes CX X E)
  (I:Inv X pins σ H s) (r:Vals vs us) (h:sp (vs++dvs) H Q E):wpAny (model X.prog X.w) X.A (call (.ref f) us) (EP X pins σ Q) X.xe s:=by
 have r2:Vals (vs++dvs) (us++ds):=r.append hd
 have hl:(us++ds).length=ps.length:=by rw [← r2.length]; exact F.len _ _ _ _ h
 refine wpAny_call (codeAny_mono (F.run X.A X.stack s H ⟨us,[]⟩ (us++ds) (vs++dvs) Q E hr I.env0 (hb s us I.kIn hl) r2 h) fun r s' hq=>?_)
 cases r with
 | error e=>exact hx pins σ H s e s' I hq
 | ok fl =>
  cases fl with
  | ret u => exact I.after hq
  | next => exact False.elim hq
  | brk => exact False.elim hq
  | cont => exact False.elim hq
theorem pe_call (F:FnOk X.prog X.w X.K X.mg X.base CX k f fd ps sp) (hr:Room k X.A) (hg:Gl X x) (hm:X.mg x=some (.ref f)) (hk:PySem.W.keepIn X.K (.ref f)=true) (hb:Binds X.K fd ps ds) (hd:Vals dvs ds) (hx:Passes CX X E)
  (ha:PA X (e::es) t) (hdb:(x==("__debug__":Str))=false:=by decide) (he:starEach (e::es) X.env=(false,eval e X.env)::starEach es X.env:=by rfl) (hpl:(backTo pos (starEach es X.env)).any (·.1)=false:=by rfl) :
  PE X (.Call (.Name x p) (e::es) [] pos) (tCall sp dvs E t):=by
 intro pins s σ H Q I h
 refine wpAny_Call_Name_kw (ld_glob I hg hm ?_ hdb)
 refine PySem.W.callWith_K (h₀:=X.base) I.ok.mod.kin hk (thn (ha pos pins s σ H _ I h) fun us s1 ⟨vs,H1,I1,r,q⟩=>⟨I1.kIn,?_⟩) he hpl
 exact run_fn F hr hb hd hx I1 r q
theorem pe_meth {pl:Sem Bool} (he:PE X o ta) (c:Cls X.K C) (hm:Meth X.K C m f) (F:FnOk X.prog X.w X.K X.mg X.base CX k f fd ps sp) (hr:Room k X.A) (hb:Binds X.K fd ps ds) (hd:Vals dvs ds) (hx:Passes CX X E) (ha:PA X (e::es) t)
  (hst:starEach (e::es) X.env=(false,eval e X.env)::starEach es X.env:=by rfl) (hpl:(backTo pos (starEach es X.env)).any (·.1)=false:=by rfl)
  (ht:eval (.Call (.Attribute o m apos) (e::es) [] pos) X.env=(do
   let ov ← eval o X.env
   standAt apos.atName
   let (f,first) ← holding [ov] (getMethod ov m pl)
   callWith pos f first (backTo pos (starEach (e::es) X.env)) (backToKw pos (keywordEach [] X.env))):=by rfl) :
  PE X (.Call (.Attribute o m apos) (e::es) [] pos) (tMeth C m sp dvs E ta t):=by
 intro pins s σ H Q I h
 refine PySem.W.methodCall_KW (pl:=pl) (thn (he pins s σ H _ I h) fun u s1 ⟨x,H1,I1,rx,a,dx,fs,ex,ea,l,q⟩=>?_) ht
 subst ex
 obtain rfl:u=Value.ref a:=rx
 refine getmeth_ok I1 ea c hm l ?_
 refine PySem.W.callWith_K (first:=[.ref a]) (h₀:=X.base) I.ok.mod.kin hm.kp (thn (ha pos pins s1 σ H1 _ I1 q) fun us s2 ⟨vs,H2,I2,r,q2⟩=>⟨I2.kIn,?_⟩) hst hpl
 exact run_fn (us:=.ref a::us) (vs:=.ref a::vs) F hr hb hd hx I2 (.cons rfl r) q2
theorem pe_meth0 {pl:Sem Bool} (he:PE X o ta) (c:Cls X.K C) (hm:Meth X.K C m f) (F:FnOk X.prog X.w X.K X.mg X.base CX k f fd ps sp) (hr:Room k X.A) (hb:Binds X.K fd ps ds) (hd:Vals dvs ds) (hx:Passes CX X E)
  (ht:eval (.Call (.Attribute o m apos) [] [] pos) X.env=(do
   let ov ← eval o X.env
   standAt apos.atName
   let (f,first) ← holding [ov] (getMethod ov m pl)
   callWith pos f first (backTo pos (starEach [] X.env)) (backToKw pos (keywordEach [] X.env))):=by rfl) :
  PE X (.Call (.Attribute o m apos) [] [] pos) (tMeth C m sp dvs E ta tNil):=by
 intro pins s σ H Q I h
 refine PySem.W.methodCall_KW (pl:=pl) (thn (he pins s σ H _ I h) fun u s1 ⟨x,H1,I1,rx,a,dx,fs,ex,ea,l,q⟩=>?_) ht
 subst ex
 obtain rfl:u=Value.ref a:=rx
 refine getmeth_ok I1 ea c hm l ?_
 exact PySem.W.callWith_K0 (first:=[.ref a]) I1.kIn hm.kp (run_fn (us:=[.ref a]) (vs:=[.ref a]) F hr hb hd hx I1 (.cons rfl .nil) q)
structure Mk (K:PySem.W.Frag) (C f:Addr):Prop where
 makes:PySem.W.makesIn K C=true
 init:PySem.W.findIn K (.ref C) "__init__"=some (some (.ref f))
 fn:PySem.W.isFn K (.ref f)=true
 kp:PySem.W.keepIn K (.ref C)=true
theorem run_make {pins:List (Addr×Obj)} {σ:St} {H:Hp} {s:Shared} {Q:VK} {us:List Value} {vs:List V} (M:Mk X.K C f) (F:FnOk X.prog X.w X.K X.mg X.base CX k f fd ps sp) (hr:Room (k+1) X.A) (hb:Binds X.K fd ps ds) (hd:Vals dvs ds)
  (hx:Passes CX X E) (I:Inv X pins σ H s) (r:Vals vs us)
  (h:∀ x dx,H x=none→H dx=none→dx≠x→sp (.ref x::(vs++dvs)) (upd (upd H dx (.own x)) x (.ins C dx [])) (fun v H2=>v=.non∧Q (.ref x) H2) E) :
  wpAny (model X.prog X.w) X.A (call (.ref C) us) (EP X pins σ Q) X.xe s:=by
 have hq:=h (s.heap.objs.size+1) s.heap.objs.size (I.hok.fresh (Nat.le_succ _)) (I.hok.fresh (Nat.le_refl _)) (Nat.ne_of_lt (Nat.lt_succ_self _))
 have I2:=Inv.made (C:=C) I
 have r2:Vals (V.ref (s.heap.objs.size+1)::(vs++dvs)) (Value.ref (s.heap.objs.size+1)::(us++ds)):=.cons rfl (r.append hd)
 have hl:(Value.ref (s.heap.objs.size+1)::us++ds).length=ps.length:=by
  have e:=r2.length
  rw [F.len _ _ _ _ hq] at e
  exact e.symm
 refine wpAny_call (make_map (f:=f) I.kIn M.makes M.init (beq_iff_eq.mp M.fn) (codeAny_mono (F.run _ X.stack _ _ ⟨Value.ref (s.heap.objs.size+1)::us,[]⟩ (Value.ref (s.heap.objs.size+1)::(us++ds)) _ _ E (hr.make C us [])
  (I2.env0.make C us []) (hb _ (Value.ref (s.heap.objs.size+1)::us) I2.kIn hl) r2 hq) fun r s' hq'=>?_))
 cases r with
 | error e=>exact hx pins σ _ _ e s' I2 hq'
 | ok fl =>
  cases fl with
  | ret u =>
   obtain ⟨v,H',I3,rv,ev,q3⟩:=I2.after hq'
   subst ev
   exact ⟨rv,⟨V.ref (s.heap.objs.size+1),H',I3,rfl,q3⟩⟩
  | next => exact False.elim hq'
  | brk => exact False.elim hq'
  | cont => exact False.elim hq'
theorem pe_make (M:Mk X.K C f) (F:FnOk X.prog X.w X.K X.mg X.base CX k f fd ps sp) (hr:Room (k+1) X.A) (hg:Gl X x) (hm:X.mg x=some (.ref C)) (hb:Binds X.K fd ps ds) (hd:Vals dvs ds) (hx:Passes CX X E)
  (ha:PA X (e::es) t) (hdb:(x==("__debug__":Str))=false:=by decide) (he:starEach (e::es) X.env=(false,eval e X.env)::starEach es X.env:=by rfl) (hpl:(backTo pos (starEach es X.env)).any (·.1)=false:=by rfl) :
  PE X (.Call (.Name x p) (e::es) [] pos) (tMake C sp dvs E t):=by
 intro pins s σ H Q I h
 refine wpAny_Call_Name_kw (ld_glob I hg hm ?_ hdb)
 refine PySem.W.callWith_K (h₀:=X.base) I.ok.mod.kin M.kp (thn (ha pos pins s σ H _ I h) fun us s1 ⟨vs,H1,I1,r,q⟩=>⟨I1.kIn,?_⟩) he hpl
 exact run_make M F hr hb hd hx I1 r q
theorem pe_make0 (M:Mk X.K C f) (F:FnOk X.prog X.w X.K X.mg X.base CX k f fd ps sp) (hr:Room (k+1) X.A) (hg:Gl X x) (hm:X.mg x=some (.ref C)) (hb:Binds X.K fd ps ds) (hd:Vals dvs ds) (hx:Passes CX X E)
  (hdb:(x==("__debug__":Str))=false:=by decide):PE X (.Call (.Name x p) [] [] pos) (tMake C sp dvs E tNil):=by
 intro pins s σ H Q I h
 refine wpAny_Call_Name_kw (ld_glob I hg hm ?_ hdb)
 exact PySem.W.callWith_K0 I.kIn M.kp (run_make (us:=[]) M F hr hb hd hx I .nil h)
end
section
variable {X:Cx} {CX:CXT} {k:Nat} {f C:Addr} {fd:FuncData} {ps ks:List Str} {sp:Sp} {E:XK} {x m:Str} {p pos apos kpos:Pos} {e o:Expr} {es:List Expr} {kws:List Keyword} {te ta:TE} {t tk:TA} {nm:Option Str}
variable {g:List Value→List Value→List Value} {gV:List V→List V→List V}
end
structure FnScope (N P:List Str) (sc:Scope):Prop where
 kind:sc.kind=.function
 co:sc.isCoroutine=false
 gen:sc.isGenerator=false
 nd:N.Nodup
 pre:N.take P.length=P
 par:∀ x∈P,sc.names.lookup x=some .local∨sc.names.lookup x=some .cell
 nofree:∀ y∈sc.names,y.2≠.free
theorem bindL_out {kindOf:Str→Option NameKind} {x:Str}:∀ {binds:List (Str×Value)} {m:Str→Option Value},(∀ v,(x,v)∉binds)→bindL kindOf binds m x=m x
 | [],_,_=>rfl
 | (n,v)::r,m,h=>by
  unfold bindL
  rw [bindL_out fun w hw=>h w (List.mem_cons_of_mem _ hw)]
  split
  ·have:x≠n:=by rintro rfl; exact h v List.mem_cons_self
   simp [this]
  ·rfl
theorem bindC_out {kindOf:Str→Option NameKind} {x:Str}:∀ {binds:List (Str×Value)} {m:Str→Option Value},(∀ v,(x,v)∉binds)→bindC kindOf binds m x=m x
 | [],_,_=>rfl
 | (n,v)::r,m,h=>by
  unfold bindC
  rw [bindC_out fun w hw=>h w (List.mem_cons_of_mem _ hw)]
  split
  ·rfl
  ·have:x≠n:=by rintro rfl; exact h v List.mem_cons_self
   simp [this]
theorem bindL_get {kindOf:Str→Option NameKind} {x:Str} {v:Value}:∀ {P:List Str} {vs:List Value} {i:Nat} {m:Str→Option Value},P.Nodup→P[i]?=some x→vs[i]?=some v→kindOf x=some .local →
  bindL kindOf (P.zip vs) m x=some v
 | [],_,_,_,_,h,_,_=>by simp at h
 | _::_,[],_,_,_,_,h,_=>by simp at h
 | p::P,w::vs,0,m,nd,h1,h2,hk=>by
  simp at h1 h2; subst h1; subst h2
  show bindL kindOf ((p,w)::P.zip vs) m p=_
  unfold bindL
  rw [bindL_out fun v hv=>(List.nodup_cons.mp nd).1 (List.of_mem_zip hv).1,if_pos hk]
  simp
 | p::P,w::vs,i+1,m,nd,h1,h2,hk=>by
  show bindL kindOf ((p,w)::P.zip vs) m x=_
  unfold bindL
  exact bindL_get (i:=i) (List.nodup_cons.mp nd).2 (by simpa using h1) (by simpa using h2) hk
theorem bindC_get {kindOf:Str→Option NameKind} {x:Str} {v:Value}:∀ {P:List Str} {vs:List Value} {i:Nat} {m:Str→Option Value},P.Nodup→P[i]?=some x→vs[i]?=some v→kindOf x≠some .local →
  bindC kindOf (P.zip vs) m x=some v
 | [],_,_,_,_,h,_,_=>by simp at h
 | _::_,[],_,_,_,_,h,_=>by simp at h
 | p::P,w::vs,0,m,nd,h1,h2,hk=>by
  simp at h1 h2; subst h1; subst h2
  show bindC kindOf ((p,w)::P.zip vs) m p=_
  unfold bindC
  rw [bindC_out fun v hv=>(List.nodup_cons.mp nd).1 (List.of_mem_zip hv).1,if_neg hk]
  simp
 | p::P,w::vs,i+1,m,nd,h1,h2,hk=>by
  show bindC kindOf ((p,w)::P.zip vs) m x=_
  unfold bindC
  exact bindC_get (i:=i) (List.nodup_cons.mp nd).2 (by simpa using h1) (by simpa using h2) hk
def start (N:List Str) (vs:List V):St:=vs.map some++List.replicate (N.length - vs.length) none
def cxOf (CX:CXT) (P:Program) (w:World) (K:PySem.W.Frag) (mg:Str→Option Value) (base:Heap) (N:List Str) (qual:Str) (scope:Scope) (f:Addr) (cd:Value) (A:Around) (outer:List Env) (s:Shared) (H:Hp) (E:XK):Cx where
 prog:=P
 w:=w
 K:=K
 mg:=mg
 base:=base
 A:=A.deeper (envOfC qual scope s.heap.objs.size f cd)
 N:=N
 s₀:=s
 H₀:=H
 env:=envOfC qual scope s.heap.objs.size f cd
 outer:=outer
 stack:=envOfC qual scope s.heap.objs.size f cd::outer
 ex:=[]
 calm:=true
 fn:=fun _=>true
 pn:=[]
 xe:=fun e s'=>wpAny (model P w) (A.deeper (envOfC qual scope s.heap.objs.size f cd)) (leaving (envOfC qual scope s.heap.objs.size f cd) e) (fun _ s''=>CX outer H s E e s'') (fun e' s''=>CX outer H s E e' s'') s'
theorem cell_has {sc:Scope} {n:Nat} {x:Str} (h:sc.names.lookup x=some .cell):∃ c,(cellsFrom n sc.names []).lookup x=some c:=by
 have q:=PySem.W.cellsFrom_some sc.names n [] (.inl h)
 exact Option.isSome_iff_exists.mp q
theorem inv_start {CX:CXT} {P:Program} {w:World} {K:PySem.W.Frag} {mg:Str→Option Value} {base:Heap} {N ps:List Str} {qual:Str} {scope:Scope} {f:Addr} {cd:Value} {A:Around} {outer:List Env} {s s1:Shared} {H:Hp} {E:XK} {us:List Value} {vs:List V}
    (S:FnScope N ps scope) (hd:A.handled=none) (e0:Env0 P w K mg base A outer s H) (hl:vs.length=ps.length) (r:Vals vs us)
    (x:InCallC s s.heap.objs.size (bindL (envOfC qual scope s.heap.objs.size f cd).kindOf (ps.zip us) fun _=>none) (cellsFrom (s.heap.objs.size+1) scope.names []) (bindC (envOfC qual scope s.heap.objs.size f cd).kindOf (ps.zip us) fun _=>none) s1) :
    Inv (cxOf CX P w K mg base N qual scope f cd A outer s H E) [] (start N vs) H s1:=by
  have hpl:ps.length≤N.length:=by have:=congrArg List.length S.pre; rw [List.length_take] at this; omega
  obtain ⟨h1,tk,rfl,hk⟩:=x.done
  have noA:∀ b:Addr,b∉(cxOf CX P w K mg base N qual scope f cd A outer s H E).ex:=fun b z=>absurd (show b∈([]:List Addr) from z) (by simp)
  refine ⟨⟨e0.mod,S.kind,rfl,rfl,Nat.le_refl _,fun y z c h1 h2=>?_,fun y hy=>?_,fun y c _ h=>?_,fun _=>hd,Around.frames_deeper e0.frames,.inr ⟨rfl,rfl⟩,fun b z=>absurd z (noA b),e0.bs,e0.bsz,fun b _ _=>noA b,fun b z=>absurd z (noA b),e0.funs,e0.frf⟩,
    rfl,e0.bare,Un.kept hk,⟨_,x.toInCall.ns,fun i y v h1 h2 h3=>?_⟩,fun y c h=>⟨_,x.cell y c h⟩,e0.hok.fresh (Nat.le_refl _),fun y c h=>?_,fun p hp=>absurd (show p∈([]:List (Addr×Obj)) from hp) (by simp),e0.hok.kept hk,?_⟩
  · exact name_of_addr x.apart (PySem.mem_of_lookup h1) (PySem.mem_of_lookup h2)
  · have hy:scope.names.lookup y=some .cell∨scope.names.lookup y=some .free:=hy
    rcases hy with hy | hy
    · exact cell_has hy
    · exact absurd rfl (S.nofree _ (PySem.mem_of_lookup hy))
  · exact Nat.le_of_lt (x.above y c (PySem.mem_of_lookup h))
  · have hi:i<vs.length:=by
      unfold start at h2
      by_cases hi:i<vs.length
      · exact hi
      · rw [List.getElem?_append_right (by simpa using hi)] at h2
        rw [List.getElem?_replicate] at h2
        split at h2<;>cases h2
    have ha:vs[i]?=some v:=by
      unfold start at h2
      rw [List.getElem?_append_left (by simpa using hi),List.getElem?_map] at h2
      cases e:vs[i]? with
      | none=>rw [e] at h2; cases h2
      | some a=>rw [e] at h2; cases h2; rfl
    obtain ⟨u,hu,rv⟩:=r.get ha
    have hp:ps[i]?=some y:=by
      rw [← S.pre,List.getElem?_take_of_lt (by omega)]; exact h1
    have ndP:ps.Nodup:=by rw [← S.pre]; exact S.nd.sublist (List.take_sublist _ _)
    refine ⟨u,rv,?_⟩
    rcases S.par y (List.mem_of_getElem? hp) with k | k
    · exact .inl ⟨k,bindL_get ndP hp hu k⟩
    · obtain ⟨c,e⟩:=cell_has (n:=s.heap.objs.size+1) k
      refine .inr ⟨.inl k,c,e,?_⟩
      have q:=x.cell y c e
      rw [bindC_get ndP hp hu (by show scope.names.lookup y≠_; rw [k]; decide)] at q
      exact q
  · exact e0.hok.fresh (Nat.le_of_lt (x.above y c (PySem.mem_of_lookup h)))
  · unfold start
    show _=N.length
    rw [List.length_append,List.length_map,List.length_replicate]
    omega
theorem fn_of {CX:CXT} {P:Program} {w:World} {K:PySem.W.Frag} {mg:Str→Option Value} {base:Heap} {k:Nat} {f:Addr} {name qual:Str} {params:Arguments} {body:List Stmt} {scope:Scope} {dV kV doc pm cdv ct oc:Value} {an od:Option Addr}
  {osl:Array (Option Value)} {N ps:List Str} {sp:Sp} (lk:K.lookup f=some ⟨oc,od,.func (PySem.W.fnOf name qual params body scope dV kV doc pm an cdv ct),osl⟩) (hcd:PySem.W.codeIn K cdv qual=true) (S:FnScope N ps scope)
  (len:∀ vs H Q E,sp vs H Q E→vs.length=ps.length)
  (hbody:∀ (A:Around) (outer:List Env) (s:Shared) (H:Hp) (vs:List V) (Q:VK) (E:XK),Room k (A.deeper (envOfC qual scope s.heap.objs.size f cdv))→sp vs H Q E →
   ∃ t,PSs (cxOf CX P w K mg base N qual scope f cdv A outer s H E) body t∧t { nx:=fun _ H'=>Q .non H',rt:=Q } (start N vs) H) :
  FnOk P w K mg base CX (k+1) f (PySem.W.fnOf name qual params body scope dV kV doc pm an cdv ct) ps sp:=by
 refine ⟨len,fun A outer s H args us vs Q E hr e0 hb r hsp=>?_⟩
 have hl:=len _ _ _ _ hsp
 have KX:K.In s.heap:=e0.mod.kin.keeps fun b o e=>(e0.bs b o e).1
 have lim:s.heap.NoLimit:=e0.mod.nolimit.keeps fun b o e=>(e0.bs b o e).1
 have hkind:∀ y∈ps.zip us,scope.names.lookup y.1=some .local∨(scope.names.lookup y.1=some .cell∧((cellsFrom (s.heap.objs.size+1) scope.names []).lookup y.1).isSome=true):=fun ⟨n,v⟩ hy=>by
  rcases S.par n (List.of_mem_zip hy).1 with q | q
  ·exact .inl q
  ·exact .inr ⟨q,PySem.W.cellsFrom_some _ _ _ (.inl q)⟩
 refine codeAny_call_function hr.depth (KX _ _ lk) rfl S.co S.gen rfl (PySem.W.codeRec_of KX hcd) (hb _ _ _ _ ?_)
 refine wpAny_newFunctionEnv_cells S.kind hkind fun env he s1 x=>?_
 subst he
 refine ⟨lim.keeps x.toInCall.keep,codeAny_func ?_⟩
 obtain ⟨t,ht,hq⟩:=hbody A outer s H vs Q E (hr.deeper _) hsp
 have I:Inv (cxOf CX P w K mg base N qual scope f cdv A outer s H E) [] (start N vs) H s1:=inv_start S hr.hd e0 hl r x
 refine wpAny_mono (ht [] s1 (start N vs) H _ I hq) (fun fl s' hs=>?_) fun e s' hs=>hs
 have fin:∀ {σ':St} {H':Hp} {v:V} {u:Value},Inv (cxOf CX P w K mg base N qual scope f cdv A outer s H E) [] σ' H' s'→RelV v u→Q v H'→CE outer P w H s Q u s' :=
  fun {σ' H' v u} J rv q=>⟨v,H',J.os,J.bare,J.base,J.hok,rv,q⟩
 cases fl with
 | ret u =>
  obtain ⟨v,σ',H',J,rv,q⟩:=hs
  exact fin J rv q
 | next =>
  obtain ⟨σ',H',J,q⟩:=hs
  exact fin (v:=V.non) (u:=Value.none) J rfl q
 | brk =>
  obtain ⟨_,_,_,q⟩:=hs
  exact False.elim q
 | cont =>
  obtain ⟨_,_,_,q⟩:=hs
  exact False.elim q
end L2
namespace L2
open PySem PySem.Spec PyProof.Rows
section
variable {X:Cx} {x:Str} {p pos:Pos} {e:Expr} {es:List Expr} {t:TA} {id T:String} {r:List V→Hp→VK→Prop}
def tCB (r:List V→Hp→VK→Prop) (t:TA):TE:=fun σ H Q=>t σ H fun vs H1=>r vs H1 Q
theorem pe_callB (hc:CallR X (.builtin id) r) (hg:Gl X x) (hm:X.mg x=none) (hv:bootBuiltins x=some (.builtin id)) (ha:PA X (e::es) t) (hn:x≠"__name__":=by decide) (hdb:(x==("__debug__":Str))=false:=by decide)
  (he:starEach (e::es) X.env=(false,eval e X.env)::starEach es X.env:=by rfl) (hpl:(backTo pos (starEach es X.env)).any (·.1)=false:=by rfl):PE X (.Call (.Name x p) (e::es) [] pos) (tCB r t):=by
 intro pins s σ H Q I h
 refine wpAny_Call_Name_kw (ld_blt I hg hm hv ?_ hn hdb)
 exact PyProof.Rows.callWith_builtin1 (thn (ha pos pins s σ H _ I h) fun us s1 ⟨vs,H1,I1,r1,q1⟩=>hc pins s1 σ H1 vs us Q I1 r1 q1) he hpl
theorem pe_callTy (hc:CallR X (.type T) r) (hg:Gl X x) (hm:X.mg x=none) (hv:bootBuiltins x=some (.type T)) (ha:PA X (e::es) t) (hn:x≠"__name__":=by decide) (hdb:(x==("__debug__":Str))=false:=by decide)
  (he:starEach (e::es) X.env=(false,eval e X.env)::starEach es X.env:=by rfl) (hpl:(backTo pos (starEach es X.env)).any (·.1)=false:=by rfl):PE X (.Call (.Name x p) (e::es) [] pos) (tCB r t):=by
 intro pins s σ H Q I h
 refine wpAny_Call_Name_kw (ld_blt I hg hm hv ?_ hn hdb)
 exact PyProof.Rows.callWith_type1 (thn (ha pos pins s σ H _ I h) fun us s1 ⟨vs,H1,I1,r1,q1⟩=>hc pins s1 σ H1 vs us Q I1 r1 q1) he hpl
end
end L2
namespace HT
open PySem PyProof.Rows
section
open PySem.SeqAt
open PySem.AutoSeq1 (wpAny_loadPart')
open PySem.MeetsSeq PySem.MeetsSeq2 PySem.MeetsSeq3
end
section
variable {prog:Program} {w:World} {A:Around} {E:Value→Shared→Prop} {s:Shared}
def sIx (n d:Nat):Option Int→Nat
 | none=>d
 | some v=>if v<0 then (v+(n:Int)).toNat else min v.toNat n
theorem sIx_none (n d:Nat):sIx n d none=d:=rfl
theorem sIx_nat (n d k:Nat):sIx n d (some (k:Int))=min k n:=by
 show (if (k:Int)<0 then ((k:Int)+(n:Int)).toNat else min (k:Int).toNat n)=min k n
 rw [if_neg (by omega),Int.toNat_natCast]
theorem sIx_le (n d:Nat) (hd:d≤n) (o:Option Int):sIx n d o≤n:=by
 cases o with
 | none=>exact hd
 | some v =>
  show (if v<0 then (v+(n:Int)).toNat else min v.toNat n)≤n
  by_cases hv:v<0
  ·rw [if_pos hv]; omega
  ·rw [if_neg hv]; exact Nat.min_le_right _ _
theorem clip_eq (v:Int) (n d:Nat):(if v<0 then max (v+(n:Int)) 0 else min v (n:Int))=((sIx n d (some v):Nat):Int):=by
 show (if v<0 then max (v+(n:Int)) 0 else min v (n:Int))=(((if v<0 then (v+(n:Int)).toNat else min v.toNat n):Nat):Int)
 by_cases hv:v<0
 ·simp only [if_pos hv]; omega
 ·simp only [if_neg hv]; omega
theorem adjust_gen (lo hi:Option Int) (n:Nat):Builtin.Slice.sliceAdjust lo hi 1 (n:Int)=(((sIx n 0 lo:Nat):Int),((sIx n n hi:Nat):Int)):=by
 have h1:¬ ((1:Int)<0):=by omega
 unfold Builtin.Slice.sliceAdjust
 simp only [h1,if_false]
 refine Prod.ext ?_ ?_
 ·cases lo with
  | none => rfl
  | some v => exact clip_eq v n 0
 ·cases hi with
  | none => rfl
  | some v => exact clip_eq v n n
theorem places_gen (i j:Nat):Builtin.Slice.slicePlaces (i:Int) (j:Int) 1=j - i:=by
 unfold Builtin.Slice.slicePlaces
 have h1:(1:Int) > 0:=by omega
 simp only [h1,if_true,Int.ediv_one]
 split<;>omega
theorem slicePart_ {v:Value} {o:Option Int} {Q:Option Int→Shared→Prop} (p:IsPart v o) (h:Q o s):wpAny (model prog w) A (Builtin.Slice.slicePartIndex v) Q E s:=by
 cases p with
 | none=>exact slicePart_none h
 | int i t=>exact slicePart_int h
theorem sliceApplied_gen {sl:Addr} {vl vu:Value} {lo hi:Option Int} {n:Nat} {Q:Int×Int×Nat→Shared→Prop} (hs:s.heap.IsSliceOf sl vl vu .none) (pl:IsPart vl lo) (pu:IsPart vu hi)
  (h:Q (((sIx n 0 lo:Nat):Int),1,sIx n n hi - sIx n 0 lo) s):wpAny (model prog w) A (Builtin.Slice.sliceApplied (.ref sl) (pure (n:Int))) Q E s:=by
 obtain ⟨os,hos,hcs,hds⟩:=id hs
 unfold Builtin.Slice.sliceApplied Builtin.Slice.sliceFields
 refine wpAny_bind (wpAny_bind (wpAny_field hos hds (x:=vl) rfl (wpAny_bind (wpAny_field hos hds (x:=vu) rfl (wpAny_bind (wpAny_field hos hds (x:=.none) rfl (wpAny_pure ?_)))))))
 refine wpAny_bind (slicePart_none ?_)
 show wpAny _ _ (if ((1:Int)==0)=true then _ else _) _ _ s
 rw [if_neg (by decide)]
 refine wpAny_bind (slicePart_ pl (wpAny_bind (slicePart_ pu (wpAny_bind (wpAny_pure ?_)))))
 show wpAny _ _ (match Builtin.Slice.sliceAdjust lo hi 1 (n:Int) with | (lo,hi)=>pure (lo,(1:Int),Builtin.Slice.slicePlaces lo hi 1)) _ _ s
 rw [adjust_gen lo hi n]
 show wpAny _ _ (pure (((sIx n 0 lo:Nat):Int),(1:Int),Builtin.Slice.slicePlaces ((sIx n 0 lo:Nat):Int) ((sIx n n hi:Nat):Int) 1)) _ _ s
 rw [places_gen]
 exact wpAny_pure h
theorem pick_gen (xs:Array Value) (i k:Nat):((List.range k).filterMap fun (m:Nat)=>xs[((i:Int)+(m:Int)*1).toNat]?).toArray=((xs.toList.drop i).take k).toArray:=by
 have e:(fun (m:Nat)=>xs[((i:Int)+(m:Int)*1).toNat]?)=fun m=>xs[i+m]?:=by
  funext m
  have:((i:Int)+(m:Int)*1).toNat=i+m:=by omega
  rw [this]
 rw [e]
 have:=pick_run xs i k
 rw [List.filterMap_map] at this
 have e2:((fun x=>xs[x]?)∘fun x=>i+x)=fun m=>xs[i+m]?:=rfl
 rw [e2] at this
 rw [this]
theorem getItem_tuple_cut {t sl:Addr} {items:Array Value} {vl vu:Value} {lo hi:Option Int} {Q:Value→Shared→Prop} (ht:IsTup s.heap t items) (hs:s.heap.IsSliceOf sl vl vu .none) (pl:IsPart vl lo) (pu:IsPart vu hi)
  (hw:¬ (sIx items.size 0 lo=0∧sIx items.size items.size hi=items.size))
  (h:Q (.ref s.heap.objs.size) { s with heap:=s.heap.push { cls:=.type "tuple",data:=.seq ((items.toList.drop (sIx items.size 0 lo)).take (sIx items.size items.size hi - sIx items.size 0 lo)).toArray } })
  (hsz:items.size≤sizeLine):wpAny (model prog w) A (getItem (.ref t) (.ref sl)) Q E s:=by
 have htake:sizeOk (.seq ((items.toList.drop (sIx items.size 0 lo)).take (sIx items.size items.size hi - sIx items.size 0 lo)).toArray):=by
  show ((items.toList.drop (sIx items.size 0 lo)).take (sIx items.size items.size hi - sIx items.size 0 lo)).toArray.size≤sizeLine
  rw [List.size_toArray,List.length_take,List.length_drop,Array.length_toList]
  omega
 have hj:sIx items.size items.size hi≤items.size:=sIx_le _ _ (Nat.le_refl _) hi
 obtain ⟨os,hos,hcs,hds⟩:=id hs
 have hTs:s.TypeIs (.ref sl) "slice":=⟨os,hos,hcs⟩
 unfold getItem
 try with_reducible refine wpAny_holding ?_
 first | refine wpAny_bind (wpAny_pure ?_) | skip
 refine wpAny_bind (wpAny_sequenceKey ht.typeIs (by decide) ?_)
 refine wpAny_bind (wpAny_callSpecial?_slot (name:=Str.ofString "__getitem__") ht.typeIs PyProof.Rows.slot_tuple_getitem
  (wpAny_call_entry PyProof.Rows.slot_tuple_getitem ht.typeIs entry_tuple_getitem ?_ (args_tuple_getitem _ _)))
 show wpAny _ _ (Builtin.Tuple.tupleItemsOf (.ref t) >>= _) _ _ s
 refine wpAny_bind (tupleItemsOf_ ht ?_)
 refine wpAny_bind (wpAny_typeOf hTs ?_)
 rw [if_pos (by decide)]
 refine wpAny_bind (sliceApplied_gen hs pl pu ?_)
 have hno:¬ ((((sIx items.size 0 lo:Nat):Int)==0&&(1:Int)==1&&(sIx items.size items.size hi - sIx items.size 0 lo)==items.size)=true):=by
  intro q
  rw [Bool.and_eq_true,Bool.and_eq_true] at q
  have q1:((sIx items.size 0 lo:Nat):Int)=0:=eq_of_beq q.1.1
  have q2:sIx items.size items.size hi - sIx items.size 0 lo=items.size:=eq_of_beq q.2
  exact hw ⟨by omega,by omega⟩
 show wpAny _ _ (if (((sIx items.size 0 lo:Nat):Int)==0&&(1:Int)==1&&(sIx items.size items.size hi - sIx items.size 0 lo)==items.size)=true then _ else _) _ _ s
 rw [if_neg hno,pick_gen]
 first
  | exact wpAny_bind (m := Builtin.Tuple.tupleExact _) (wpAny_newObj_type (wpAny_pure ⟨_, rfl, wpAny_pure h⟩) htake)
  | exact wpAny_bind (m := Builtin.Tuple.tupleExact _) (wpAny_newObj_type (wpAny_bind (wpAny_pure (wpAny_pure ⟨_, rfl, wpAny_pure h⟩))) htake)
  | exact wpAny_bind (wpAny_bind (m := Builtin.Tuple.tupleExact _) (wpAny_newObj_type (wpAny_pure (wpAny_pure ⟨_, rfl, wpAny_pure h⟩)) htake))
  | exact wpAny_bind (wpAny_bind (m := Builtin.Tuple.tupleExact _) (wpAny_newObj_type (wpAny_pure ⟨_, rfl, wpAny_pure h⟩) htake))
end
end HT
namespace L2
open PySem PySem.Spec PyProof.Rows
abbrev TO:=St→Hp→(Option Int→Hp→Prop)→Prop
def PO (X:Cx) (e:Option Expr) (t:TO):Prop :=
 ∀ (pins:List (Addr×Obj)) (s:Shared) (σ:St) (H:Hp) (Q:Option Int→Hp→Prop),Inv X pins σ H s→t σ H Q →
  wpAny (model X.prog X.w) X.A (evalPart e X.env) (fun u s'=>∃ o H',Inv X pins σ H' s'∧IsPart u o∧Q o H') X.xe s
def tNoPart:TO:=fun _ H Q=>Q none H
def tPart (t:TE):TO:=fun σ H Q=>t σ H fun x H1=>∃ i,x=.int i∧Q (some i) H1
section
variable {X:Cx} {e:Expr} {te:TE} {lo hi:Option Expr} {tl th:TO} {pos p2:Pos}
theorem po_none:PO X none tNoPart:=by
 intro pins s σ H Q I h
 rw [evalPart_none]
 exact wpAny_pure ⟨none,H,I,.none,h⟩
theorem po_some (h:PE X e te):PO X (some e) (tPart te):=by
 intro pins s σ H Q I hw
 rw [evalPart_some]
 refine thn (h pins s σ H _ I hw) fun u s1 ⟨x,H1,I1,r1,q1⟩=>?_
 obtain ⟨i,rfl,q⟩:=q1
 obtain ⟨t,rfl⟩:=r1
 exact ⟨some i,H1,I1,.int i t,q⟩
def SlR (X:Cx) (r:V→Option Int→Option Int→Hp→VK→Prop):Prop :=
 ∀ (pins:List (Addr×Obj)) (s:Shared) (σ:St) (H:Hp) (x:V) (v vl vu:Value) (lo hi:Option Int) (sl:Addr) (Q:VK),Inv X pins σ H s→RelV x v→s.heap.IsSliceOf sl vl vu .none→IsPart vl lo→IsPart vu hi→r x lo hi H Q →
  ∃ T id,typeLookup (.type T) "__getitem__"=pure (some (.builtin id))∧s.TypeIs v T∧wpAny (model X.prog X.w) X.A (getItem v (.ref sl)) (EP X pins σ Q) X.xe s
def tSl (r:V→Option Int→Option Int→Hp→VK→Prop) (te:TE) (tl th:TO):TE:=fun σ H Q=>te σ H fun x H1=>tl σ H1 fun l H2=>th σ H2 fun u H3=>r x l u H3 Q
theorem pe_slice {r:V→Option Int→Option Int→Hp→VK→Prop} (hr:SlR X r) (he:PE X e te) (hl:PO X lo tl) (hu:PO X hi th):PE X (.Subscript e (.Slice lo hi none p2) pos) (tSl r te tl th):=by
 intro pins s σ H Q I h
 refine Subscript_ (thn (he pins s σ H _ I h) fun v s1 ⟨x,H1,I1,r1,q1⟩=>?_)
 refine wpAny_Slice (thn (hl pins s1 σ H1 _ I1 q1) fun vl s2 ⟨l,H2,I2,pl,q2⟩=>thn (hu pins s2 σ H2 _ I2 q2) fun vu s3 ⟨u,H3,I3,pu,q3⟩=>?_)
 rw [evalPart_none]
 refine wpAny_pure ?_
 have I4:Inv X pins σ H3 { s3 with heap:=s3.heap.push { cls:=.type "slice",data:=.fields #[vl,vu,.none] } }:=I3.kept (t':=s3.toks) fun b ob q=>Heap.get?_push_of_some _ q
 obtain ⟨T,id,hT,ht,hg⟩:=hr pins { s3 with heap:=s3.heap.push { cls:=.type "slice",data:=.fields #[vl,vu,.none] } } σ H3 x v vl vu l u s3.heap.objs.size Q I4 r1 (Heap.IsSliceOf.new ..) pl pu q3
 show wpAny (model X.prog X.w) X.A (subscriptTail e (.Slice lo hi none p2) v (.ref s3.heap.objs.size)) (EP X pins σ Q) X.xe { s3 with heap:=s3.heap.push { cls:=.type "slice",data:=.fields #[vl,vu,.none] } }
 exact tail_any (ops:=[.ref s3.heap.objs.size,v]) ht hT hg (by with_unfolding_all rfl)
def cutV (xs:List V) (lo hi:Option Int):List V:=(xs.drop (HT.sIx xs.length 0 lo)).take (HT.sIx xs.length xs.length hi - HT.sIx xs.length 0 lo)
theorem cutV_length (xs:List V) (lo hi:Option Int):(cutV xs lo hi).length≤xs.length:=by
 unfold cutV
 rw [List.length_take,List.length_drop]
 omega
def rSlT (K:PySem.W.Frag):V→Option Int→Option Int→Hp→VK→Prop:=fun x lo hi H Q=>∃ a xs,x=.ref a∧SqT K H a xs ∧
 ¬ (HT.sIx xs.length 0 lo=0∧HT.sIx xs.length xs.length hi=xs.length)∧∀ p,H p=none→Q (.ref p) (upd H p (.tup (cutV xs lo hi)))
theorem sl_tup:SlR X (rSlT X.K):=by
 intro pins s σ H x v vl vu lo hi sl Q I rx hs pl pu h
 obtain ⟨a,xs,rfl,hx,hw,q⟩:=h
 cases rx
 obtain ⟨its,r,ht,hz⟩:=I.tuple hx
 have hlen:its.toArray.size=xs.length:=by rw [List.size_toArray]; exact r.length.symm
 refine ⟨"tuple",_,PyProof.Rows.slot_tuple_getitem.lookup,ht.typeIs,?_⟩
 refine HT.getItem_tuple_cut ht hs pl pu (by rw [hlen]; exact hw) ?_ (by rw [hlen]; exact hz)
 rw [hlen]
 refine ⟨.ref s.heap.objs.size,_,I.laid (t':=s.toks) (o:=.tup (cutV xs lo hi)) (fun b ob q=>Heap.get?_push_of_some _ q) (Nat.le_refl _) ?_,rfl,q _ (I.hok.fresh (Nat.le_refl _))⟩
 exact ⟨Nat.le_trans (cutV_length xs lo hi) hz,_,(r.drop (HT.sIx xs.length 0 lo)).take (HT.sIx xs.length xs.length hi - HT.sIx xs.length 0 lo),IsTup.new _ _⟩
end
end L2
namespace L2
open PySem PySem.Spec PyProof.Rows
def ixN (n:Nat) (i:Int):Option Nat:=if 0≤i then (if i<n then some i.toNat else none) else if -(n:Int)≤i then some (i+n).toNat else none
def atI {α:Type} (xs:List α) (i:Int):Option α:=(ixN xs.length i).bind fun j=>xs[j]?
theorem ixN_seq {n:Nat} {i:Int} {j:Nat} (h:ixN n i=some j):seqIndex? i n=some j∧j<n∧-(n:Int)≤i∧i<n:=by
 unfold ixN at h
 by_cases h0:0≤i
 ·rw [if_pos h0] at h
  by_cases h1:i<n
  ·rw [if_pos h1] at h
   have e:i.toNat=j:=Option.some.inj h
   exact ⟨by rw [seqIndex_of h0 h1,e],by omega,by omega,h1⟩
  ·rw [if_neg h1] at h; cases h
 ·rw [if_neg h0] at h
  by_cases h1:-(n:Int)≤i
  ·rw [if_pos h1] at h
   have e:(i+n).toNat=j:=Option.some.inj h
   exact ⟨by rw [seqIndex_neg (by omega) h1,e],by omega,h1,by omega⟩
  ·rw [if_neg h1] at h; cases h
theorem atI_get {α:Type} {xs:List α} {i:Int} {v:α} (h:atI xs i=some v):∃ j,seqIndex? i xs.length=some j∧xs[j]?=some v∧j<xs.length∧-(xs.length:Int)≤i∧i<xs.length:=by
 unfold atI at h
 cases e:ixN xs.length i with
 | none=>rw [e] at h; cases h
 | some j =>
  rw [e] at h
  obtain ⟨h1,h2,h3,h4⟩:=ixN_seq e
  exact ⟨j,h1,h,h2,h3,h4⟩
theorem atI_nat {α:Type} {xs:List α} {j:Nat} {v:α} (h:xs[j]?=some v):atI xs (j:Int)=some v:=by
 have hj:j<xs.length:=(List.getElem?_eq_some_iff.mp h).1
 have e:ixN xs.length (j:Int)=some j:=by
  unfold ixN
  rw [if_pos (by omega),if_pos (by omega)]; simp
 unfold atI; rw [e]; exact h
def PlainIx (b:Expr):Prop:=∀ o i,subscripted b false o i=operate [o,i] (getItem o i)
def IxR (X:Cx) (r:R2):Prop :=
 ∀ (value slice:Expr) (pins:List (Addr×Obj)) (s:Shared) (σ:St) (H:Hp) (x y:V) (v u:Value) (Q:VK),Inv X pins σ H s→RelV x v→RelV y u→r x y H Q →
  subscripted slice false v u=operate [v,u] (getItem v u)→wpAny (model X.prog X.w) X.A (subscriptTail value slice v u) (EP X pins σ Q) X.xe s
def MtR (X:Cx) (id:String) (r:V→List V→Hp→VK→Prop):Prop :=
 ∀ (pins:List (Addr×Obj)) (s:Shared) (σ:St) (H:Hp) (x:V) (xs:List V) (v:Value) (us:List Value) (Q:VK),Inv X pins σ H s→RelV x v→Vals xs us→r x xs H Q →
  wpAny (model X.prog X.w) X.A (call (.builtin id) (v::us)) (EP X pins σ Q) X.xe s
section
variable {X:Cx} {a b:Expr} {ta tb:TE} {pos:Pos}
theorem pe_ix {r:R2} (hr:IxR X r) (ha:PE X a ta) (hb:PE X b tb) (hs:PlainIx b):PE X (.Subscript a b pos) (tOp r ta tb):=by
 intro pins s σ H Q I h
 exact Subscript_ (binT ha hb I h fun v u s2 x y H2 I2 rx ry q=>hr a b pins s2 σ H2 x y v u Q I2 rx ry q (hs _ _))
def rIxL (K:PySem.W.Frag):R2:=fun x y H Q=>∃ p xs i v,x=.ref p∧y=.int i∧SqL K H p xs∧atI xs i=some v∧Q v H
def rIxT (K:PySem.W.Frag):R2:=fun x y H Q=>∃ p xs i v,x=.ref p∧y=.int i∧SqT K H p xs∧atI xs i=some v∧Q v H
def rIxS:R2:=fun x y H Q=>∃ z i c,x=.str z∧y=.int i∧z.length≤sizeLine∧atI z.cps.toList i=some c∧Q (.str ⟨#[c]⟩) H
theorem ix_list:IxR X (rIxL X.K):=by
  intro value slice pins s σ H x y v u Q I rx ry h hs
  obtain ⟨p,xs,i,z,rfl,rfl,hq,he,q⟩:=h
  cases rx
  obtain ⟨t,rfl⟩:=ry
  obtain ⟨its,r,pl,hz⟩:=I.list hq
  obtain ⟨j,h1,h2,h3,h4,h5⟩:=atI_get he
  obtain ⟨w,ew,rw'⟩:=r.get h2
  have hl:=r.length
  have hn:=line63
  have fin:EP X pins σ Q w s:=⟨z,H,I,rw',q⟩
  by_cases h0:0≤i
  · have hj:i.toNat=j:=by
      rw [seqIndex_of h0 h5] at h1
      exact Option.some.inj h1
    exact item_listR pl.isList h0 (by omega) (by rw [hj]; simpa using ew) fin hs
  · have hj:(i+(its.toArray.size:Int)).toNat=j:=by
      rw [seqIndex_neg (by omega) h4] at h1
      rw [List.size_toArray,← hl]
      exact Option.some.inj h1
    exact subscriptTail_builtinR (x:=w) pl.isList.typeIs slot_list_getitem.lookup
      (wpAny_getItem_list_neg (Q:=fun r s'=>r=w∧EP X pins σ Q r s') pl.isList (by omega) (by rw [List.size_toArray]<;>omega) (by omega) (by rw [hj]; simpa using ew) ⟨rfl,fin⟩) hs
theorem ix_tup:IxR X (rIxT X.K):=by
 intro value slice pins s σ H x y v u Q I rx ry h hs
 obtain ⟨p,xs,i,z,rfl,rfl,hq,he,q⟩:=h
 cases rx
 obtain ⟨t,rfl⟩:=ry
 obtain ⟨its,r,pl,hz⟩:=I.tuple hq
 obtain ⟨j,h1,h2,h3,h4,h5⟩:=atI_get he
 obtain ⟨w,ew,rw'⟩:=r.get h2
 have hl:=r.length
 have hn:=line63
 have fin:EP X pins σ Q w s:=⟨z,H,I,rw',q⟩
 exact subscriptTail_builtinR (x:=w) pl.typeIs slot_tuple_getitem.lookup
  (getItem_tuple (j:=j) (Q:=fun r s'=>r=w∧EP X pins σ Q r s') pl (by omega) (by omega) (by rw [List.size_toArray,← hl]; exact h1) (by simpa using ew) ⟨rfl,fin⟩) hs
theorem ix_str:IxR X rIxS:=by
 intro value slice pins s σ H x y v u Q I rx ry h hs
 obtain ⟨z,i,c,rfl,rfl,hz,he,q⟩:=h
 obtain ⟨t,rfl⟩:=rx
 obtain ⟨t',rfl⟩:=ry
 obtain ⟨j,h1,h2,h3,h4,h5⟩:=atI_get he
 have hl:z.cps.toList.length=z.length:=by simp [Str.length]
 rw [hl] at h1 h4 h5
 have hn:=line63
 exact tail_any (typeIs_str s z t) slot_str_getitem.lookup (getItem_str (c:=c) (by
  have e1:decide (i < -(2 ^ 63:Int))=false:=decide_eq_false (by omega)
  have e2:decide (i≥2 ^ 63)=false:=decide_eq_false (by omega)
  rw [e1,e2,Bool.or_false]) (by rw [h1]; simpa using h2) ⟨.str ⟨#[c]⟩,H,I.tok _,⟨_,rfl⟩,q⟩) hs
theorem mapSeq_set (its:List Value) (n j:Nat) (u:Value):Obj.mapSeq (·.setIfInBounds j u) { cls:=.type "list",data:=.seq its.toArray n }={ cls:=.type "list",data:=.seq (its.set j u).toArray n }:=by
 simp [Obj.mapSeq]
theorem Inv.lst {pins:List (Addr×Obj)} {σ:St} {H:Hp} {s:Shared} {p:Addr} {xs:List V} (I:Inv X pins σ H s) (h:H p=some (.lst xs)) :
  ∃ (its:List Value) (n:Nat),Vals xs its∧s.heap.get? p=some { cls:=.type "list",data:=.seq its.toArray n }∧xs.length≤sizeLine:=by
 obtain ⟨z,its,n,r,e⟩:=I.hok p _ h
 exact ⟨its,n,r,e,z⟩
theorem Inv.lstUpd {pins:List (Addr×Obj)} {σ:St} {H:Hp} {s:Shared} {p:Addr} {xs ys:List V} {its its':List Value} {n n':Nat} {f:Obj→Obj} (I:Inv X pins σ H s) (h:H p=some (.lst xs))
  (ho:s.heap.get? p=some { cls:=.type "list",data:=.seq its.toArray n }) (hf:f { cls:=.type "list",data:=.seq its.toArray n }={ cls:=.type "list",data:=.seq its'.toArray n' }) (r:Vals ys its') (hz:ys.length≤sizeLine) (t:Nat) :
  Inv X pins σ (upd H p (.lst ys)) { s with heap:=s.heap.update p f,toks:=t }:=by
 have e:(s.heap.update p f).get? p=some { cls:=.type "list",data:=.seq its'.toArray n' }:=by
  rw [Heap.get?_update_self f ho (by rw [hf]<;>rfl),hf]
 refine I.write (x:=p) (e:=p) (by rw [h]; trivial) (.inl rfl) (fun b u hb q=>(Heap.get?_update_other _ _ (Ne.symm hb)).trans q) ⟨_,e⟩ ?_
 exact ⟨hz,its',n',r,e⟩
def rSetL:V→V→V→Hp→(Hp→Prop)→Prop:=fun o i v H Q=>∃ p xs k j,o=.ref p∧i=.int k∧H p=some (.lst xs)∧ixN xs.length k=some j∧Q (upd H p (.lst (xs.set j v)))
theorem set_list:PSet X rSetL:=by
  intro pins s σ H o i v ov iv u Q I ro ri rv h
  obtain ⟨p,xs,k,j,rfl,rfl,hp,hj,q⟩:=h
  cases ro
  obtain ⟨t,rfl⟩:=ri
  obtain ⟨its,n,r,ho,hz⟩:=I.lst hp
  obtain ⟨h1,h2,h3,h4⟩:=ixN_seq hj
  have hl:=r.length
  have hn:=line63
  have I':Inv X pins σ (upd H p (.lst (xs.set j v))) { s with heap:=s.heap.update p (Obj.mapSeq (·.setIfInBounds j u)) } :=
    I.lstUpd hp ho (mapSeq_set its n j u) (r.set rv j) (by rw [List.length_set]; exact hz) s.toks
  by_cases h0:0≤k
  · have hk:k.toNat=j:=by
      rw [seqIndex_of h0 h4] at h1
      exact Option.some.inj h1
    exact PySem.W.ki_setAt ho h0 (by omega) (by rw [List.size_toArray,← hl]; exact h4) (by rw [hk]; exact ⟨_,I',q⟩)
  · have hk:(k+(its.toArray.size:Int)).toNat=j:=by
      rw [seqIndex_neg (by omega) h3] at h1
      rw [List.size_toArray,← hl]
      exact Option.some.inj h1
    exact PySem.W.ki_setBack ho (by omega) (by rw [List.size_toArray,← hl]; exact h3) (by omega) (by rw [hk]; exact ⟨_,I',q⟩)
theorem slice_bounds (lo hi:Option Int) (n:Nat):(sliceBounds lo hi none n).1=((HT.sIx n 0 lo:Nat):Int)∧(sliceBounds lo hi none n).2.1=((HT.sIx n n hi:Nat):Int)∧(sliceBounds lo hi none n).2.2=1:=by
 refine ⟨?_,?_,rfl⟩
 ·cases lo with
  | none => simp [sliceBounds, HT.sIx]
  | some i =>
   simp only [sliceBounds,HT.sIx,Option.getD_none,show (1:Int) > 0 by decide,if_true]
   by_cases h:i<0
   ·simp only [h,if_true]<;>omega
   ·simp only [h,if_false]<;>omega
 ·cases hi with
  | none => simp [sliceBounds, HT.sIx]
  | some i =>
   simp only [sliceBounds,HT.sIx,Option.getD_none,show (1:Int) > 0 by decide,if_true]
   by_cases h:i<0
   ·simp only [h,if_true]<;>omega
   ·simp only [h,if_false]<;>omega
theorem slicePick_cut (its:List Value) (lo hi:Option Int):slicePick its.toArray lo hi none=((its.drop (HT.sIx its.length 0 lo)).take (HT.sIx its.length its.length hi - HT.sIx its.length 0 lo)).toArray:=by
 obtain ⟨h1,h2,h3⟩:=slice_bounds lo hi its.toArray.size
 unfold slicePick
 rw [h1,h2,h3]
 simp only [sliceRange_one,pick_run,List.size_toArray]<;>rfl
def rSlL (K:PySem.W.Frag):V→Option Int→Option Int→Hp→VK→Prop:=fun x lo hi H Q=>∃ a xs,x=.ref a∧SqL K H a xs∧∀ p,H p=none→Q (.ref p) (upd H p (.lst (cutV xs lo hi)))
theorem sl_list:SlR X (rSlL X.K):=by
 intro pins s σ H x v vl vu lo hi sl Q I rx hs pl pu h
 obtain ⟨a,xs,rfl,hx,q⟩:=h
 cases rx
 obtain ⟨its,r,ht,hz⟩:=I.list hx
 have hlen:=r.length
 refine ⟨"list",_,slot_list_getitem.lookup,ht.isList.typeIs,?_⟩
 refine wpAny_getItem_list_slice ht.isList hs pl pu .none (by simp) ?_ (by rw [List.size_toArray]<;>omega)
 rw [slicePick_cut,← hlen]
 refine ⟨.ref s.heap.objs.size,_,I.laid (t':=s.toks) (o:=.lst (cutV xs lo hi)) (fun b ob q=>Heap.get?_push_of_some _ q) (Nat.le_refl _) ?_,rfl,q _ (I.hok.fresh (Nat.le_refl _))⟩
 exact ⟨Nat.le_trans (cutV_length xs lo hi) hz,_,0,(r.drop (HT.sIx xs.length 0 lo)).take (HT.sIx xs.length xs.length hi - HT.sIx xs.length 0 lo),Heap.get?_push_size _ rfl⟩
theorem call_len_seq:CallR X (.builtin "len") (fun xs H Q=>∃ p ys,xs=[.ref p]∧(SqL X.K H p ys∨SqT X.K H p ys)∧Q (.int ys.length) H):=by
 intro pins s σ H xs us Q I r h
 obtain ⟨p,ys,rfl,hq,q⟩:=h
 obtain ⟨u,rfl,rx⟩:=vals1 r
 cases rx
 have hn:=line63
 rcases hq with hq | hq
 ·obtain ⟨its,r',pl,hz⟩:=I.list hq
  have hlen:=r'.length
  exact Calls.call_len_list pl.isList (by simp only [List.size_toArray]<;>omega) ⟨.int ys.length,H,I.tok _,⟨s.toks+1,by rw [List.size_toArray,hlen]⟩,q⟩
 ·obtain ⟨its,r',pl,hz⟩:=I.tuple hq
  have hlen:=r'.length
  exact len_tuple pl (by simp only [List.size_toArray]<;>omega) ⟨.int ys.length,H,I.tok _,⟨s.toks+1,by rw [List.size_toArray,hlen]⟩,q⟩
theorem call_len_str:CallR X (.builtin "len") (fun xs H Q=>∃ z,xs=[.str z]∧z.length≤sizeLine∧Q (.int z.length) H):=by
 intro pins s σ H xs us Q I r h
 obtain ⟨z,rfl,hz,q⟩:=h
 obtain ⟨u,rfl,t,rfl⟩:=vals1 r
 have hn:=line63
 exact len_str (by omega) ⟨.int z.length,H,I.tok _,⟨_,rfl⟩,q⟩
theorem call_list_of:CallR X (.type "list") (fun xs H Q=>∃ p ys,xs=[.ref p]∧(SqL X.K H p ys∨SqT X.K H p ys)∧∀ l,H l=none→Q (.ref l) (upd H l (.lst ys))):=by
  intro pins s σ H xs us Q I r h
  obtain ⟨p,ys,rfl,hq,q⟩:=h
  obtain ⟨u,rfl,rx⟩:=vals1 r
  cases rx
  have fin:∀ (its:List Value),Vals ys its→ys.length≤sizeLine→∀ (h':Heap) (c':Nat),(∀ b o',s.heap.get? b=some o'→h'.get? b=some o') →
      h'.get? s.heap.objs.size=some { cls:=.type "list",dict:=none,data:=.seq its.toArray c',slots:=#[] }→EP X pins σ Q (.ref s.heap.objs.size) { s with heap:=h' }:=fun its r' hz h' c' kp e =>
    ⟨.ref s.heap.objs.size,_,I.laid (t':=s.toks) kp (Nat.le_refl _) (show ObjOk X.prog X.w _ h' _ (.lst ys) from ⟨hz,its,c',r',e⟩),rfl,q _ (I.hok.fresh (Nat.le_refl _))⟩
  rcases hq with hq | hq
  · obtain ⟨its,r',pl,hz⟩:=I.list hq
    have hlen:=r'.length
    obtain ⟨o,ho,hc,n,hd⟩:=pl.isList
    exact call_list_seq p (.inl rfl) ho hc hd (fun h' c' kp e=>fin its r' hz h' c' kp e) (by simp only [List.size_toArray]<;>omega)
  · obtain ⟨its,r',pl,hz⟩:=I.tuple hq
    have hlen:=r'.length
    obtain ⟨o,ho,hc,n,hd⟩:=pl
    exact call_list_seq p (.inr rfl) ho hc hd (fun h' c' kp e=>fin its r' hz h' c' kp e) (by simp only [List.size_toArray]<;>omega)
theorem call_tuple_of:CallR X (.type "tuple") (fun xs H Q=>∃ p ys,xs=[.ref p]∧((SqL X.K H p ys∧∀ l,H l=none→Q (.ref l) (upd H l (.tup ys)))∨(SqT X.K H p ys∧Q (.ref p) H))):=by
 intro pins s σ H xs us Q I r h
 obtain ⟨p,ys,rfl,h⟩:=h
 obtain ⟨u,rfl,rx⟩:=vals1 r
 cases rx
 rcases h with ⟨hq,q⟩ | ⟨hq,q⟩
 ·obtain ⟨its,r',pl,hz⟩:=I.list hq
  have hlen:=r'.length
  refine call_tuple_list pl.isList (fun h' kp=>?_) (by simp only [List.size_toArray]<;>omega)
  have I1:Inv X pins σ H { s with heap:=h' }:=I.kept (t':=s.toks) kp
  have I2:Inv X pins σ (upd H h'.objs.size (.tup ys)) { s with heap:=h'.push { cls:=.type "tuple",data:=.seq its.toArray } } :=
   I1.laid (t':=s.toks) (fun b o e=>Heap.get?_push_of_some _ e) (Nat.le_refl _) (show ObjOk X.prog X.w _ _ _ (.tup ys) from ⟨hz,its,r',IsTup.new _ _⟩)
  exact ⟨.ref h'.objs.size,_,I2,rfl,q _ (I1.hok.fresh (Nat.le_refl _))⟩
 ·obtain ⟨its,r',pl,hz⟩:=I.tuple hq
  exact call_tuple_same pl ⟨.ref p,H,I,rfl,q⟩
def tyV (K:PySem.W.Frag) (T:String) (x:V) (H:Hp):Prop:=match x with
  | .str _ => T = "str"
  | .int _ => T = "int"
  | .ref p => (T = "list" ∧ ∃ xs, SqL K H p xs) ∨ (T = "tuple" ∧ ∃ o, K.lookup p = some o ∧ o.cls = .type "tuple" ∧ o.dict = none) ∨
      (T="dict"∧((∃ kvs,H p=some (.dK kvs))∨∃ kvs,H p=some (.dT kvs)))∨(T="set"∧∃ S n,H p=some (.set S n))
  | _ => False
theorem tyV_is {pins:List (Addr×Obj)} {σ:St} {H:Hp} {s:Shared} {T:String} {x:V} {v:Value} (I:Inv X pins σ H s) (r:RelV x v) (ty:tyV X.K T x H) :
    s.TypeIs v T∧∀ a,v=.ref a→∃ ob,s.heap.get? a=some ob∧ob.dict=none:=by
  cases x with
  | str z =>
    obtain ⟨t,rfl⟩:=r
    cases (show T="str" from ty)
    exact ⟨typeIs_str s z t,fun _ e=>nomatch e⟩
  | int i =>
    obtain ⟨t,rfl⟩:=r
    cases (show T="int" from ty)
    exact ⟨typeIs_int s i t,fun _ e=>nomatch e⟩
  | ref p =>
    cases r
    rcases ty with ⟨rfl,xs,hq⟩ | ⟨rfl,o,hk,hc,hd⟩ | ⟨rfl,hk⟩ | ⟨rfl,S,n,hk⟩
    · obtain ⟨its,_,pl,_⟩:=I.list hq
      refine ⟨pl.isList.typeIs,fun a e=>?_⟩
      cases e
      obtain ⟨o,n,e,c,hd,_⟩:=pl
      exact ⟨o,e,hd⟩
    · refine ⟨⟨o,I.kIn p o hk,hc⟩,fun a e=>?_⟩
      cases e
      exact ⟨o,I.kIn _ o hk,hd⟩
    · have z:∃ o,s.heap.get? p=some o∧o.ExactDict:=by
        rcases hk with ⟨kvs,hk⟩ | ⟨kvs,hk⟩
        · obtain ⟨_,_,_,_,o,_,_,e,ex,_⟩:=I.hok p _ hk
          exact ⟨o,e,ex⟩
        · obtain ⟨_,_,_,_,o,_,_,e,ex,_⟩:=I.hok p _ hk
          exact ⟨o,e,ex⟩
      obtain ⟨o,e,ex⟩:=z
      refine ⟨⟨o,e,ex.1⟩,fun a e2=>?_⟩
      cases e2
      exact ⟨o,e,ex.2.1⟩
    · obtain ⟨o,_,_,_,e,ex,_⟩:=I.hok p _ hk
      refine ⟨⟨o,e,ex.1⟩,fun a e2=>?_⟩
      cases e2
      exact ⟨o,e,ex.2.1⟩
  | _ => exact False.elim ty
def tBM0 (K:PySem.W.Frag) (T:String) (r:V→List V→Hp→VK→Prop) (to:TE):TE:=fun σ H Q=>to σ H fun x H1=>tyV K T x H1∧r x [] H1 Q
def tBM (K:PySem.W.Frag) (T:String) (r:V→List V→Hp→VK→Prop) (to:TE) (t:TA):TE:=fun σ H Q=>to σ H fun x H1=>tyV K T x H1∧t σ H1 fun xs H2=>r x xs H2 Q
variable {o e:Expr} {es:List Expr} {to:TE} {t:TA} {name:Str} {apos cpos:Pos} {T id:String} {r:V→List V→Hp→VK→Prop}
theorem pe_bm0 (pa:PlainAttrs T) (slot:Slot T name id) (hty:typeOf (.builtin id)=pure (.type "method_descriptor")) (hm:MtR X id r) (ho:PE X o to)
  (hbase:attributeBase o name X.env (eval o X.env)=eval o X.env:=by rfl) (hline:(apos.endLine==cpos.line)=true:=by rfl):PE X (.Call (.Attribute o name apos) [] [] cpos) (tBM0 X.K T r to):=by
 intro pins s σ H Q I h
 refine wpAny_Call_method0_late hbase hline (thn (ho pins s σ H _ I h) fun v s1 ⟨x,H1,I1,r1,ty,q1⟩=>?_)
 obtain ⟨h1,h2⟩:=tyV_is I1 r1 ty
 exact ⟨T,id,pa,slot,hty,h1,h2,Calls.callWith_builtin rfl (PySem.evalArgs_none (hm pins s1 σ H1 x [] v [] Q I1 r1 .nil q1))⟩
theorem pe_bm (pa:PlainAttrs T) (slot:Slot T name id) (hty:typeOf (.builtin id)=pure (.type "method_descriptor")) (hm:MtR X id r) (ho:PE X o to) (ha:PA X (e::es) t)
  (hbase:attributeBase o name X.env (eval o X.env)=eval o X.env:=by rfl)
  (hfew:((backTo cpos (starEach (e::es) X.env)).all (fun x=>!x.1)&&(backToKw cpos (keywordEach [] X.env)).all (fun x=>x.1.isSome)
   && decide ((e::es).length+([]:List Keyword).length+(if ([]:List Keyword).isEmpty then 0 else 1)<30))=true:=by rfl)
  (hline:(apos.endLine==cpos.line)=true:=by rfl) (hs:starEach (e::es) X.env=(false,eval e X.env)::starEach es X.env:=by rfl) (hplain:(backTo cpos (starEach es X.env)).any (·.1)=false:=by rfl) :
  PE X (.Call (.Attribute o name apos) (e::es) [] cpos) (tBM X.K T r to t):=by
 intro pins s σ H Q I h
 refine wpAny_Call_method_late hbase hfew hline rfl (thn (ho pins s σ H _ I h) fun v s1 ⟨x,H1,I1,r1,ty,q1⟩=>?_)
 obtain ⟨h1,h2⟩:=tyV_is I1 r1 ty
 refine ⟨T,id,pa,slot,hty,h1,h2,?_⟩
 have hA:=ha cpos pins s1 σ H1 _ I1 q1
 rw [hs] at hA ⊢
 refine Calls.callWith_builtin (by show (false||(backTo cpos (starEach es X.env)).any (·.1))=false; rw [hplain]<;>rfl) (Calls.evalArgs_plain ?_)
 exact thn hA fun us s2 ⟨vs,H2,I2,r2,q2⟩=>hm pins s2 σ H2 x vs v us Q I2 r1 r2 q2
/- xs.append(e),list.index on a module's tuple .. are MtR facts of 06m -/
end
end L2
namespace L2
open PySem PySem.Spec PyProof.Rows
def MtM (X:Cx) (id:String) (r:V→List V→Hp→VK→Prop):Prop :=
 ∀ (pins:List (Addr×Obj)) (s:Shared) (σ:St) (H:Hp) (x:V) (xs:List V) (v:Value) (us:List Value) (Q:VK),Inv X pins σ H s→RelV x v→Vals xs us→r x xs H Q →
  wpAny (model X.prog X.w) X.A (call (.builtin id) (v::us)) (EP X pins σ Q) X.xe s
theorem Vals.one:∀ {x:V} {us:List Value},Vals [x] us→∃ u,us=[u]∧RelV x u
 | _,_,.cons r .nil=>⟨_,rfl,r⟩
theorem Vals.two:∀ {x y:V} {us:List Value},Vals [x,y] us→∃ u v,us=[u,v]∧RelV x u∧RelV y v
 | _,_,_,.cons r (.cons q .nil)=>⟨_,_,rfl,r,q⟩
theorem Vals.zero:∀ {us:List Value},Vals [] us→us=[]
 | _,.nil=>rfl
theorem Vals.dropLast {xs:List V} {us:List Value} (h:Vals xs us):Vals xs.dropLast us.dropLast:=by
 induction h with
 | nil=>exact .nil
 | cons r t ih =>
  cases t with
  | nil => exact .nil
  | cons q t' => exact .cons r ih
theorem Vals.eraseIdx:∀ {xs:List V} {us:List Value} (i:Nat),Vals xs us→Vals (xs.eraseIdx i) (us.eraseIdx i)
 | _,_,_,.nil=>.nil
 | _,_,0,.cons _ t=>t
 | _,_,i+1,.cons r t=>.cons r (Vals.eraseIdx i t)
theorem Vals.rep {xs:List V} {us:List Value} (h:Vals xs us):∀ k:Nat,Vals (List.replicate k xs).flatten (List.replicate k us).flatten
 | 0=>.nil
 | k+1=>by
  rw [List.replicate_succ,List.replicate_succ,List.flatten_cons,List.flatten_cons]
  exact Vals.append h (Vals.rep h k)
theorem erase_last {α:Type} (l:List α):l.eraseIdx (l.length - 1)=l.dropLast:=by
 induction l with
 | nil=>rfl
 | cons a r ih =>
  cases r with
  | nil => rfl
  | cons b r =>
   have e:(a::b::r).length - 1=((b::r).length - 1)+1:=by
    have h1:(a::b::r).length=r.length+2:=rfl
    have h2:(b::r).length=r.length+1:=rfl
    omega
   rw [e,List.eraseIdx_cons_succ,ih]
   all_goals rfl
theorem len_erase {α:Type}:∀ (l:List α) (i:Nat),(l.eraseIdx i).length≤l.length
 | [],_=>Nat.le_refl _
 | _::_,0=>Nat.le_succ _
 | _::r,i+1=>Nat.succ_le_succ (len_erase r i)
theorem foldl_rep (its:List Value):∀ (k:Nat) (acc:List Value),
  List.foldl (fun x1 x2=>x1++x2) acc.toArray (List.replicate k its.toArray)=(acc++(List.replicate k its).flatten).toArray
 | 0,acc=>by simp
 | k+1,acc=>by
  have e:acc.toArray++its.toArray=(acc++its).toArray:=by simp
  have e2:(acc++its)++(List.replicate k its).flatten=acc++(List.replicate (k+1) its).flatten:=by
   rw [List.replicate_succ,List.flatten_cons,List.append_assoc]
  rw [← e2,← foldl_rep its k (acc++its),← e,List.replicate_succ,List.foldl_cons]
section
variable {X:Cx} {pins:List (Addr×Obj)} {σ:St} {H:Hp} {s:Shared} {l b:Addr} {xs ys zs:List V}
theorem Inv.lset {its its':List Value} {n:Nat} {f:Array Value→Array Value} {t':Nat} (I:Inv X pins σ H s) (hH:H l=some (.lst xs))
  (e:s.heap.get? l=some { cls:=.type "list",data:=.seq its.toArray n }) (hf:f its.toArray=its'.toArray) (hv:Vals ys its') (hz:ys.length≤sizeLine) :
  Inv X pins σ (upd H l (.lst ys)) { s with heap:=s.heap.update l (Obj.mapSeq f),toks:=t' }:=by
 have q:=PySem.IsL.update e f
 rw [hf] at q
 refine I.write (x:=l) (e:=l) (by rw [hH]; exact trivial) (.inl rfl) (fun b' u hb hu=>(Heap.get?_update_other s.heap (Obj.mapSeq f) (Ne.symm hb)).trans hu) ⟨_,q⟩ ?_
 exact ⟨hz,its',_,hv,q⟩
theorem Inv.lnew {its:List Value} {t':Nat} (I:Inv X pins σ H s) (hv:Vals ys its) (hz:ys.length≤sizeLine) :
  Inv X pins σ (upd H s.heap.objs.size (.lst ys)) { s with heap:=s.heap.push { cls:=.type "list",data:=.seq its.toArray },toks:=t' } :=
 I.laid (fun _ _ q=>Heap.get?_push_of_some _ q) (Nat.le_refl _) ⟨hz,its,0,hv,Heap.get?_push_size _ rfl⟩
theorem Inv.fresh (I:Inv X pins σ H s):H s.heap.objs.size=none:=I.hok.fresh (Nat.le_refl _)
theorem Inv.lstM (I:Inv X pins σ H s) (hH:H l=some (.lst xs)):xs.length≤sizeLine∧∃ (its:List Value) (n:Nat),Vals xs its∧xs.length=its.length∧s.heap.get? l=some { cls:=.type "list",data:=.seq its.toArray n }:=by
 obtain ⟨z,its,n,r,e⟩:=I.hok l _ hH
 exact ⟨z,its,n,r,r.length,e⟩
theorem notLongL {n:Nat} (h:n≤sizeLine):Builtin.List.listTooLong n=false:=by
 unfold Builtin.List.listTooLong
 exact decide_eq_false (by omega)
end
section
variable {X:Cx}
def rAppend:V→List V→Hp→VK→Prop:=fun x vs H Q=>∃ l xs y,x=.ref l∧vs=[y]∧H l=some (.lst xs)∧xs.length<sizeLine∧Q .non (upd H l (.lst (xs++[y])))
theorem mt_append:MtM X "list.append" rAppend:=by
 intro pins s σ H x vs v us Q I rx rv h
 obtain ⟨l,xs,y,rfl,rfl,hH,hz,q⟩:=h
 cases rx
 obtain ⟨u,rfl,ru⟩:=rv.one
 obtain ⟨z,its,n,r,hl,e⟩:=I.lstM hH
 refine call_meets F.slot_list_append ⟨_,e,rfl⟩ F.entry_list_append (F.args_list_append_2 _ _) (PySem.list_append l its.toArray n u (by rw [List.size_toArray]; omega)) ⟨e,?_⟩
 refine ⟨.non,_,I.lset (its':=its++[u]) hH e (by simp) (r.append (.cons ru .nil)) ?_,rfl,q⟩
 rw [List.length_append,List.length_singleton]
 omega
def rPop:V→List V→Hp→VK→Prop:=fun x vs H Q=>∃ l xs y,x=.ref l∧vs=[]∧H l=some (.lst xs)∧xs[xs.length - 1]?=some y∧Q y (upd H l (.lst xs.dropLast))
theorem mt_pop:MtM X "list.pop" rPop:=by
 intro pins s σ H x vs v us Q I rx rv h
 obtain ⟨l,xs,y,rfl,rfl,hH,hy,q⟩:=h
 cases rx
 have hus:=rv.zero
 subst hus
 obtain ⟨z,its,n,r,hl,e⟩:=I.lstM hH
 obtain ⟨u,hu,ru⟩:=r.get hy
 have hy':its.toArray[its.toArray.size - 1]?=some u:=by
  show its.toArray[its.length - 1]?=some u
  rw [← Array.getElem?_toList,← hl]
  exact hu
 refine call_meets F.slot_list_pop ⟨_,e,rfl⟩ F.entry_list_pop (F.args_list_pop_1 _) (MeetsSeq.list_pop_last l its.toArray n u hy' (by rw [List.size_toArray]; omega)) ⟨e,?_⟩
 refine ⟨y,_,I.lset (its':=its.dropLast) hH e ?_ r.dropLast ?_,ru,q⟩
 ·show its.toArray.eraseIdxIfInBounds (its.toArray.size - 1)=its.dropLast.toArray
  rw [List.size_toArray,List.eraseIdxIfInBounds_toArray,erase_last]
 ·rw [List.length_dropLast]
  omega
def rPopAt:V→List V→Hp→VK→Prop:=fun x vs H Q=>∃ l xs i k y,x=.ref l∧vs=[.int i]∧H l=some (.lst xs)∧-(2 ^ 63)≤i∧i<2 ^ 63∧seqIndex? i xs.length=some k∧xs[k]?=some y∧Q y (upd H l (.lst (xs.eraseIdx k)))
theorem mt_popAt:MtM X "list.pop" rPopAt:=by
 intro pins s σ H x vs v us Q I rx rv h
 obtain ⟨l,xs,i,k,y,rfl,rfl,hH,h1,h2,hk,hy,q⟩:=h
 cases rx
 obtain ⟨u,rfl,ru⟩:=rv.one
 obtain ⟨t,rfl⟩:=ru
 obtain ⟨z,its,n,r,hl,e⟩:=I.lstM hH
 obtain ⟨w,hw,rw'⟩:=r.get hy
 refine call_meets F.slot_list_pop ⟨_,e,rfl⟩ F.entry_list_pop (F.args_list_pop_2 _ _)
  (MeetsSeq.list_pop_at l its.toArray n i t k w (fitsIndex_both h1 h2) (by rw [List.size_toArray,← hl]; exact hk) (by rw [← Array.getElem?_toList]; exact hw) (by rw [List.size_toArray]; omega)) ⟨e,?_⟩
 refine ⟨y,_,I.lset (its':=its.eraseIdx k) hH e ?_ (r.eraseIdx k) ?_,rw',q⟩
 ·show its.toArray.eraseIdxIfInBounds k=(its.eraseIdx k).toArray
  rw [List.eraseIdxIfInBounds_toArray]
 ·have:=len_erase xs k
  omega
def rCat:R2:=fun x y H Q=>∃ l b xs zs,x=.ref l∧y=.ref b∧H l=some (.lst xs)∧H b=some (.lst zs)∧xs.length+zs.length≤sizeLine∧∀ p,H p=none→Q (.ref p) (upd H p (.lst (xs++zs)))
theorem op_cat:OpR X (binaryOp .Add) rCat:=by
 intro pins s σ H x y v u Q I rx ry h
 obtain ⟨l,b,xs,zs,rfl,rfl,hH,hB,hz,q⟩:=h
 cases rx
 cases ry
 obtain ⟨z,its,n,r,hl,e⟩:=I.lstM hH
 obtain ⟨z2,its2,n2,r2,hl2,e2⟩:=I.lstM hB
 refine PySem.P.add_list e e2 ?_ (by rw [List.size_toArray,List.size_toArray]; omega)
 have ea:its.toArray++its2.toArray=(its++its2).toArray:=by simp
 rw [ea]
 exact ⟨.ref _,_,I.lnew (t':=s.toks) (r.append r2) (by rw [List.length_append]; omega),rfl,q _ I.fresh⟩
def rRep:R2:=fun x y H Q=>∃ l k xs,x=.ref l∧y=.int k∧H l=some (.lst xs)∧-(2 ^ 63)≤k∧k<2 ^ 63∧xs.length*k.toNat≤sizeLine ∧
 ∀ p,H p=none→Q (.ref p) (upd H p (.lst (List.replicate k.toNat xs).flatten))
theorem len_rep {α:Type} (xs:List α) (k:Nat):(List.replicate k xs).flatten.length=k*xs.length:=by
 induction k with
 | zero=>simp
 | succ k ih=>rw [List.replicate_succ,List.flatten_cons,List.length_append,ih,Nat.succ_mul,Nat.add_comm]
theorem op_rep:OpR X (binaryOp .Mult) rRep:=by
 intro pins s σ H x y v u Q I rx ry h
 obtain ⟨l,k,xs,rfl,rfl,hH,h1,h2,hz,q⟩:=h
 cases rx
 obtain ⟨t,rfl⟩:=ry
 obtain ⟨z,its,n,r,hl,e⟩:=I.lstM hH
 have hlen:its.toArray.size*k.toNat≤sizeLine:=by rw [List.size_toArray,← hl]; exact hz
 have hcap:¬ its.toArray.size*k.toNat > (2 ^ 63 - 1) / 8:=by
  have:(sizeLine:Nat)≤(2 ^ 63 - 1) / 8:=by decide
  omega
 have hfit:¬ (!Builtin.List.listFitsIndex k)=true:=by
  rw [fitsIndex_both h1 h2]
  exact Bool.false_ne_true
 have hlong:¬ Builtin.List.listTooLong (its.toArray.size*k.toNat)=true:=by
  rw [notLongL hlen]
  exact Bool.false_ne_true
 have hnew:List.foldl (fun x1 x2=>x1++x2) #[] (List.replicate (if its.toArray.isEmpty=true then 0 else k.toNat) its.toArray)=(List.replicate k.toNat its).flatten.toArray:=by
  have f0:∀ m:Nat,List.foldl (fun x1 x2=>x1++x2) #[] (List.replicate m its.toArray)=(List.replicate m its).flatten.toArray:=fun m=>by
   have:=foldl_rep its m []
   rw [List.nil_append] at this
   exact this
  rw [f0]
  cases its with
  | nil => simp
  | cons a r' => rw [if_neg (by simp)]
 refine wpAny_binaryOp_repeat_ref (T:="list") (U:="int") (by decide) ⟨_,e,rfl⟩ (fun s'=>typeIs_int s' k t) noFill_list_mul F.fills_int_mul F.slot_int_rmul repeat_list F.slot_int_index.lookup
  (call_meets F.slot_int_rmul (typeIs_int s k t) F.entry_int_rmul (F.args_int_rmul_2 _ _) (int___rmul___int_list k t l its.toArray n)
   ⟨e,rfl,⟨_,e,rfl⟩,call_meets F.slot_list_mul ⟨_,e,rfl⟩ F.entry_list_mul (F.args_list_mul_2 _ _) (AutoListH.list___mul___list_int_3 l its.toArray n k t hfit hcap hlong) ⟨e,?_⟩⟩)
 rw [hnew]
 exact ⟨.ref _,_,I.lnew (t':=s.toks) (r.rep k.toNat) (by rw [len_rep,Nat.mul_comm]; exact hz),rfl,q _ I.fresh⟩
end
section
variable {prog:Program} {w:World} {A:Around} {E:Value→Shared→Prop} {s:Shared}
set_option maxRecDepth 100000 in
end
section
variable {X:Cx}
end
end L2
namespace Att
open PySem PySem.W PySem.Calls PyProof.Rows
theorem ints_of_wellAll {P:Params} {h:Heap}:∀ (ns:List Int) (vs:List Value),WellAll P h vs (ns.map WData.int)→IntsAre vs ns:=by
 intro ns
 induction ns with
 | nil =>
  intro vs w
  rw [List.map_nil] at w
  cases w
  exact .nil
 | cons n ns ih =>
  intro vs w
  rw [List.map_cons] at w
  cases w with
  | cons a b =>
   cases a
   exact .cons _ _ (ih _ b)
theorem script_of {l:OpenLaw} {n:Nat} (hn:l.most=some n) {P:Params} {h:Heap} {args:List WData} {vals:List Value}
  (hpre:l.row.toRowW.claim.pre args=true) (hwl:WellAll P h vals args) :
  ∃ a vs ns,vals=[Value.ref a]∧args=[WData.list (ns.map WData.int)]∧h.get? a=some { cls:=.type "list",data:=.seq vs.toArray }∧IntsAre vs ns∧ns.length≤n:=by
 have hsh:WShape.hasAll [] args [.list .int]=true:=(pre_splitW hpre).1
 have hc:l.pre.holds [] { args:=args }=true:=(pre_splitW hpre).2
 obtain ⟨d,r,rfl,h1,h2⟩:=hasAllW_cons hsh
 obtain rfl:=hasAllW_nil h2
 obtain ⟨xs,rfl,h3⟩:=hasW_list h1
 obtain ⟨ns,rfl⟩:=items_int h3
 have hlen:ns.length≤n:=by
  unfold OpenLaw.pre at hc
  have h4:(WTm.not (.lt (.lit (.int (n:Int))) (.len (.arg 0)))).holds [] { args:=[.list (ns.map .int)] }=true:=by
   have h4:=(holds_andW hc).1
   rw [hn] at h4
   exact h4
  have h5:=condW_of h4 (w_not (w_lt w_lit (w_len_list (w_arg rfl))))
  rw [List.length_map] at h5
  refine Nat.le_of_not_lt fun q=>?_
  have q':(n:Int)<((ns.length:Nat):Int):=by omega
  first
   | (rw [decide_eq_true q'] at h5; exact absurd h5 (by decide))
   | (simp at h5; omega)
 cases hwl with
 | cons w1 w2 =>
  cases w2
  cases w1 with
  | list ho hall => exact ⟨_, _, ns, rfl, rfl, ho, ints_of_wellAll ns _ hall, hlen⟩
theorem post_true (l:OpenLaw) (args:List WData):l.row.toRowW.claim.post args (.bool true) args=true :=
 postW_of (r:=l.row.toRowW) (X:=(true==true))
  (show WShape.has [] (.bool true) .bool=true by first | rfl | decide | simp [WShape.has,WShape.arms,WShape.armsAll])
  (show (WTm.eq .res (.lit (.bool true))).value [] { args:=args,res:=some (.bool true),after:=args }=some (.bool (true==true)) from w_eq_bool (w_res rfl) w_lit) rfl
theorem attach_call {l:OpenLaw} {n:Nat} {q:Program} {loose:List Str} {XP:(Str→Option Value)→Heap→Prop} {YP:World→Heap→Prop} {d:DefRec}
  (hn:l.most=some n) (hdf:d.params.defaults=[])
  (call:∀ (w:World) (s₀ s₁:Shared) (mg mb:Str→Option Value) (fa:Addr) (o:Obj) (pm cd doc:Value) (a:Addr) (vs:List Value) (ns:List Int),
   Ground q loose [] XP w s₀ mg mb s₁.heap→YP w s₁.heap →
   s₁.heap.get? fa=some o→o.data=.func (docDef d.name d.params d.body d.scope pm cd doc)→s₁.heap.CodeRec cd d.name→mg d.name=some (.ref fa) →
   s₁.heap.get? a=some { cls:=.type "list",data:=.seq vs.toArray }→IntsAre vs ns→ns.length≤n→s₁.gens=#[] →
   codeAny (model l.prog w) callerA (.call (.ref fa) ⟨[.ref a],[]⟩) (fun r s'=>r=.ok (.ret (.bool true))∧OldK s₁.heap s'.heap∧s'.os=s₁.os∧AllBare s'.gens) s₁) :
  WalkO q loose XP YP l.row.toRowW d [] (fun f vs=>PySem.call f vs):=by
 intro w s₀ s₁ mg mb G Y fa o pm cd doc dV kV ho hd hcd hD hmg hg args vals as hpre hlay hrd hwl hlo
 obtain rfl:dV=.none:=Dflts.none hD hdf
 obtain rfl:kV=.none:=Dflts.noKw hD
 obtain ⟨a,vs,ns,rfl,rfl,hobj,hints,hlen⟩:=script_of hn hpre hwl
 refine enter_call (codeAny_mono (call w s₀ s₁ mg mb fa o pm cd doc a vs ns G Y ho (fd_plain hd) hcd hmg hobj hints hlen hg) fun r s' hq=>?_)
 obtain ⟨rfl,h2,h3,h4⟩:=hq
 exact ⟨.inl ⟨.bool true,.bool true,[],rfl,fun _=>rfl,.bool true,post_true l _,fun _=>⟨List.Pairwise.nil,fun _ hm=>(nomatch hm)⟩⟩,h2,h3,h4⟩
section
variable {prog:Program} {w:World} {A:Around} {E:Value→Shared→Prop} {s:Shared} {K:Frag}
def ledger (h:Heap) (L d:Addr):List (Addr×Obj):=(List.range h.objs.size).filterMap fun a=>if a=L∨a=d then none else (h.get? a).map fun o=>(a,o)
end
end Att
namespace L2
open PySem PySem.Spec PyProof.Rows
theorem vals_ints:∀ {vs:List Value} {ns:List Int},IntsAre vs ns→Vals (ns.map V.int) vs
 | _,_,.nil=>.nil
 | _,_,.cons n t h=>.cons ⟨t,rfl⟩ (vals_ints h)
def Only (H:Hp):Prop:=∀ b,H b=none∨∃ o xs,H b=some (.frz o (.lst xs))
theorem law_call {P:Program} {w:World} {K:PySem.W.Frag} {mg mb:Str→Option Value} {CX:CXT} {k:Nat} {fa a:Addr} {fd:FuncData} {x:Str} {sp:Sp} {s₁:Shared} {vs:List Value} {ns:List Int}
    (KX:K.In s₁.heap) (hns:s₁.heap.Ns mainGlobals mg) (hb:s₁.heap.Ns builtinsNs mb) (hbb:∀ x:Str,x≠"__name__"→mb x=bootBuiltins x) (hlim:s₁.heap.NoLimit) (hg:s₁.gens=#[])
    (ha:s₁.heap.get? a=some { cls:=.type "list",data:=.seq vs.toArray }) (hi:IntsAre vs ns) (hl:ns.length≤sizeLine) (hr:Room k callerA)
    (F:∀ base:Heap,K.In base→base.Ns mainGlobals mg→FnOk P w K mg base CX k fa fd [x] sp) (hbind:∀ (s:Shared) (u:Value),BindsTo s fd ⟨[u],[]⟩ [(x,u)])
    (hsp:∀ H:Hp,Only H→SqL K H a (ns.map V.int)→sp [.ref a] H (fun v _=>v=.bl true) fun _ _ _=>False)
    (hCX:∀ H e s',CX [] H s₁ (fun _ _ _=>False) e s'→False) :
    codeAny (model P w) callerA (.call (.ref fa) ⟨[.ref a],[]⟩) (fun r s'=>r=.ok (.ret (.bool true))∧OldK s₁.heap s'.heap∧s'.os=s₁.os∧AllBare s'.gens) s₁:=by
  have rv:=vals_ints hi
  have lenV:=hi.length
  -- from an abstract heap in which nothing but the script may be tracked
  have core:∀ H:Hp,Only H→SqL K H a (ns.map V.int)→HOk P w H s₁.heap→(∀ b,H b≠none→b=a)→(H a≠none→K.lookup a=none) →
      codeAny (model P w) callerA (.call (.ref fa) ⟨[.ref a],[]⟩) (fun r s'=>r=.ok (.ret (.bool true))∧OldK s₁.heap s'.heap∧s'.os=s₁.os∧AllBare s'.gens) s₁:=by
    intro H hO hS hok hA hK
    have base_of:∀ {b:Addr} {o:Obj},s₁.heap.get? b=some o→H b=none→(hidT s₁.heap H).get? b=some o:=fun e n=>hidT_get e n
    have noA:∀ {b:Addr} {o:Obj} {es:Array DictEntry} {ep:Nat},s₁.heap.get? b=some o→o.data=.dict es ep→H b=none:=fun {b o es ep} e d=>by
      cases q:H b with
      | none=>rfl
      | some u =>
        have e':b=a:=hA b (by rw [q]; simp)
        subst e'
        rw [ha] at e; cases e
        have d':Data.seq vs.toArray _=Data.dict es ep:=d
        cases d'
    have nsK:∀ {b:Addr} {m:Str→Option Value},s₁.heap.Ns b m→(hidT s₁.heap H).Ns b m:=fun {b m} ⟨o,es,ep,e,d,r⟩=>⟨o,es,ep,base_of e (noA e d),d,r⟩
    have hKb:K.In (hidT s₁.heap H):=fun b o e=>base_of (KX b o e) (by
      cases q:H b with
      | none=>rfl
      | some u =>
        have e':b=a:=hA b (by rw [q]; simp)
        subst e'
        rw [hK (by rw [q]; simp)] at e; cases e)
    have hM:Mod K mg (hidT s₁.heap H):=⟨hKb,nsK hns,⟨mb,nsK hb,hbb⟩,let ⟨mc,h1,h2⟩:=hlim; ⟨mc,nsK h1,h2⟩⟩
    have e0:Env0 P w K mg (hidT s₁.heap H) callerA [] s₁ H:=⟨rfl,hM,fun b o e=>of_hidT e,Nat.le_of_eq (hidT_size _ _),trivial,fun b hb=>absurd (show b∈([]:List Addr) from hb) (by simp),hok,.of_eq hg⟩
    refine codeAny_mono ((F _ hKb (nsK hns)).run callerA [] s₁ H ⟨[.ref a],[]⟩ [.ref a] [.ref a] _ _ hr e0 (hbind s₁ (.ref a)) (.cons rfl .nil) (hsp H hO hS)) fun r s' h=>?_
    cases r with
    | error e=>exact (hCX H e s' h).elim
    | ok fl =>
      cases fl with
      | next=>exact False.elim h
      | brk=>exact False.elim h
      | cont=>exact False.elim h
      | ret u =>
        obtain ⟨v,H',os,bare,un,hok',r',q⟩:=h
        have q':v=.bl true:=q
        subst q'
        obtain rfl:u=Value.bool true:=r'
        refine ⟨rfl,OldK.of_keep fun b o e=>?_,os,bare⟩
        cases q:H b with
        | none=>exact un.keep b o e q (by intro z; exact absurd (show b∈([]:List Addr) from z) (by simp)) (by simp)
        | some u =>
          rcases hO b with z | ⟨ob,xs,z⟩
          · rw [q] at z; cases z
          · have z2:=un.frzs b ob _ z
            obtain ⟨e1,_⟩:=hok b _ z
            obtain ⟨e2,_⟩:=hok' b _ z2
            rw [e] at e1; cases e1
            exact e2
  cases hk:K.lookup a with
  | some o =>
    -- the script is one of the module's own objects
    have e:=KX a o hk
    rw [ha] at e
    cases e
    refine core (fun _=>none) (fun _=>.inl rfl) (.inr ⟨_,vs.toArray,_,hk,rfl,rfl,rfl,by rw [List.size_toArray,lenV]; exact hl,by simpa using rv⟩) (fun b u z=>by have z':(none:Option HO)=some u:=z; cases z') (fun b z=>absurd rfl z) fun z=>absurd rfl z
  | none =>
    refine core (fun b=>if b=a then some (.frz { cls:=.type "list",data:=.seq vs.toArray } (.lst (ns.map V.int))) else none) (fun b=>?_) (.inl (.inr ⟨{ cls:=.type "list",data:=.seq vs.toArray },if_pos rfl⟩)) (fun b u z=>?_) (fun b z=>?_) fun _=>hk
    · by_cases hb:b=a
      · exact .inr ⟨_,_,if_pos hb⟩
      · exact .inl (if_neg hb)
    · by_cases hb:b=a
      · have z':=(if_pos hb).symm.trans z
        cases z'
        subst hb
        exact ⟨ha,by rw [List.length_map]; exact hl,vs,_,rv,ha⟩
      · have z':=(if_neg hb).symm.trans z
        cases z'
    · by_cases hb:b=a
      · exact hb
      · exact absurd (if_neg hb) z
end L2
namespace L2
open PySem PySem.Spec PyProof.Rows
abbrev KOf {K:PySem.W.Frag} {h:Heap} (_:K.In h):PySem.W.Frag:=K
theorem walk_of {l:PySem.W.OpenLaw} {n k:Nat} {q:Program} {loose:List Str} {XP:(Str→Option Value)→Heap→Prop} {YP:World→Heap→Prop} {d:DefRec} {K:Params→PySem.W.Frag} {CX:World→CXT} {sp:World→Sp} {x:Str}
  (hn:l.most=some n) (hn2:n≤sizeLine) (hdf:d.params.defaults=[]) (hr:Room k callerA)
  (hY:∀ (w:World) (h:Heap),YP w h→(K w.params).In h)
  (F:∀ (w:World) (mg:Str→Option Value) (fa:Addr) (h:Heap),(K w.params).In h→h.Ns mainGlobals mg→mg d.name=some (.ref fa) →
   ∃ fd:FuncData,(∀ (s:Shared) (u:Value),BindsTo s fd ⟨[u],[]⟩ [(x,u)]) ∧
    ∀ base:Heap,(K w.params).In base→base.Ns mainGlobals mg→FnOk l.prog w (K w.params) mg base (CX w) k fa fd [x] (sp w))
  (hsp:∀ (w:World) (H:Hp) (a:Addr) (ns:List Int),ns.length≤n→Only H→SqL (K w.params) H a (ns.map V.int)→sp w [.ref a] H (fun v _=>v=.bl true) fun _ _ _=>False)
  (hCX:∀ (w:World) (H:Hp) (s:Shared) (e:Value) (s':Shared),CX w [] H s (fun _ _ _=>False) e s'→False) :
  PySem.W.WalkO q loose XP YP l.row.toRowW d [] (fun f vs=>PySem.call f vs):=by
 refine Att.attach_call hn hdf fun w s₀ s₁ mg mb fa o pm cd doc a vs ns G Y ho hd hcd hmg hobj hints hlen hg=>?_
 have KX:=hY w _ Y
 obtain ⟨fd,hb,hF⟩:=F w mg fa _ KX G.T.g hmg
 exact law_call KX G.T.g G.T.b G.T.builtins G.T.nolimit hg hobj hints (Nat.le_trans hlen hn2) hr hF hb (fun H hO hS=>hsp w H a ns hlen hO hS) fun H e s'=>hCX w H s₁ e s'
theorem walk_ofK {l:PySem.W.OpenLaw} {n k:Nat} {q:Program} {loose:List Str} {XP:(Str→Option Value)→Heap→Prop} {YP:World→Heap→Prop} {d:DefRec} {K:Params→PySem.W.Frag} {CX:CXT} {sp:PySem.W.Frag→Sp} {x:Str}
  (hn:l.most=some n) (hn2:n≤sizeLine) (hdf:d.params.defaults=[]) (hr:Room k callerA)
  (hY:∀ (w:World) (h:Heap),YP w h→(K w.params).In h)
  (F:∀ (w:World) (mg:Str→Option Value) (fa:Addr) (h:Heap),(K w.params).In h→h.Ns mainGlobals mg→mg d.name=some (.ref fa) →
   ∃ fd:FuncData,(∀ (s:Shared) (u:Value),BindsTo s fd ⟨[u],[]⟩ [(x,u)]) ∧
    ∀ base:Heap,(K w.params).In base→base.Ns mainGlobals mg→FnOk l.prog w (K w.params) mg base CX k fa fd [x] (sp (K w.params)))
  (hsp:∀ (K:PySem.W.Frag) (H:Hp) (a:Addr) (ns:List Int),ns.length≤n→Only H→SqL K H a (ns.map V.int)→sp K [.ref a] H (fun v _=>v=.bl true) fun _ _ _=>False)
  (hCX:∀ (H:Hp) (s:Shared) (e:Value) (s':Shared),CX [] H s (fun _ _ _=>False) e s'→False) :
  PySem.W.WalkO q loose XP YP l.row.toRowW d [] (fun f vs=>PySem.call f vs) :=
 walk_of (K:=K) (CX:=fun _=>CX) (sp:=fun w=>sp (K w.params)) hn hn2 hdf hr hY F (fun w H a ns h1 h2 h3=>hsp (K w.params) H a ns h1 h2 h3) fun _ H s e s'=>hCX H s e s'
end L2
/- THE LAST THEOREM (shape; LID,My.* are yours):
   My.Adr: a structure of the addresses that your layer names (classes,functions); My.Txt K t: a structure (Prop) of the equations over K;
   My.txt_mk:{K} {implicit addresses ..} (e1:nsIn K mainGlobals "law"=some (some (.ref f))) (e2:K.lookup f=some ⟨oc,od,.func (fnOf "law" "law" params body scope dV kV doc pm an cdv ct),sl⟩) (e3:codeIn K cdv "law"=true) ..:∃ t,My.Txt K t
set_option maxRecDepth 100000 in
set_option maxHeartbeats 0 in
theorem PySem.Challenge.cw_LID_holds : PySem.Challenge.rw_LID.Holds := by
 w_on; o_law; k_head; (case hw=>w_witness2)
 k_fill
 refine L2.walk_of (l:=PySem.Challenge.rw_LID) (n:=63) (k:=40) (x:="script") (CX:=fun w=>..) (sp:=fun _=>My.sp_law) rfl (by decide) rfl ⟨rfl,by decide,by decide⟩ (fun w h Y=>PySem.W.kIn_of Y) ?F ?S ?C
 case F =>
  intro w mg fa h KX G hmg
  have T:∃ t,My.Txt (L2.KOf KX) t:=by
   dsimp only [L2.KOf]                          -- K must stand as «<heap const> w.params» for k_is
   refine' My.txt_mk ?e1 ?e2 ?e3 ..
   (case e1=>PySem.W.k_is)                    -- in the order: a name -> its address -> its object -> its parts
   (case e2=>PySem.W.k_is)
   ..
  obtain ⟨t,T⟩:=T
  have e0:=hmg.symm.trans (PySem.W.mg_of KX G T.law)
  cases e0                                       -- fa is the law's own address
  exact ⟨_,fun s u=>.of_eq rfl,fun base kb nb=>My.law_fn T kb nb⟩     -- if «.of_eq rfl» comes too early: refine' ⟨_,?b,fun base kb nb=>My.law_fn T kb nb⟩; exact fun s u=>.of_eq rfl
 case S=>exact fun w H a ns hl hO hS=>..
 case C=>exact ..
(the tactic k_is has no namespace: write k_is) -/
namespace L2
open PySem PySem.Spec PyProof.Rows
def inClass (s:Stmt) (j:Nat):Stmt:=match s with
 | .ClassDef _ _ _ body _ _ _ _ _ _ _=>body.getD j (.Pass ⟨0,0,0,0⟩)
 | _=>.Pass ⟨0,0,0,0⟩
def defArgs (s:Stmt):Arguments:=match s with
 | .FunctionDef _ a _ _ _ _ _ _ _ _=>a
 | _=>{ posonlyargs:=[],args:=[],vararg:=none,kwonlyargs:=[],kw_defaults:=[],kwarg:=none,defaults:=[] }
def defBody (s:Stmt):List Stmt:=match s with
 | .FunctionDef _ _ b _ _ _ _ _ _ _=>b
 | _=>[]
def defScope (s:Stmt):Scope:=match s with
 | .FunctionDef _ _ _ _ _ _ sc _ _ _=>sc
 | _=>{ kind:=.function,names:=[],isGenerator:=false,isCoroutine:=false }
abbrev CX0:CXT:=fun _ _ _ _ _ _=>False
abbrev E0:XK:=fun _ _ _=>False
theorem pass0 {X:Cx}:Passes CX0 X E0:=fun _ _ _ _ _ _ _ h=>h.elim
structure Fun (K:PySem.W.Frag) (x qual:Str) (st:Stmt) (f:Addr) (fd:FuncData):Prop where
 ex:∃ (oc:Value) (od:Option Addr) (kV doc pm:Value) (an:Option Addr) (cdv ct:Value) (osl:Array (Option Value)),
  fd=PySem.W.fnOf x qual (defArgs st) (defBody st) (defScope st) .none kV doc pm an cdv ct∧K.lookup f=some ⟨oc,od,.func fd,osl⟩∧PySem.W.codeIn K cdv qual=true
 kp:PySem.W.keepIn K (.ref f)=true
section
variable {P:Program} {w:World} {K:PySem.W.Frag} {mg:Str→Option Value} {base:Heap}
theorem Fun.ok {x qual:Str} {st:Stmt} {f:Addr} {fd:FuncData} {N ps:List Str} {k:Nat} {sp:Sp} (F:Fun K x qual st f fd) (S:FnScope N ps (defScope st)) (len:∀ vs H Q E,sp vs H Q E→vs.length=ps.length)
  (hbody:∀ (cdv:Value) (A:Around) (outer:List Env) (s:Shared) (H:Hp) (vs:List V) (Q:VK) (E:XK),Room k (A.deeper (envOfC qual (defScope st) s.heap.objs.size f cdv))→sp vs H Q E →
   ∃ t,PSs (cxOf CX0 P w K mg base N qual (defScope st) f cdv A outer s H E).nox (defBody st) t∧t { nx:=fun _ H'=>Q .non H',rt:=Q } (start N vs) H):FnOk P w K mg base CX0 (k+1) f fd ps sp:=by
 obtain ⟨oc,od,kV,doc,pm,an,cdv,ct,osl,rfl,lk,hcd⟩:=F.ex
 refine fn_of lk hcd S len fun A outer s H vs Q E hr hsp=>?_
 obtain ⟨t,h,q⟩:=hbody cdv A outer s H vs Q E hr hsp
 exact ⟨t,h.nox,q⟩
theorem Fun.binds {x qual:Str} {st:Stmt} {f:Addr} {fd:FuncData} {ps:List Str} (F:Fun K x qual st f fd)
  (h:∀ (kV doc pm:Value) (an:Option Addr) (cdv ct:Value) (us:List Value),us.length=ps.length→bindArgs (PySem.W.fnOf x qual (defArgs st) (defBody st) (defScope st) .none kV doc pm an cdv ct) ⟨us,[]⟩=pure (ps.zip us)):Binds K fd ps []:=by
 obtain ⟨oc,od,kV,doc,pm,an,cdv,ct,osl,rfl,lk,hcd⟩:=F.ex
 exact .all (h kV doc pm an cdv ct)
theorem fun_mk {x qual:Str} {st:Stmt} {f:Addr} {oc:Value} {od an:Option Addr} {osl:Array (Option Value)} {kV doc pm cdv ct:Value} (l:K.lookup f=some ⟨oc,od,.func (PySem.W.fnOf x qual (defArgs st) (defBody st) (defScope st) .none kV doc pm an cdv ct),osl⟩)
  (c:PySem.W.codeIn K cdv qual=true) (k:PySem.W.keepIn K (.ref f)=true):Fun K x qual st f (PySem.W.fnOf x qual (defArgs st) (defBody st) (defScope st) .none kV doc pm an cdv ct):=⟨⟨oc,od,kV,doc,pm,an,cdv,ct,osl,rfl,l,c⟩,k⟩
end
theorem hu_of {A:Around} {k:Nat} (hr:Room k A):A.units+1<cLine:=Nat.lt_of_le_of_lt (Nat.add_le_add_left (by decide:1≤64) _) hr.units
theorem small1000 {n:Nat} (h:n≤1000):n<sizeLine:=Nat.lt_of_le_of_lt h (by decide)
section
variable {X:Cx}
theorem pv (i:Nat) {x:Str} {pos:Pos} (hN:X.N[i]?=some x:=by rfl) (hv:Vis X.env.scope x:=by first | exact Or.inl rfl | exact Or.inr (Or.inl rfl) | exact Or.inr (Or.inr rfl)) (hd:(x==("__debug__":Str))=false:=by decide)
  (hcd:(x==("__classdict__":Str))=false:=by decide):PE X (.Name x pos) (tVar i):=pe_var hN hv hd hcd
end
theorem iteF {A B:Prop} (h:B):if false=true then A else B:=by
 rw [if_neg Bool.false_ne_true]
 exact h
theorem iteT {A B:Prop} (h:A):if true=true then A else B:=by
 rw [if_pos rfl]
 exact h
theorem ite2 {c A B:Prop} [Decidable c] (h1:c→A) (h2:¬ c→B):if c then A else B:=by
 by_cases h:c
 ·rw [if_pos h]
  exact h1 h
 ·rw [if_neg h]
  exact h2 h
def Same (H H':Hp):Prop:=∀ b o,H b=some o→H' b=some o
theorem Same.refl (H:Hp):Same H H:=fun _ _ h=>h
theorem Same.trans {H H1 H2:Hp} (a:Same H H1) (b:Same H1 H2):Same H H2:=fun c o h=>b c o (a c o h)
theorem Same.free {H H':Hp} (e:Same H H') {l:Addr} (h:H' l=Option.none):H l=Option.none:=by
 cases q:H l with
 | none=>rfl
 | some o =>
  rw [e l o q] at h
  cases h
theorem Same.seq {K:PySem.W.Frag} {H H':Hp} {a:Addr} {xs:List V} (e:Same H H') (h:SqL K H a xs):SqL K H' a xs:=by
 rcases h with (h | ⟨o,h⟩) | h
 ·exact .inl (.inl (e _ _ h))
 ·exact .inl (.inr ⟨o,e _ _ h⟩)
 ·exact .inr h
end L2
set_option Elab.async false
set_option maxRecDepth 100000
namespace L2
open PySem PySem.Spec PyProof.Rows
def closOf (cells:List (Str×Addr)):List (Str×NameKind)→List (Str×Addr)→List (Str×Addr)
 | [],acc=>acc
 | (n,k)::r,acc=>closOf cells r (if k==.free then (n,(cells.lookup n).getD 0)::acc else acc)
theorem closureFor_of {scope:Scope} {env:Env} (h:∀ x∈scope.names,x.2=.free→∃ c,env.cells.lookup x.1=some c):closureFor scope env=pure (closOf env.cells scope.names []):=by
 unfold closureFor
 generalize hn:scope.names=names at h ⊢
 clear hn
 generalize ([]:List (Str×Addr))=acc
 induction names generalizing acc with
 | nil=>simp [closOf]
 | cons x r ih =>
  obtain ⟨n,k⟩:=x
  have ih':=fun a=>ih (fun x hx=>h x (List.mem_cons_of_mem _ hx)) a
  simp only [List.forIn_cons,bind_pure] at ih' ⊢
  by_cases hk:k=.free
  ·obtain ⟨c,hc⟩:=h (n,k) List.mem_cons_self hk
   subst hk
   have hcl:cellOf env n=pure c:=by simp only [cellOf,hc]
   simp only [beq_self_eq_true,if_true,hcl,hc,pure_bind,closOf,Option.getD_some]
   simpa using ih' _
  ·have hb:(k==NameKind.free)=false:=by simpa using hk
   simp only [hb,Bool.false_eq_true,if_false,pure_bind,closOf]
   simpa using ih' _
theorem closOf_look {cells:List (Str×Addr)} {y:Str} {c:Addr}:∀ {names:List (Str×NameKind)} {acc:List (Str×Addr)},(∀ x∈names,x.2=.free→∃ c,cells.lookup x.1=some c)→(acc.lookup y=some c→cells.lookup y=some c) →
  (closOf cells names acc).lookup y=some c→cells.lookup y=some c
 | [],_,_,ha,e=>ha e
 | (n,k)::r,acc,h,ha,e=>by
  unfold closOf at e
  refine closOf_look (names:=r) (fun x hx=>h x (List.mem_cons_of_mem _ hx)) (fun e'=>?_) e
  by_cases hk:k=.free
  ·obtain ⟨d,hd⟩:=h (n,k) List.mem_cons_self hk
   subst hk
   simp only [beq_self_eq_true,if_true,hd,Option.getD_some,List.lookup_cons] at e'
   cases q:y==n with
   | true =>
    rw [q] at e'
    have:y=n:=by simpa using q
    subst this
    exact hd.trans e'
   | false=>rw [q] at e'; exact ha e'
  ·have hb:(k==NameKind.free)=false:=by simpa using hk
   simp only [hb,Bool.false_eq_true,if_false] at e'
   exact ha e'
theorem closOf_has {cells:List (Str×Addr)} {y:Str}:∀ {names:List (Str×NameKind)} {acc:List (Str×Addr)},((y,NameKind.free)∈names∨∃ c,acc.lookup y=some c)→∃ c,(closOf cells names acc).lookup y=some c
 | [],_,h=>by simpa [closOf] using h
 | (n,k)::r,acc,h=>by
  unfold closOf
  refine closOf_has (names:=r) ?_
  rcases h with h | ⟨c,h⟩
  ·rcases List.mem_cons.mp h with e | e
   ·cases e
    right
    simp
   ·exact .inl e
  ·right
   by_cases hk:(k==NameKind.free)=true
   ·rw [if_pos hk,List.lookup_cons]
    cases y==n
    ·exact ⟨c,h⟩
    ·exact ⟨_,rfl⟩
   ·rw [if_neg hk]
    exact ⟨c,h⟩
end L2
set_option Elab.async false
set_option maxRecDepth 100000
namespace L2
open PySem PySem.Spec PyProof.Rows
def PTs (X:Cx) (ifs:List Expr) (t:TT):Prop :=
 ∀ (pins:List (Addr×Obj)) (s:Shared) (σ:St) (H:Hp) (Q:Bool→Hp→Prop),Inv X pins σ H s→t σ H Q →
  wpAny (model X.prog X.w) X.A (forIn ifs true fun c r=>if r=true then do let ok ← isTrue c X.env (eval c X.env); pure (ForInStep.yield ok) else pure (ForInStep.yield r)) (TP X pins σ Q) X.xe s
def tTrue:TT:=fun _ H Q=>Q true H
theorem pts_nil {X:Cx}:PTs X [] tTrue:=fun _ _ _ H _ I h=>wpAny_tests_nil ⟨H,I,h⟩
def Cx.block (X:Cx) (scope:Scope) (N:List Str) (s:Shared) (H:Hp) (fp:List Addr):Cx where
 prog:=X.prog
 w:=X.w
 K:=X.K
 mg:=X.mg
 base:=X.base
 A:=X.A
 N:=N
 s₀:=s
 H₀:=H
 env:=compEnvC scope (closOf X.env.cells scope.names []) s.heap.objs.size X.env
 outer:=X.stack
 stack:=X.stack
 ex:=fp
 fn:=fun _=>false
 calm:=X.calm
 pn:=[]
 xe:=fun _ _=>False
def isCl:Option NameKind→Bool
 | some .cell=>true
 | some .free=>true
 | _=>false
theorem isCl_iff {k:Option NameKind} (h:isCl k=true):k=some .cell∨k=some .free:=by
 unfold isCl at h
 split at h
 ·exact .inl rfl
 ·exact .inr rfl
 ·cases h
structure CompOk (X:Cx) (scope:Scope) (N:List Str) (cap:List (Option Nat)):Prop where
 kind:scope.kind=.function
 nocell:(scope.names.all fun y=>!(y.2==.cell))=true
 loc:(scope.names.all fun y=>!(y.2==.local)||(scope.names.lookup y.1==some .local))=true
 fre:(scope.names.all fun y=>!(y.2==.free)||isCl (X.env.kindOf y.1))=true
 len:cap.length=N.length
 cap:((cap.zip N).all fun p=>match p.1 with | none=>true | some j=>(X.N[j]?==some p.2)&&isCl (X.env.kindOf p.2)&&isCl ((relabel scope X.env).names.lookup p.2))=true
def capS (cap:List (Option Nat)) (σ:St):St:=cap.map fun o=>match o with | none=>none | some j=>(σ[j]?).join
section
variable {X:Cx} {pins:List (Addr×Obj)} {σ:St} {H:Hp} {s:Shared} {fp:List Addr} {scope:Scope} {N:List Str} {cap:List (Option Nat)}
theorem CompOk.freeH (c:CompOk X scope N cap) (ok:X.Ok):∀ x∈scope.names,x.2=.free→∃ a,X.env.cells.lookup x.1=some a:=fun x hx hf=>by
 have:=List.all_eq_true.mp c.fre x hx
 rw [hf] at this
 simp only [beq_self_eq_true,Bool.not_true,Bool.false_or] at this
 exact ok.has x.1 (isCl_iff this)
theorem relabel_look {scope:Scope} {env:Env} {y:Str} (h:(relabel scope env).names.lookup y=some .cell∨(relabel scope env).names.lookup y=some .free) (nc:∀ z∈scope.names,z.2≠.cell):(y,NameKind.free)∈scope.names:=by
 unfold relabel at h
 dsimp only at h
 generalize scope.names=names at h nc
 induction names with
 | nil=>simp at h
 | cons z r ih =>
  obtain ⟨n,k⟩:=z
  have nc':∀ z∈r,z.2≠.cell:=fun z hz=>nc z (List.mem_cons_of_mem _ hz)
  rw [List.map_cons,List.lookup_cons] at h
  have nck:=nc (n,k) List.mem_cons_self
  dsimp only at h nck
  by_cases hc:(k==NameKind.free&&env.scope.kind==.function&&env.kindOf n==some .cell)=true
  ·rw [if_pos hc] at h
   dsimp only at h
   have hk:k=.free:=by
    simp only [Bool.and_eq_true,beq_iff_eq] at hc
    exact hc.1.1
   cases q:y==n with
   | true=>rw [show y=n from by simpa using q,hk]; exact List.mem_cons_self
   | false=>rw [q] at h; exact List.mem_cons_of_mem _ (ih h nc')
  ·rw [if_neg hc] at h
   dsimp only at h
   cases q:y==n with
   | true =>
    rw [q] at h
    rcases h with h | h
    ·cases h; exact absurd rfl nck
    ·cases h; rw [show y=n from by simpa using q]; exact List.mem_cons_self
   | false=>rw [q] at h; exact List.mem_cons_of_mem _ (ih h nc')
theorem CompOk.nc (c:CompOk X scope N cap):∀ z∈scope.names,z.2≠.cell:=fun z hz e=>by
 have:=List.all_eq_true.mp c.nocell z hz
 rw [e] at this
 exact absurd this (by decide)
theorem CompOk.lc (c:CompOk X scope N cap):∀ x∈scope.names,x.2=.local→scope.names.lookup x.1=some .local:=fun x hx e=>by
 have:=List.all_eq_true.mp c.loc x hx
 rw [e] at this
 simpa using this
theorem block_ok (c:CompOk X scope N cap) (I:Inv X pins σ H s) (hf:∀ b∈fp,FpOk X pins H b) (hlt:∀ b∈fp,b<s.heap.objs.size):(X.block scope N s H fp).Ok:=by
 have lk:∀ {y:Str} {a:Addr},(closOf X.env.cells scope.names []).lookup y=some a→X.env.cells.lookup y=some a:=fun e=>closOf_look (c.freeH I.ok) (fun z=>by simp at z) e
 refine ⟨I.ok.mod,c.kind,I.ok.glob,I.ok.blt,Nat.le_refl _,fun x y a h1 h2=>I.ok.inj x y a (lk h1) (lk h2),fun x hx=>closOf_has (.inl (relabel_look hx c.nc)),fun x a h=>absurd h (by simp [Cx.block]),I.ok.hd,I.ok.frames,.inl rfl,fun b hb=>⟨?_,fun x a h=>(hf b hb).2.2.2.2.1 x a (lk h)⟩,I.bs,Nat.le_trans I.ok.bsz I.sz,fun b o e hb=>?_,fun b hb z=>?_,I.stack,I.stkFree⟩
 ·exact Nat.ne_of_lt (hlt b hb)
 ·rcases (hf b hb).2.2.2.1 with z | z
  ·exact I.ok.noex b o e z
  ·exact absurd (Nat.lt_of_lt_of_le (Heap.lt_size (I.ok.bs b o e).1) z) (Nat.lt_irrefl _)
 ·rcases List.mem_cons.mp (I.stkSub b z) with e | e
  ·exact (hf b hb).2.1 e
  ·exact (hf b hb).2.2.1 e
theorem capS_get {i:Nat} {v:V} (h:(capS cap σ)[i]?=some (some v)):∃ j,cap[i]?=some (some j)∧σ[j]?=some (some v):=by
 unfold capS at h
 rw [List.getElem?_map] at h
 cases q:cap[i]? with
 | none=>rw [q] at h; cases h
 | some o =>
  rw [q] at h
  cases o with
  | none => cases h
  | some j =>
   refine ⟨j,rfl,?_⟩
   have h':(σ[j]?).join=some v:=Option.some.inj h
   cases q2:σ[j]? with
   | none=>rw [q2] at h'; cases h'
   | some o =>
    rw [q2] at h'
    have:o=some v:=h'
    rw [this]
theorem block_inv (c:CompOk X scope N cap) (I:Inv X pins σ H s) (hf:∀ b∈fp,FpOk X pins H b) (hlt:∀ b∈fp,b<s.heap.objs.size) {h1:Heap} {t1:Nat} (hns:h1.Ns s.heap.objs.size (fun x=>([]:List (Str×Value)).reverse.lookup x))
  (hsb:Heap.SameBut s.heap.objs.size (s.heap.push { cls:=.type (if (some X.env:Option Env).isSome then "dict" else "frame"),data:=.dict #[] }) h1):Inv (X.block scope N s H fp) [] (capS cap σ) H { s with heap:=h1,toks:=t1 }:=by
 have lk:∀ {y:Str} {a:Addr},(closOf X.env.cells scope.names []).lookup y=some a→X.env.cells.lookup y=some a:=fun e=>closOf_look (c.freeH I.ok) (fun z=>by simp at z) e
 have keep:∀ b o,s.heap.get? b=some o→h1.get? b=some o:=fun b o e=>(hsb.2 b (Nat.ne_of_lt (Heap.lt_size e))).trans (Heap.get?_push_of_some _ e)
 have cellK:∀ {a:Addr} {v:Option Value},s.heap.IsCell a v→h1.IsCell a v:=fun ⟨o,e,d⟩=>⟨o,keep _ _ e,d⟩
 refine ⟨block_ok c I hf hlt,rfl,I.bare,Un.kept keep,⟨_,hns,fun i x v h1 h2 h3=>?_⟩,fun x a e=>?_,I.hok.fresh (Nat.le_refl _),fun x a e=>I.freeC x a (lk e),fun p hp=>absurd (show p∈([]:List (Addr×Obj)) from hp) (by simp),I.hok.kept keep,?_⟩
 ·obtain ⟨j,hc,hs⟩:=capS_get h2
  have hN:N[i]?=some x:=h1
  have hz:(cap.zip N)[i]?=some (some j,x):=by rw [List.getElem?_zip_eq_some]; exact ⟨hc,hN⟩
  have:=List.all_eq_true.mp c.cap _ (List.mem_of_getElem? hz)
  simp only [Bool.and_eq_true,beq_iff_eq] at this
  obtain ⟨⟨e1,e2⟩,e3⟩:=this
  obtain ⟨m,hn,hl⟩:=I.loc
  have hk:=isCl_iff e2
  obtain ⟨u,r,l⟩:=hl j x v e1 hs (by rcases hk with z | z; exact .inr (.inl z); exact .inr (.inr z))
  refine ⟨u,r,?_⟩
  rcases l with ⟨l,_⟩ | ⟨_,a,ea,ca⟩
  ·rw [l] at hk; rcases hk with z | z<;>cases z
  ·have hk':=isCl_iff e3
   obtain ⟨a',ha'⟩:=closOf_has (cells:=X.env.cells) (acc:=[]) (.inl (relabel_look hk' c.nc))
   have:a'=a:=Option.some.inj ((lk ha').symm.trans ea)
   subst this
   exact .inr ⟨hk',a',ha',cellK ca⟩
 ·obtain ⟨v,hv⟩:=I.cell x a (lk e)
  exact ⟨v,cellK hv⟩
 ·unfold capS
  rw [List.length_map]
  exact c.len
end
end L2
set_option Elab.async false
set_option maxRecDepth 100000
namespace L2
open PySem PySem.Spec PyProof.Rows
theorem compLoop_go {prog:Program} {w:World} {A:Around} {R:Result→Shared→Prop} {s:Shared} {elt target iter:Expr} {ifs:List Expr} {scope:Scope} {pos:Pos} {it acc:Value} {env:Env} (J:Nat→Shared→Prop)
    (turn:∀ n s,J n s→wpAny (model prog w) A (pyNext it) (fun r s₁=>match r with
      | none=>R (.ok .next) s₁
      | some v=>wpAny (model prog w) A (letOwnedTupleGo target it v) (fun _ s₀=>wpAny (model prog w) A (assign target env v) (fun _ s₂ =>
          wpAny (model prog w) A (forIn ifs true fun c r=>if r=true then do let ok ← isTrue c env (eval c env); pure (ForInStep.yield ok) else pure (ForInStep.yield r)) (fun ok s₃ =>
            if ok=true then wpAny (model prog w) A (eval elt env) (fun x s₄ =>
              wpAny (model prog w) A (call (.builtin "list.append") [acc,x]) (fun _ s₅=>∃ m,m<n∧J m s₅) (fun _ _=>False) s₄) (fun _ _=>False) s₃
            else ∃ m,m<n∧J m s₃) (fun _ _=>False) s₂) (fun _ _=>False) s₀) (fun _ _=>False) s₁) (fun _ _=>False) s)
    (n:Nat) (h:J n s) :
    codeAny (model prog w) A (.compLoop (.ListComp elt [⟨target,iter,ifs,0⟩] scope pos) 0 it acc env) R s:=by
  refine codeAny_loop rfl J (fun n s hI=>?_) n h
  show wpAny _ A ((compTurn (.ListComp elt [⟨target,iter,ifs,0⟩] scope pos) 0 it acc env).onRaise (fun x=>do noteFrame x env; theTreesLotGoes x)) _ _ s
  refine wpAny_noted ?_
  rw [compTurn_list]
  refine wpAny_bind (wpAny_standAt (wpAny_bind (wpAny_mono (turn n s hI) (fun r s₁ h₁=>?_) fun _ _ h'=>h'.elim)))
  cases r with
  | none => exact wpAny_pure h₁
  | some v =>
    refine wpAny_bind (wpAny_mono h₁ (fun _ s₀ h₀=>?_) fun _ _ h'=>h'.elim)
    refine wpAny_bind (wpAny_mono h₀ (fun _ s₂ h₂=>wpAny_bind (wpAny_mono h₂ (fun ok s₃ h₃=>?_) fun _ _ h'=>h'.elim)) fun _ _ h'=>h'.elim)
    cases ok with
    | false=>exact wpAny_pure ⟨rfl,h₃⟩
    | true =>
      exact wpAny_bind (wpAny_bind (wpAny_mono h₃ (fun x s₄ h₄=>wpAny_bind (wpAny_mono h₄ (fun _ s₅ h₅=>wpAny_pure (wpAny_pure ⟨rfl,h₅⟩)) fun _ _ h'=>h'.elim)) fun _ _ h'=>h'.elim))
def tComp (wi:TI) (g:TG) (tt:TT) (te:TE) (cap:List (Option Nat)):TE:=fun σ H Q=>wi σ H fun J H1=>∀ l,H1 l=none →
 ∃ (n:Nat) (Pv:Nat→List V→St→Hp→Prop),Pv 0 [] (capS cap σ) (upd H1 l (.lst [])) ∧
  (∀ i ys σ' H',i<n→Pv i ys σ' H'→J.go i H'∧∀ x H2,J.yld i H' x H2→g x σ' H2 fun σ3 H3=>tt σ3 H3 fun b H4 =>
   if b=true then te σ3 H4 fun y H5=>H5 l=some (.lst ys)∧ys.length<sizeLine∧Pv (i+1) (ys++[y]) σ3 (upd H5 l (.lst (ys++[y]))) else Pv (i+1) ys σ3 H4) ∧
  ∀ ys σ' H',Pv n ys σ' H'→J.stop n H'∧Q (.ref l) H'
section
variable {X:Cx} {elt tg iter:Expr} {ifs:List Expr} {scope:Scope} {pos:Pos} {N:List Str} {cap:List (Option Nat)} {wi:TI} {g:TG} {tt:TT} {te:TE}
theorem comp_run {U:Value→Addr→Shared→Prop} (hc:X.calm=true) (c:CompOk X scope N cap) (hi:PI X tg iter wi) (hg:∀ s H fp,PG (X.block scope N s H fp) tg g) (ht:∀ s H fp,PTs (X.block scope N s H fp) ifs tt)
    (he:∀ s H fp,PE (X.block scope N s H fp) elt te)
    {pins:List (Addr×Obj)} {s:Shared} {σ:St} {H:Hp} {Q:VK} (I:Inv X pins σ H s) (h:tComp wi g tt te cap σ H Q)
    (hU:∀ (l C:Addr) (H':Hp) (s':Shared),Inv X pins σ H' s'→(∃ m,s'.heap.Ns C m)→FpOk X pins H' C→Q (.ref l) H'→U (.ref l) C s')
    {RR:Value→Addr→Result→Shared→Prop} (hRR:∀ a C s',U a C s'→RR a C (.ok .next) s') :
    wpAny (model X.prog X.w) X.A (eval iter X.env) (fun x s₁=>wpAny (model X.prog X.w) X.A (pyIter x) (fun it s₂=>wpAny (model X.prog X.w) X.A (newList []) (fun acc s₃ =>
      wpAny (model X.prog X.w) X.A (newFunctionEnv scope X.env.globals (closOf X.env.cells scope.names []) [] X.env.qual none .none (some X.env)) (fun cenv s₄ =>
        codeAny (model X.prog X.w) X.A (.compStart (.ListComp elt [⟨tg,iter,ifs,0⟩] scope pos) 0 it acc { cenv with scope:=relabel scope X.env }) (RR acc cenv.locals) s₄) X.xe s₃) X.xe s₂) X.xe s₁) X.xe s:=by
  refine thn (hi pins s σ H _ I h) fun v s1 h1=>thn h1 fun itv s2 h2=>?_
  obtain ⟨it,fp,tn,J,H2,e,I2,T,st2,f2,hq⟩:=h2
  subst e
  have hl:H2 s2.heap.objs.size=none:=I2.hok.fresh (Nat.le_refl _)
  obtain ⟨n,Pv,p0,step,fin⟩:=hq _ hl
  refine wpAny_newObj_type ?_ (by show 0≤sizeLine; exact Nat.zero_le _)
  have I3:Inv X pins σ (upd H2 s2.heap.objs.size (.lst [])) { s2 with heap:=s2.heap.push { cls:=.type "list",data:=.seq ([]:List Value).toArray } } :=
    I2.laid (t':=s2.toks) (fun b u e=>Heap.get?_push_of_some _ e) (Nat.le_refl _) ⟨Nat.zero_le _,[],_,.nil,Heap.get?_push_size _ rfl⟩
  generalize hs3:({ s2 with heap:=s2.heap.push { cls:=.type "list",data:=.seq ([]:List Value).toArray } }:Shared)=s3 at I3 ⊢
  have k23:∀ b o,s2.heap.get? b=some o→s3.heap.get? b=some o:=fun b o e=>by rw [← hs3]; exact Heap.get?_push_of_some _ e
  have fplt2:∀ b∈fp,b<s2.heap.objs.size:=fun b hb=>let ⟨o,e,_⟩:=T.obj _ _ st2 b hb; Heap.lt_size e
  have sz23:s2.heap.objs.size≤s3.heap.objs.size:=by rw [← hs3]; show _≤(s2.heap.push _).objs.size; rw [Heap.size_push]; exact Nat.le_succ _
  have fplt:∀ b∈fp,b<s3.heap.objs.size:=fun b hb=>Nat.lt_of_lt_of_le (fplt2 b hb) sz23
  have f3:∀ b∈fp,FpOk X pins (upd H2 s2.heap.objs.size (.lst [])) b:=fun b hb=>⟨by rw [upd_ne (Nat.ne_of_lt (fplt2 b hb))]; exact (f2 b hb).1,(f2 b hb).2⟩
  have st3:tn 0 s3.heap:=T.keep _ _ _ st2 fun b hb o e=>k23 b o e
  refine wpAny_newFunctionEnv c.nc (by intro y hy; simp at hy) (fun h4 hns hsb=>?_) c.kind
  have I4:=block_inv (t1:=s3.toks+([]:List (Str×Value)).length) c I3 f3 fplt hns hsb
  have st4:tn 0 h4:=T.keep _ _ _ st3 fun b hb o e=>(hsb.2 b (Nat.ne_of_lt (fplt b hb))).trans (Heap.get?_push_of_some _ e)
  generalize hY:X.block scope N s3 (upd H2 s2.heap.objs.size (.lst [])) fp=Y at I4
  have yP:Y.prog=X.prog:=by rw [← hY]; rfl
  have yw:Y.w=X.w:=by rw [← hY]; rfl
  have yK:Y.K=X.K:=by rw [← hY]; rfl
  have yA:Y.A=X.A:=by rw [← hY]; rfl
  have yx:Y.xe=fun _ _=>False:=by rw [← hY]; rfl
  have yc:Y.calm=true:=by rw [← hY]; exact hc
  have yex:Y.ex=fp:=by rw [← hY]; rfl
  have yfs:Y.fs=frs X.stack:=by rw [← hY]; rfl
  have yH:Y.H₀=upd H2 s2.heap.objs.size (.lst []):=by rw [← hY]; rfl
  have ys:Y.s₀=s3:=by rw [← hY]; rfl
  have yC:Y.env.locals=s3.heap.objs.size:=by rw [← hY]; rfl
  have yenv:compEnvC scope (closOf X.env.cells scope.names []) s3.heap.objs.size X.env=Y.env:=by rw [← hY]; rfl
  have yg:=hg s3 (upd H2 s2.heap.objs.size (.lst [])) fp
  have yt:=ht s3 (upd H2 s2.heap.objs.size (.lst [])) fp
  have ye:=he s3 (upd H2 s2.heap.objs.size (.lst [])) fp
  have ypn:Y.pn=[]:=by rw [← hY]; rfl
  have ycl:Y.env.cells=closOf X.env.cells scope.names []:=by rw [← hY]; rfl
  rw [hY] at yg yt ye
  have lk:∀ {y:Str} {a:Addr},Y.env.cells.lookup y=some a→X.env.cells.lookup y=some a:=fun e=>by rw [ycl] at e; exact closOf_look (c.freeH I.ok) (fun z=>by simp at z) e
  have stat:∀ {H':Hp},(∀ b∈fp,H' b=none)→∀ b∈fp,FpOk Y [] H' b:=fun hn b hb=>by
    refine ⟨hn b hb,by rw [yC]; exact Nat.ne_of_lt (fplt b hb),?_,.inl (by rw [yex]; exact hb),fun x a e=>(f2 b hb).2.2.2.2.1 x a (lk e),fun p hp=>?_⟩
    · rw [yfs]
      intro z
      rcases List.mem_cons.mp (I2.stkSub b z) with e | e
      · exact (f2 b hb).2.1 e
      · exact (f2 b hb).2.2.1 e
    · rw [ypn] at hp
      exact absurd hp (by simp)
  -- the end
  have done:∀ {σ':St} {H':Hp} {s':Shared},Inv Y [] σ' H' s'→Q (.ref s2.heap.objs.size) H'→U (.ref s2.heap.objs.size) s3.heap.objs.size s':=fun {σ' H' s'} J' q=>by
    have un:=J'.base
    rw [yfs,yex,yH,ys] at un
    have J3:=I3.call' (s':=s') (ch:=fp) (by rw [J'.os,ys]) un (by have:=J'.hok; rw [yP,yw] at this; exact this) J'.bare fun b hb=>⟨(f3 b hb).2.2.2.1,(f3 b hb).2.1,(f3 b hb).2.2.2.2.1,(f3 b hb).2.2.2.2.2⟩
    have hCn:H' s3.heap.objs.size=none:=by have:=J'.free; rw [yC] at this; exact this
    have hne:s3.heap.objs.size≠X.env.locals:=Nat.ne_of_gt I3.lt
    have hcl:∀ x a,X.env.cells.lookup x=some a→a≠s3.heap.objs.size:=fun x a e=>let ⟨_,o,ho,_⟩:=I3.cell x a e; Nat.ne_of_lt (Heap.lt_size ho)
    have hpn:∀ p∈X.pn++pins,p.1≠s3.heap.objs.size:=fun p hp=>Nat.ne_of_lt (Heap.lt_size (I3.pin p hp).1)
    obtain ⟨m,hn,_⟩:=J'.loc
    rw [yC] at hn
    exact hU _ _ H' s' J3 ⟨m,hn⟩ ⟨hCn,hne,I3.nofs (Nat.le_refl _),.inr I3.sz,hcl,hpn⟩ q
  have loop:∀ s5:Shared,s5={ s3 with heap:=h4,toks:=s3.toks+([]:List (Str×Value)).length } →
      codeAny (model X.prog X.w) X.A (.compLoop (.ListComp elt [⟨tg,iter,ifs,0⟩] scope pos) 0 (.ref it) (.ref s2.heap.objs.size) Y.env) (RR (.ref s2.heap.objs.size) s3.heap.objs.size) s5:=by
    rintro s5 rfl
    refine compLoop_go (fun k s'=>∃ i ys σ' H',Inv Y [] σ' H' s'∧tn i s'.heap∧(∀ b∈fp,H' b=none)∧i≤n∧k=n - i∧Pv i ys σ' H') ?_ n ⟨0,[],_,_,I4,st4,fun b hb=>(f3 b hb).1,Nat.zero_le _,rfl,p0⟩
    rintro k s6 ⟨i,zs,σ6,H6,I6,st6,fr6,hin,rfl,pv6⟩
    by_cases hlt:i<n
    · obtain ⟨go,stp⟩:=step i zs σ6 H6 hlt pv6
      have q:=T.item Y yP yw yK yc i [] s6 σ6 H6 (fun _ _=>False) I6 (stat fr6) st6 go
      rw [yA] at q
      refine thn q fun r s7 ⟨u,hr,h7⟩=>?_
      subst hr
      refine thn h7 fun _ s8 ⟨x,H8,I8,r8,y8,st8,fr8⟩=>?_
      have I8':=I8.pinned (stat fr8) (T.obj _ _ st8)
      have q:=yg _ s8 σ6 H8 x u _ I8' r8 (stp x H8 y8)
      rw [yP,yw,yA,yx] at q
      refine thn q fun _ s9 ⟨σ9,H9,I9,q9⟩=>?_
      have q:=yt _ s9 σ9 H9 _ I9 q9
      rw [yP,yw,yA,yx] at q
      refine thn q fun b s10 ⟨H10,I10,q10⟩=>?_
      have again:∀ {ws:List V} {σ':St} {H':Hp} {s':Shared},Inv Y ([]++pinsAt fp s8.heap) σ' H' s'→Pv (i+1) ws σ' H'→∃ m,m<n - i∧∃ i ys σ' H',Inv Y [] σ' H' s'∧tn i s'.heap∧(∀ b∈fp,H' b=none)∧i≤n∧m=n - i∧Pv i ys σ' H':=fun {ws σ' H' s'} J' p'=>by
        refine ⟨n - (i+1),by omega,i+1,ws,σ',H',J'.unpinned,T.keep _ _ _ st8 fun b hb o e=>(J'.pin (b,o) (List.mem_append_right _ (List.mem_append_right _ (mem_pinsAt hb e)))).1,fun b hb=>?_,hlt,rfl,p'⟩
        obtain ⟨o,e,d⟩:=T.obj _ _ st8 b hb
        exact (J'.pin (b,o) (List.mem_append_right _ (List.mem_append_right _ (mem_pinsAt hb e)))).2.1
      cases b with
      | false=>exact again I10 q10
      | true =>
        have q10:=(if_pos (α:=Prop) rfl).mp q10
        have q:=ye _ s10 σ9 H10 _ I10 q10
        rw [yP,yw,yA,yx] at q
        refine iteT ?_
        refine thn q fun xv s11 ⟨y,H11,I11,r11,hl11,hz,p11⟩=>?_
        have q:=mt_append (X:=Y) _ s11 σ9 H11 (.ref s2.heap.objs.size) [y] _ [xv] (fun _ H'=>Pv (i+1) (zs++[y]) σ9 H') I11 rfl (.cons r11 .nil) ⟨_,_,_,rfl,rfl,hl11,hz,p11⟩
        rw [yP,yw,yA,yx] at q
        exact thn q fun _ s12 ⟨_,H12,I12,_,p12⟩=>again I12 p12
    · have e:i=n:=by omega
      subst e
      obtain ⟨stop,q⟩:=fin zs σ6 H6 pv6
      have qd:=T.done Y yP yw yK yc i [] s6 σ6 H6 (fun _ _=>False) I6 (stat fr6) st6 stop
      rw [yA] at qd
      refine thn qd fun r s7 ⟨hr,I7⟩=>?_
      subst hr
      exact hRR _ _ _ (done I7 q)
  show codeAny _ _ (.compStart _ 0 (.ref it) _ (compEnvC scope (closOf X.env.cells scope.names []) s3.heap.objs.size X.env)) (RR (.ref s2.heap.objs.size) s3.heap.objs.size) _
  rw [yenv]
  exact codeAny_compStart_list (loop _ rfl) (T.self X.A 0 _ _ _ st4 (loop _ rfl))
theorem FpOk.turned {pins:List (Addr×Obj)} {σ:St} {H:Hp} {s:Shared} {C:Addr} {h':Heap} (f:FpOk X pins H C) (I:Inv X pins σ H s) (sb:Heap.SameBut C s.heap h'):Inv X pins σ H { s with heap:=h' } :=
 I.turned (t':=s.toks) (fun b o hb e=>(sb.2 b hb).trans e) f.1 f.2.1 f.2.2.2.1 f.2.2.2.2.1 f.2.2.2.2.2
theorem pe_comp (hc:X.calm=true) (c:CompOk X scope N cap) (hi:PI X tg iter wi) (hg:∀ s H fp,PG (X.block scope N s H fp) tg g) (ht:∀ s H fp,PTs (X.block scope N s H fp) ifs tt)
  (he:∀ s H fp,PE (X.block scope N s H fp) elt te) (hs:∀ x,foldedSetIterable iter X.env x=pure x:=by intro _; rfl):PE X (.ListComp elt [⟨tg,iter,ifs,0⟩] scope pos) (tComp wi g tt te cap):=by
 intro pins s σ H Q I h
 rw [eval_ListComp]
 refine wpAny_comprehension_free rfl hs (closureFor_of (c.freeH I.ok)) c.kind c.lc ?_
 exact comp_run (U:=fun a C s'=>∃ m,s'.heap.Ns C m∧∀ h',Heap.SameBut C s'.heap h'→EP X pins σ Q a { s' with heap:=h' }) hc c hi hg ht he I h
  (fun l C H' s' I' ⟨m,hn⟩ f q=>⟨m,hn,fun h' sb=>⟨.ref l,H',f.turned I' sb,rfl,q⟩⟩) fun a C s' u=>u
end
end L2
set_option Elab.async false
set_option maxRecDepth 100000
namespace L2
open PySem PySem.Spec PyProof.Rows
section
variable {X:Cx}
theorem call_isinst:CallR X (.builtin "isinstance") (fun xs H Q=>∃ x n t b,xs=[x,.ty n]∧TyOf X.K H x t∧PySem.W.kitOne X.K t (.type n)=some b∧Q (.bl b) H):=by
 intro pins s σ H xs us Q I r h
 obtain ⟨x,n,t,b,rfl,ty,e,q⟩:=h
 obtain ⟨u,v,rfl,ru,rv⟩:=r.two
 cases (show v=Value.type n from rv)
 exact isinst_ok I ru ty e fun tk=>⟨.bl b,H,I.tok tk,rfl,q⟩
theorem in1_hd {A:Around} (h:A.handled=none):A.in1.handled=none:=h
theorem vals_getD {its:List Value} {bs:List Bool} (r:Vals (bs.map V.bl) its) {i:Nat} {v:Value} (e:its[i]?=some v):v=.bool (bs.getD i false):=by
 have hl:=r.length
 rw [List.length_map] at hl
 have hi:i<its.length:=(List.getElem?_eq_some_iff.mp e).1
 have hb:(bs.map V.bl)[i]?=some (V.bl (bs.getD i false)):=by
  rw [List.getElem?_map,List.getD_eq_getElem?_getD,List.getElem?_eq_getElem (by omega)]
  rfl
 obtain ⟨u,hu,ru⟩:=r.get hb
 rw [e] at hu
 cases hu
 exact ru
theorem range_all (bs:List Bool):(List.range bs.length).all (fun i=>bs.getD i false)=bs.all id:=by
 rw [Bool.eq_iff_iff]
 simp only [List.all_eq_true,List.mem_range,id]
 constructor
 ·intro h b hb
  obtain ⟨i,hi,rfl⟩:=List.mem_iff_getElem.mp hb
  have:=h i hi
  rwa [List.getD_eq_getElem?_getD,List.getElem?_eq_getElem hi] at this
 ·intro h i hi
  rw [List.getD_eq_getElem?_getD,List.getElem?_eq_getElem hi]
  exact h _ (List.getElem_mem hi)
theorem call_all_bl (hc:X.calm=true):CallR X (.builtin "all") (fun xs H Q=>∃ (p:Addr) (bs:List Bool),xs=[.ref p]∧SqL X.K H p (bs.map V.bl)∧Q (.bl (bs.all id)) H):=by
 intro pins s σ H xs us Q I r h
 obtain ⟨p,bs,rfl,hp,q⟩:=h
 obtain ⟨u,rfl,ru⟩:=r.one
 cases (show u=Value.ref p from ru)
 obtain ⟨its,rv,pl,hz⟩:=I.list hp
 have hh:=in1_hd (I.ok.hd hc)
 have hlt:p<s.heap.objs.size:=let ⟨o,ho,_⟩:=pl.isList; Heap.lt_size ho
 refine call_all_walk (wpAny_pyIter_list pl.isList ?_)
 refine ⟨s.heap.objs.size,_,_,_,_,_,fun i=>bs.getD i false,rfl,Walks.list hh s.heap.objs.size p (Nat.ne_of_lt hlt) its.toArray,⟨⟨_,Heap.get?_push_size _ rfl,rfl,rfl⟩,pl.isList.push _⟩,fun i v s' Q' E' hP hQ=>?_,fun h' tk hk=>?_⟩
 ·have:=vals_getD rv (i:=i) (v:=v) (by simpa using hP)
  subst this
  exact wpAny_truthy_bool hQ
 ·have hl:=rv.length
  rw [List.length_map] at hl
  refine ⟨.bl (bs.all id),H,I.kept (h':=h') (t':=tk) fun b o e=>hk b o (by simpa using Nat.ne_of_lt (Heap.lt_size e)) (Heap.get?_push_of_some _ e),?_,q⟩
  show _=_
  rw [List.size_toArray,← hl,range_all]
theorem vals_geti {its:List Value} {ns:List Int} (r:Vals (ns.map V.int) its) {i:Nat} {v:Value} (e:its[i]?=some v):∃ t,v=.int (ns.getD i 0) t:=by
 have hl:=r.length
 rw [List.length_map] at hl
 have hi:i<its.length:=(List.getElem?_eq_some_iff.mp e).1
 have hb:(ns.map V.int)[i]?=some (V.int (ns.getD i 0)):=by
  rw [List.getElem?_map,List.getD_eq_getElem?_getD,List.getElem?_eq_getElem (by omega)]
  rfl
 obtain ⟨u,hu,ru⟩:=r.get hb
 rw [e] at hu
 cases hu
 exact ru
theorem preSum_take (ns:List Int):∀ k,k≤ns.length→preSum (fun i=>ns.getD i 0) k=(ns.take k).sum
 | 0,_=>rfl
 | k+1,h=>by
  have ih:=preSum_take ns k (by omega)
  rw [List.take_add_one,List.sum_append,← ih,List.getElem?_eq_getElem (by omega)]
  show preSum _ k+ns.getD k 0=_
  rw [List.getD_eq_getElem?_getD,List.getElem?_eq_getElem (by omega)]
  simp
def SmallSum (ns:List Int):Prop:=∀ k,k≤ns.length→InLong ((ns.take k).sum)∧∀ n∈ns,InLong n
theorem call_sum_seq (hc:X.calm=true):CallR X (.builtin "sum") (fun xs H Q=>∃ (p:Addr) (ns:List Int),xs=[.ref p]∧(SqL X.K H p (ns.map V.int)∨SqT X.K H p (ns.map V.int))∧SmallSum ns∧Q (.int ns.sum) H):=by
  intro pins s σ H xs us Q I r h
  obtain ⟨p,ns,rfl,hp,sm,q⟩:=h
  obtain ⟨u,rfl,ru⟩:=r.one
  cases (show u=Value.ref p from ru)
  have hh:=in1_hd (I.ok.hd hc)
  have fin:∀ {its:List Value} {h':Heap} {tk:Nat} {t':Tok},Vals (ns.map V.int) its→(∀ b o,b∉[s.heap.objs.size]→s.heap.get? b=some o→h'.get? b=some o) →
      EP X pins σ Q (.int (preSum (fun i=>ns.getD i 0) its.length) t') { s with heap:=h',toks:=tk }:=fun {its h' tk t'} rv hk=>by
    have hl:=rv.length
    rw [List.length_map] at hl
    refine ⟨.int ns.sum,H,I.kept (h':=h') (t':=tk) fun b o e=>hk b o (by simpa using Nat.ne_of_lt (Heap.lt_size e)) e,⟨t',?_⟩,q⟩
    rw [← hl,preSum_take _ _ (Nat.le_refl _),List.take_of_length_le (Nat.le_refl _)]
  have fit:∀ {its:List Value},Vals (ns.map V.int) its→∀ j,j<its.length→InLong (ns.getD j 0)∧InLong (preSum (fun i=>ns.getD i 0) (j+1)):=fun {its} rv j hj=>by
    have hl:=rv.length
    rw [List.length_map] at hl
    refine ⟨(sm 0 (Nat.zero_le _)).2 _ ?_,?_⟩
    · rw [List.getD_eq_getElem?_getD,List.getElem?_eq_getElem (by omega)]
      exact List.getElem_mem _
    · rw [preSum_take _ _ (by omega)]
      exact (sm _ (by omega)).1
  rcases hp with hp | hp
  · obtain ⟨its,rv,pl,hz⟩:=I.list hp
    have hlt:p<s.heap.objs.size:=let ⟨o,ho,_⟩:=pl.isList; Heap.lt_size ho
    refine call_sum_walk (wpAny_pyIter_list pl.isList ?_)
    refine ⟨s.heap.objs.size,_,_,_,_,_,fun i=>ns.getD i 0,rfl,Walks.list hh s.heap.objs.size p (Nat.ne_of_lt hlt) its.toArray,⟨⟨_,Heap.get?_push_size _ rfl,rfl,rfl⟩,pl.isList.push _⟩,fun b hb=>?_,fun i v hP=>vals_geti rv (by simpa using hP),fun j hj=>fit rv j (by simpa using hj),fun h' tk t' hk=>fin rv fun b o hb e=>hk b o hb (Heap.get?_push_of_some _ e)⟩
    rw [Heap.size_push]
    rcases List.mem_cons.mp hb with e | e
    · rw [e]; exact Nat.lt_succ_self _
    · have:b=p:=by simpa using e
      rw [this]; exact Nat.lt_succ_of_lt hlt
  · obtain ⟨its,rv,pl,hz⟩:=I.tuple hp
    have hlt:p<s.heap.objs.size:=let ⟨o,ho,_⟩:=pl; Heap.lt_size ho
    refine call_sum_walk (wpAny_pyIter_tuple pl ?_)
    refine ⟨s.heap.objs.size,_,_,_,_,_,fun i=>ns.getD i 0,rfl,Walks.tuple hh s.heap.objs.size p (Nat.ne_of_lt hlt) its.toArray,⟨⟨_,Heap.get?_push_size _ rfl,rfl,rfl⟩,pl.push _⟩,fun b hb=>?_,fun i v hP=>vals_geti rv (by simpa using hP),fun j hj=>fit rv j (by simpa using hj),fun h' tk t' hk=>fin rv fun b o hb e=>hk b o hb (Heap.get?_push_of_some _ e)⟩
    rw [Heap.size_push]
    rcases List.mem_cons.mp hb with e | e
    · rw [e]; exact Nat.lt_succ_self _
    · have:b=p:=by simpa using e
      rw [this]; exact Nat.lt_succ_of_lt hlt
end
end L2
set_option Elab.async false
set_option maxRecDepth 100000
namespace L2
open PySem PySem.Spec PyProof.Rows
mutual
def Rep (H:Hp):PyData→V→Prop
 | .none,v=>v=.non
 | .bool b,v=>v=.bl b
 | .int i,v=>v=.int i
 | .str x,v=>v=.str x
 | .list ds,v=>∃ a xs,v=.ref a∧H a=some (.lst xs)∧RepL H ds xs
 | .tuple ds,v=>∃ a xs,v=.ref a∧H a=some (.tup xs)∧RepL H ds xs
 | .dict _,_=>False
def RepL (H:Hp):List PyData→List V→Prop
 | [],xs=>xs=[]
 | d::ds,xs=>∃ x r,xs=x::r∧Rep H d x∧RepL H ds r
end
mutual
theorem Rep.mono {H H':Hp} (s:Same H H'):∀ {d:PyData} {v:V},Rep H d v→Rep H' d v
 | .none,_,h=>by simpa [Rep] using h
 | .bool _,_,h=>by simpa [Rep] using h
 | .int _,_,h=>by simpa [Rep] using h
 | .str _,_,h=>by simpa [Rep] using h
 | .list ds,_,h=>by
  simp only [Rep] at h ⊢
  obtain ⟨a,xs,e,h1,h2⟩:=h
  exact ⟨a,xs,e,s _ _ h1,RepL.mono s h2⟩
 | .tuple ds,_,h=>by
  simp only [Rep] at h ⊢
  obtain ⟨a,xs,e,h1,h2⟩:=h
  exact ⟨a,xs,e,s _ _ h1,RepL.mono s h2⟩
 | .dict _,_,h=>by simp only [Rep] at h
theorem RepL.mono {H H':Hp} (s:Same H H'):∀ {ds:List PyData} {xs:List V},RepL H ds xs→RepL H' ds xs
 | [],_,h=>by simpa [RepL] using h
 | d::ds,_,h=>by
  simp only [RepL] at h ⊢
  obtain ⟨x,r,e,h1,h2⟩:=h
  exact ⟨x,r,e,Rep.mono s h1,RepL.mono s h2⟩
end
section
variable {X:Cx} {pins:List (Addr×Obj)} {σ:St} {H:Hp} {s:Shared}
mutual
theorem Rep.reads (I:Inv X pins σ H s):∀ {d:PyData} {v:V} {u:Value},Rep H d v→RelV v u→∃ as,Reads s.heap u d as
 | .none,_,_,h,r=>by simp only [Rep] at h; subst h; cases r; exact ⟨_,.none⟩
 | .bool _,_,_,h,r=>by simp only [Rep] at h; subst h; cases r; exact ⟨_,.bool _⟩
 | .int _,_,_,h,r=>by simp only [Rep] at h; subst h; obtain ⟨t,rfl⟩:=r; exact ⟨_,.int _ _⟩
 | .str _,_,_,h,r=>by simp only [Rep] at h; subst h; obtain ⟨t,rfl⟩:=r; exact ⟨_,.str _ _⟩
 | .list ds,_,_,h,r=>by
  simp only [Rep] at h
  obtain ⟨a,xs,rfl,h1,h2⟩:=h
  cases (show _=Value.ref a from r)
  obtain ⟨its,rv,pl,_⟩:=I.list (SqL.of h1)
  obtain ⟨as,ra⟩:=RepL.reads I h2 rv
  obtain ⟨o,n,e,c,_,d⟩:=pl
  exact ⟨_,.list e c d (by simpa using ra)⟩
 | .tuple ds,_,_,h,r=>by
  simp only [Rep] at h
  obtain ⟨a,xs,rfl,h1,h2⟩:=h
  cases (show _=Value.ref a from r)
  obtain ⟨its,rv,pl,_⟩:=I.tuple (SqT.of h1)
  obtain ⟨as,ra⟩:=RepL.reads I h2 rv
  obtain ⟨o,e,c,n,d⟩:=pl
  exact ⟨_,.tuple e c d (by simpa using ra)⟩
 | .dict _,_,_,h,_=>by simp only [Rep] at h
theorem RepL.reads (I:Inv X pins σ H s):∀ {ds:List PyData} {xs:List V} {us:List Value},RepL H ds xs→Vals xs us→∃ as,ReadsAll s.heap us ds as
 | [],_,_,h,r=>by simp only [RepL] at h; subst h; cases r; exact ⟨_,.nil⟩
 | d::ds,_,_,h,r=>by
  simp only [RepL] at h
  obtain ⟨x,t,rfl,h1,h2⟩:=h
  cases r with
  | cons r1 r2 =>
   obtain ⟨as,a1⟩:=Rep.reads I h1 r1
   obtain ⟨bs,a2⟩:=RepL.reads I h2 r2
   exact ⟨_,.cons a1 a2⟩
end
end
def rEqD (neg:Bool):R2:=fun x y H Q=>∃ d e,Rep H d x∧Rep H e y∧SeqAt.shaped d=true∧SeqAt.shaped e=true∧Q (.bl (if neg then !PyData.eqv d e else PyData.eqv d e)) H
section
variable {X:Cx}
theorem op_eqD (hu:X.A.units+64<cLine):OpR X (compareOp .Eq) (rEqD false):=by
 intro pins s σ H x y v u Q I rx ry h
 obtain ⟨d,e,h1,h2,s1,s2,q⟩:=h
 obtain ⟨as,r1⟩:=h1.reads I rx
 obtain ⟨bs,r2⟩:=h2.reads I ry
 exact eq_dataH r1 r2 s1 s2 hu ⟨.bl _,H,I,rfl,q⟩
theorem op_neD (hu:X.A.units+64<cLine):OpR X (compareOp .NotEq) (rEqD true):=by
 intro pins s σ H x y v u Q I rx ry h
 obtain ⟨d,e,h1,h2,s1,s2,q⟩:=h
 obtain ⟨as,r1⟩:=h1.reads I rx
 obtain ⟨bs,r2⟩:=h2.reads I ry
 exact ne_dataH r1 r2 s1 s2 hu ⟨.bl _,H,I,rfl,q⟩
end
def tyD:PyData→String
 | .none=>"NoneType"
 | .bool _=>"bool"
 | .int _=>"int"
 | .str _=>"str"
 | .list _=>"list"
 | .tuple _=>"tuple"
 | .dict _=>"dict"
theorem Rep.ty {K:PySem.W.Frag} {H:Hp} {d:PyData} {v:V} (h:Rep H d v):TyOf K H v (.type (tyD d)):=by
 cases d with
 | none=>simp only [Rep] at h; subst h; exact .non
 | bool b=>simp only [Rep] at h; subst h; exact .bl b
 | int b=>simp only [Rep] at h; subst h; exact .int b
 | str b=>simp only [Rep] at h; subst h; exact .str b
 | list ds=>simp only [Rep] at h; obtain ⟨a,xs,rfl,e,_⟩:=h; exact .lst e
 | tuple ds=>simp only [Rep] at h; obtain ⟨a,xs,rfl,e,_⟩:=h; exact .tup e
 | dict _=>simp only [Rep] at h
def isD (T:String):PyData→Bool
 | .none=>T=="NoneType"
 | .bool _=>T=="bool"||T=="int"
 | .int _=>T=="int"
 | .str _=>T=="str"
 | .list _=>T=="list"
 | .tuple _=>T=="tuple"
 | .dict _=>T=="dict"
theorem kit_bool {K:PySem.W.Frag} (d:PyData):PySem.W.kitOne K (.type (tyD d)) (.type "bool")=some (isD "bool" d):=by cases d<;>kernel_rfl
theorem kit_int {K:PySem.W.Frag} (d:PyData):PySem.W.kitOne K (.type (tyD d)) (.type "int")=some (isD "int" d):=by cases d<;>kernel_rfl
theorem kit_str {K:PySem.W.Frag} (d:PyData):PySem.W.kitOne K (.type (tyD d)) (.type "str")=some (isD "str" d):=by cases d<;>kernel_rfl
theorem kit_list {K:PySem.W.Frag} (d:PyData):PySem.W.kitOne K (.type (tyD d)) (.type "list")=some (isD "list" d):=by cases d<;>kernel_rfl
theorem kit_tuple {K:PySem.W.Frag} (d:PyData):PySem.W.kitOne K (.type (tyD d)) (.type "tuple")=some (isD "tuple" d):=by cases d<;>kernel_rfl
end L2
set_option Elab.async false
set_option maxRecDepth 100000
namespace L2
open PySem PySem.Spec PyProof.Rows
theorem Inv.turnedL {X:Cx} {pins:List (Addr×Obj)} {σ:St} {H:Hp} {s:Shared} {h':Heap} {t':Nat} {ch:List Addr} {T:Addr} {o:HO} (I:Inv X pins σ H s) (k:∀ b o,b∉ch→s.heap.get? b=some o→h'.get? b=some o)
  (f:∀ b∈ch,FpOk X pins H b) (there:∀ b∈ch,∃ o,h'.get? b=some o) (hT:s.heap.objs.size≤T) (new:ObjOk X.prog X.w (upd H T o) h' T o):Inv X pins σ (upd H T o) { s with heap:=h',toks:=t' }:=by
 have nit:∀ b u,H b=some u→b∉ch:=fun b u e z=>by rw [(f b z).1] at e; cases e
 have ltT:∀ b ob,s.heap.get? b=some ob→b≠T:=fun b ob e=>Nat.ne_of_lt (Nat.lt_of_lt_of_le (Heap.lt_size e) hT)
 have hTn:H T=none:=I.hok.fresh hT
 have neT:∀ b u,H b=some u→b≠T:=fun b u e=>ne_of_none e hTn
 refine I.step (g':=s.gens) (d':=s.drawn) (ch:=ch) (fun b hb=>⟨(f b hb).2.2.2.1,(f b hb).2.1,(f b hb).2.2.2.2.1,(f b hb).2.2.2.2.2⟩) (fun b o _ _ hc e _=>k b o hc e) (fun b o _ _ hc e _=>⟨o.slots,k b o hc e⟩) (fun b o _ e n=>by rw [upd_ne (ltT b o e)]; exact n)
  (fun b o hc e=>⟨o,k b o hc e⟩) (fun b _ e=>by rw [upd_ne (neT b _ e)]; exact e) (fun b _ _ e=>by rw [upd_ne (neT b _ e)]; exact e) (fun b ps e=>⟨#[],by rw [upd_ne (neT b _ e),e]; simp⟩) (fun m hm=>?_) (fun b u e=>?_) I.bare
 ·obtain ⟨ob,es,ep,ho,r⟩:=hm
  exact ⟨ob,es,ep,k _ ob (fun z=>(f _ z).2.1 rfl) ho,r⟩
 ·by_cases hb:b=T
  ·subst hb
   rw [upd_same] at e
   cases e
   exact new
  ·rw [upd_ne hb] at e
   refine (I.hok b u e).stay (fun c v hc q=>k c v ?_ q) (fun q e'=>?_) fun a q e'=>?_
   ·rcases hc with z | z
    ·rw [z]; exact nit b u e
    ·exact nit c _ z
   ·rw [upd_ne (neT _ _ e')]; exact e'
   ·rw [upd_ne (neT _ _ e')]; exact e'
def Itz (K:PySem.W.Frag) (a b:Addr):It :=
  ⟨fun i H=>∃ xs ys x y,SqL K H a xs∧SqL K H b ys∧xs[i]?=some x∧ys[i]?=some y,
   fun i H v H'=>∃ T,v=.ref T∧H T=none∧∀ xs ys,SqL K H a xs→SqL K H b ys→∃ x y,xs[i]?=some x∧ys[i]?=some y∧H'=upd H T (.tup [x,y]),
   fun i H=>∃ xs ys,SqL K H a xs∧SqL K H b ys∧(xs.length≤i∨ys.length≤i)⟩
theorem turn_zip {P:Program} {w:World} {K:PySem.W.Frag} {elts:List Expr} {kt:Nat} {pt:Pos} {a b n:Addr} (ha:a<n) (hb:b<n) :
    Turn P w K (.Tuple elts kt pt) (Itz K a b) [n+4,n+2,n+3,n,n+1] (n+4) (fun i h=>IsZip h (n+4) (n+2) (n+3) .none∧IsPair h (n+2) (.ref n) (.ref (n+1))∧(∃ x y,IsPair h (n+3) x y)∧h.IsListIter n a i∧h.IsListIter (n+1) b i) where
  mem:=by simp
  obj:=fun i h st c hc=>by
    obtain ⟨z1,z2,⟨x,y,z3⟩,⟨o4,e4,c4,d4⟩,⟨o5,e5,c5,d5⟩⟩:=st
    simp only [List.mem_cons,List.not_mem_nil,or_false] at hc
    rcases hc with rfl | rfl | rfl | rfl | rfl
    · exact ⟨_,z1,fun v z=>by cases z⟩
    · exact ⟨_,z2,fun v z=>by cases z⟩
    · exact ⟨_,z3,fun v z=>by cases z⟩
    · exact ⟨_,e4,fun v z=>by rw [d4] at z; cases z⟩
    · exact ⟨_,e5,fun v z=>by rw [d5] at z; cases z⟩
  keep:=fun i h h' st k=>by
    obtain ⟨z1,z2,⟨x,y,z3⟩,z4,z5⟩:=st
    exact ⟨k _ (by simp) _ z1,k _ (by simp) _ z2,⟨x,y,k _ (by simp) _ z3⟩,z4.at fun o e=>k _ (by simp) o e,z5.at fun o e=>k _ (by simp) o e⟩
  item:=by
    intro X hP hw hK hc i pins s σ H E I hf st hg
    subst hP hw hK
    obtain ⟨xs,ys,x,y,hqa,hqb,hx,hy⟩:=hg
    obtain ⟨its,rv,p,hz⟩:=I.list hqa
    obtain ⟨jts,rw',p',hz'⟩:=I.list hqb
    obtain ⟨u,hu,ru⟩:=rv.get hx
    obtain ⟨u',hu',ru'⟩:=rw'.get hy
    obtain ⟨z1,z2,⟨x0,y0,z3⟩,z4,z5⟩:=st
    have D:ZipApart (n+4) (n+2) (n+3) n (n+1) a b:=PyProof.Rows.zipApart_new ha hb
    have ltz:n+4<s.heap.objs.size:=Heap.lt_size z1
    refine wpAny_pyNext_zip_item D z1 z2 z3 z4 z5 p.isList p'.isList (x:=u) (y:=u') (by simpa using hu) (by simpa using hu') fun h' a1 a2 a3 a4 a5 a6 hk=>?_
    refine ⟨_,rfl,wpAny_letOwnedTupleGo_zip (s:={ s with heap:=h' }) a1 fun h2 b1 hs=>?_⟩
    have neT:∀ {c:Addr},c≤n+4→c≠s.heap.objs.size:=fun h=>Nat.ne_of_lt (Nat.lt_of_le_of_lt h ltz)
    have kk:∀ c o,c∉[n+4,n+3,n,n+1]→s.heap.get? c=some o→h2.get? c=some o:=fun c o hc e=>by
      simp only [List.mem_cons,List.not_mem_nil,or_false,not_or] at hc
      exact (hs.2 c hc.1).trans (hk c o hc.1 hc.2.1 hc.2.2.1 hc.2.2.2 e)
    have q2:h2.get? (n+2)=_:=kk _ _ (by simp only [List.mem_cons,List.not_mem_nil,or_false,not_or]; exact ⟨D.TIz,D.TITO,D.TIi1,D.TIi2⟩) z2
    have q3:h2.get? (n+3)=_:=(hs.2 _ D.TOz).trans a2
    obtain ⟨o4,e4,c4⟩:=a3
    obtain ⟨o5,e5,c5⟩:=a4
    have q4:h2.get? n=_:=(hs.2 _ D.i1z).trans e4
    have q5:h2.get? (n+1)=_:=(hs.2 _ D.i2z).trans e5
    have qT:h2.get? s.heap.objs.size=_:=(hs.2 _ (Ne.symm (neT (Nat.le_refl _)))).trans a5
    have sub:∀ c∈[n+4,n+3,n,n+1],c∈[n+4,n+2,n+3,n,n+1]:=fun c hc=>by
      simp only [List.mem_cons,List.not_mem_nil,or_false] at hc ⊢
      rcases hc with e | e | e | e
      · exact .inl e
      · exact .inr (.inr (.inl e))
      · exact .inr (.inr (.inr (.inl e)))
      · exact .inr (.inr (.inr (.inr e)))
    have I1:Inv X pins σ (upd H s.heap.objs.size (.tup [x,y])) { s with heap:=h2,toks:=s.toks }:=I.turnedL (ch:=[n+4,n+3,n,n+1]) kk (fun c hc=>hf c (sub c hc)) (fun c hc=>by
        simp only [List.mem_cons,List.not_mem_nil,or_false] at hc
        rcases hc with rfl | rfl | rfl | rfl
        · exact ⟨_,b1⟩
        · exact ⟨_,q3⟩
        · exact ⟨_,q4⟩
        · exact ⟨_,q5⟩) (Nat.le_refl _) ⟨by show 2≤sizeLine; decide,[u,u'],.cons ru (.cons ru' .nil),_,qT,rfl,_,rfl⟩
    refine ⟨.ref s.heap.objs.size,_,I1,rfl,⟨_,rfl,I.hok.fresh (Nat.le_refl _),fun vs ws hv hw=>?_⟩,⟨b1,q2,⟨_,_,q3⟩,⟨_,q4,c4⟩,⟨_,q5,c5⟩⟩,fun c hc=>?_⟩
    · rw [I.list_inj hv hqa,I.list_inj hw hqb]
      exact ⟨x,y,hx,hy,rfl⟩
    · have hle:c≤n+4:=by
        simp only [List.mem_cons,List.not_mem_nil,or_false] at hc
        rcases hc with rfl | rfl | rfl | rfl | rfl
        · exact Nat.le_refl _
        · exact Nat.le_add_right (n+2) 2
        · exact Nat.le_add_right (n+3) 1
        · exact Nat.le_add_right _ 4
        · exact Nat.le_add_right (n+1) 3
      rw [upd_ne (neT hle)]
      exact (hf c hc).1
  done:=by
    intro X hP hw hK hc i pins s σ H E I hf st hg
    subst hP hw hK
    obtain ⟨xs,ys,hqa,hqb,hl⟩:=hg
    obtain ⟨its,rv,p,hz⟩:=I.list hqa
    obtain ⟨jts,rw',p',hz'⟩:=I.list hqb
    obtain ⟨z1,z2,⟨x0,y0,z3⟩,z4,z5⟩:=st
    have D:ZipApart (n+4) (n+2) (n+3) n (n+1) a b:=PyProof.Rows.zipApart_new ha hb
    have l1:=rv.length
    have l2:=rw'.length
    refine wpAny_pyNext_zip_end (I.ok.hd hc) D z1 z2 z3 z4 z5 p.isList p'.isList ?_ fun h' hk=>⟨rfl,?_⟩
    · rcases hl with h | h
      · exact .inl (by simp; omega)
      · exact .inr (by simp; omega)
    · have fp:∀ c∈[n+4,n+3,n,n+1],FpOk X pins H c:=fun c hc=>hf c (by
        simp only [List.mem_cons,List.not_mem_nil,or_false] at hc ⊢
        rcases hc with e | e | e | e
        · exact .inl e
        · exact .inr (.inr (.inl e))
        · exact .inr (.inr (.inr (.inl e)))
        · exact .inr (.inr (.inr (.inr e))))
      have kk:∀ c o,c∉[n+4,n+3,n,n+1]→s.heap.get? c=some o→h'.get? c=some o:=fun c o hc e=>by
        simp only [List.mem_cons,List.not_mem_nil,or_false,not_or] at hc
        exact hk c o hc.1 hc.2.1 hc.2.2.1 hc.2.2.2 e
      have nit:∀ c u,H c=some u→c∉[n+4,n+3,n,n+1]:=fun c u e z=>by rw [(fp c z).1] at e; cases e
      refine I.step (g':=s.gens) (d':=s.drawn) (t':=s.toks) (ch:=[n+4,n+3,n,n+1]) (fun c hc=>⟨(fp c hc).2.2.2.1,(fp c hc).2.1,(fp c hc).2.2.2.2.1,(fp c hc).2.2.2.2.2⟩) (fun c o _ _ hc e _=>kk c o hc e) (fun c o _ _ hc e _=>⟨o.slots,kk c o hc e⟩) (fun _ _ _ _ n=>n)
        (fun c o hc e=>⟨o,kk c o hc e⟩) (fun _ _ e=>e) (fun _ _ _ e=>e) (fun _ ps e=>⟨#[],by rw [e]; simp⟩) (fun m hm=>?_) (fun c u e=>?_) I.bare
      · obtain ⟨ob,es,ep,ho,r⟩:=hm
        exact ⟨ob,es,ep,kk _ ob (fun z=>(fp _ z).2.1 rfl) ho,r⟩
      · refine (I.hok c u e).stay (fun d v hd q=>kk d v ?_ q) (fun _ e'=>e') fun _ _ e'=>e'
        rcases hd with z | z
        · rw [z]; exact nit c u e
        · exact nit d _ z
  self:=fun _ _ _ _ _ st h=>wpAny_pyIter_zip st.1 h
section
variable {X:Cx} {elts:List Expr} {kt:Nat} {pt:Pos}
end
end L2
set_option Elab.async false
set_option maxRecDepth 100000
namespace L2
open PySem PySem.Spec PyProof.Rows
section
variable {σ:St} {H:Hp} {Q:VK} {D:Ends} {QB:Bool→Hp→Prop} {QA:List V→Hp→Prop}
theorem rd_next (h:D.nx σ H):tNext D σ H:=h
theorem rd_asg {te:TE} {g:TG} (h:te σ H fun x H1=>g x σ H1 D.nx):tAsg te g D σ H:=h
theorem rd_name {i:Nat} {v:V} {Q:St→Hp→Prop} (h:Q (σ.set i (some v)) H):gName i v σ H Q:=h
theorem rd_ret {te:TE} (h:te σ H D.rt):tRet te D σ H:=h
theorem rd_drop {te:TE} (h:te σ H fun _ H1=>D.nx σ H1):tDrop te D σ H:=h
theorem rd_ifS {c:TT} {t u:TS} (h:c σ H fun b H1=>if b=true then t D σ H1 else u D σ H1):tIfS c t u D σ H:=h
theorem rd_tB {t:TE} (h:t σ H fun x H1=>∃ c,x=.bl c∧QB c H1):tB t σ H QB:=h
theorem rd_tTest {t:TE} (h:t σ H fun x H1=>∃ c,x=.bl c∧QB c H1):tTest t σ H QB:=h
theorem rd_exbl {b:Bool} {P:Bool→Prop} (h:P b):∃ c,V.bl b=V.bl c∧P c:=⟨b,rfl,h⟩
theorem rd_exref {a:Addr} {P:Addr→Prop} (h:P a):∃ c,V.ref a=V.ref c∧P c:=⟨a,rfl,h⟩
theorem rd_exint {i:Int} {P:Int→Prop} (h:P i):∃ c,V.int i=V.int c∧P c:=⟨i,rfl,h⟩
theorem rd_var {i:Nat} {v:V} (e:σ[i]?=some (some v)) (h:Q v H):tVar i σ H Q:=⟨v,e,h⟩
theorem rd_c {v:V} (h:Q v H):tC v σ H Q:=h
theorem rd_op {r:R2} {ta tb:TE} (h:ta σ H fun x H1=>tb σ H1 fun y H2=>r x y H2 Q):tOp r ta tb σ H Q:=h
theorem rd_un {r:V→Hp→VK→Prop} {ta:TE} (h:ta σ H fun x H1=>r x H1 Q):tUn r ta σ H Q:=h
theorem rd_andV {ta tb:TE} (h:ta σ H fun x H1=>∃ c,x=.bl c∧if c=true then tb σ H1 Q else Q (.bl false) H1):tAndV ta tb σ H Q:=h
theorem rd_notV {ta:TE} (h:ta σ H fun x H1=>∃ c,x=.bl c∧Q (.bl (!c)) H1):tNotV ta σ H Q:=h
theorem rd_and {t u:TT} (h:t σ H fun c H1=>if c=true then u σ H1 QB else QB false H1):tAnd t u σ H QB:=h
theorem rd_or {t u:TT} (h:t σ H fun c H1=>if c=true then QB true H1 else u σ H1 QB):tOr t u σ H QB:=h
theorem rd_not {t:TT} (h:t σ H fun c H1=>QB (!c) H1):tNot t σ H QB:=h
theorem rd_true (h:QB true H):tTrue σ H QB:=h
theorem rd_I0 {g:Int→Int→V} {i j:Int} (h:Q (g i j) H):rI0 g (.int i) (.int j) H Q:=⟨i,j,rfl,rfl,h⟩
theorem rd_I {C:Int→Int→Prop} {g:Int→Int→V} {i j:Int} (c:C i j) (h:Q (g i j) H):rI C g (.int i) (.int j) H Q:=⟨i,j,rfl,rfl,c,h⟩
theorem rd_U {g:Int→V} {i:Int} (h:Q (g i) H):rU g (.int i) H Q:=⟨i,rfl,h⟩
theorem rd_eqI {i j:Int} (h:Q (.bl (decide (i=j))) H):rEq (.int i) (.int j) H Q:=⟨rfl,by
 rw [dec_int,Int.instDecidableEq.eq_def]<;>first | exact h | (simpa [dec_int] using h)⟩
theorem rd_neI {i j:Int} (h:Q (.bl (!decide (i=j))) H):rNe (.int i) (.int j) H Q:=⟨rfl,by
 have e:decide (V.int i=V.int j)=decide (i=j):=by by_cases z:i=j<;>simp [z]
 rw [e]; exact h⟩
theorem rd_eqS {i j:Str} (h:Q (.bl (decide (i=j))) H):rEq (.str i) (.str j) H Q:=⟨rfl,by
 have e:decide (V.str i=V.str j)=decide (i=j):=by by_cases z:i=j<;>simp [z]
 rw [e]; exact h⟩
theorem rd_eqB {i j:Bool} (h:Q (.bl (decide (i=j))) H):rEq (.bl i) (.bl j) H Q:=⟨rfl,by
 have e:decide (V.bl i=V.bl j)=decide (i=j):=by by_cases z:i=j<;>simp [z]
 rw [e]; exact h⟩
theorem rd_neB {i j:Bool} (h:Q (.bl (!decide (i=j))) H):rNe (.bl i) (.bl j) H Q:=⟨rfl,by
 have e:decide (V.bl i=V.bl j)=decide (i=j):=by by_cases z:i=j<;>simp [z]
 rw [e]; exact h⟩
theorem rd_ixL {K:PySem.W.Frag} {p:Addr} {xs:List V} {i:Int} {v:V} (h:SqL K H p xs) (e:atI xs i=some v) (q:Q v H):rIxL K (.ref p) (.int i) H Q:=⟨p,xs,i,v,rfl,rfl,h,e,q⟩
theorem rd_ixT {K:PySem.W.Frag} {p:Addr} {xs:List V} {i:Int} {v:V} (h:SqT K H p xs) (e:atI xs i=some v) (q:Q v H):rIxT K (.ref p) (.int i) H Q:=⟨p,xs,i,v,rfl,rfl,h,e,q⟩
theorem rd_chain {r r':R2} {ta tb tc:TE} (h:ta σ H fun x H1=>tb σ H1 fun y H2=>r x y H2 fun z H3=>∃ k,z=.bl k∧if k=true then tc σ H3 fun y' H4=>r' y y' H4 Q else Q (.bl false) H3):tChain r r' ta tb tc σ H Q:=h
theorem rd_call {sp:Sp} {dvs:List V} {E:XK} {t:TA} (h:t σ H fun vs H1=>sp (vs++dvs) H1 Q E):tCall sp dvs E t σ H Q:=h
theorem rd_nil (h:QA [] H):tNil σ H QA:=h
theorem rd_cons {ta:TE} {tr:TA} (h:ta σ H fun x H1=>tr σ H1 fun xs H2=>QA (x::xs) H2):tCons ta tr σ H QA:=h
theorem rd_CB {r:List V→Hp→VK→Prop} {t:TA} (h:t σ H fun vs H1=>r vs H1 Q):tCB r t σ H Q:=h
theorem rd_tup {t:TA} (h:t σ H fun xs H1=>xs.length≤sizeLine∧∀ p,H1 p=none→Q (.ref p) (upd H1 p (.tup xs))):tTup t σ H Q:=h
theorem rd_lst {t:TA} (h:t σ H fun xs H1=>xs.length≤sizeLine∧∀ p,H1 p=none→Q (.ref p) (upd H1 p (.lst xs))):tLst t σ H Q:=h
end
end L2
set_option Elab.async false
set_option maxRecDepth 100000
namespace L2
open PySem PySem.Spec PyProof.Rows
theorem kit_ii {K:PySem.W.Frag}:PySem.W.kitOne K (.type "int") (.type "int")=some true:=by kernel_rfl
theorem kit_ib {K:PySem.W.Frag}:PySem.W.kitOne K (.type "int") (.type "bool")=some false:=by kernel_rfl
section
variable {X:Cx} {K:PySem.W.Frag} {H:Hp} {Q:VK} {σ:St}
def rIsi (K:PySem.W.Frag):List V→Hp→VK→Prop:=fun xs H Q=>∃ x n t b,xs=[x,.ty n]∧TyOf K H x t∧PySem.W.kitOne K t (.type n)=some b∧Q (.bl b) H
theorem cI_isinst:CallR X (.builtin "isinstance") (rIsi X.K):=call_isinst
theorem rd_isi {x:V} {n:String} {t:Value} {b:Bool} (ty:TyOf K H x t) (e:PySem.W.kitOne K t (.type n)=some b) (h:Q (.bl b) H):rIsi K [x,.ty n] H Q:=⟨x,n,t,b,rfl,ty,e,h⟩
def rLen (K:PySem.W.Frag):List V→Hp→VK→Prop:=fun xs H Q=>∃ p ys,xs=[.ref p]∧(SqL K H p ys∨SqT K H p ys)∧Q (.int ys.length) H
theorem cI_len:CallR X (.builtin "len") (rLen X.K):=call_len_seq
theorem rd_lenL {p:Addr} {ys:List V} (h:H p=some (.lst ys)) (q:Q (.int ys.length) H):rLen K [.ref p] H Q:=⟨p,ys,rfl,.inl (SqL.of h),q⟩
theorem rd_lenT {p:Addr} {ys:List V} (h:H p=some (.tup ys)) (q:Q (.int ys.length) H):rLen K [.ref p] H Q:=⟨p,ys,rfl,.inr (SqT.of h),q⟩
def rAll (K:PySem.W.Frag):List V→Hp→VK→Prop:=fun xs H Q=>∃ (p:Addr) (bs:List Bool),xs=[.ref p]∧SqL K H p (bs.map V.bl)∧Q (.bl (bs.all id)) H
theorem cI_all (hc:X.calm=true):CallR X (.builtin "all") (rAll X.K):=call_all_bl hc
theorem rd_all {p:Addr} {bs:List Bool} (h:H p=some (.lst (bs.map V.bl))) (q:Q (.bl (bs.all id)) H):rAll K [.ref p] H Q:=⟨p,bs,rfl,SqL.of h,q⟩
def rSum (K:PySem.W.Frag):List V→Hp→VK→Prop:=fun xs H Q=>∃ (p:Addr) (ns:List Int),xs=[.ref p]∧(SqL K H p (ns.map V.int)∨SqT K H p (ns.map V.int))∧SmallSum ns∧Q (.int ns.sum) H
theorem cI_sum (hc:X.calm=true):CallR X (.builtin "sum") (rSum X.K):=call_sum_seq hc
theorem rd_sumT {p:Addr} {ns:List Int} (h:H p=some (.tup (ns.map V.int))) (s:SmallSum ns) (q:Q (.int ns.sum) H):rSum K [.ref p] H Q:=⟨p,ns,rfl,.inr (SqT.of h),s,q⟩
def rAbs:List V→Hp→VK→Prop:=fun xs H Q=>∃ i,xs=[.int i]∧Q (.int (if i<0 then -i else i)) H
theorem cI_abs:CallR X (.builtin "abs") rAbs:=call_abs
theorem rd_abs {i:Int} (q:Q (.int (if i<0 then -i else i)) H):rAbs [.int i] H Q:=⟨i,rfl,q⟩
def rList (K:PySem.W.Frag):List V→Hp→VK→Prop:=fun xs H Q=>∃ p ys,xs=[.ref p]∧(SqL K H p ys∨SqT K H p ys)∧∀ l,H l=none→Q (.ref l) (upd H l (.lst ys))
theorem cI_list:CallR X (.type "list") (rList X.K):=call_list_of
theorem rd_listL {p:Addr} {ys:List V} (h:H p=some (.lst ys)) (q:∀ l,H l=none→Q (.ref l) (upd H l (.lst ys))):rList K [.ref p] H Q:=⟨p,ys,rfl,.inl (SqL.of h),q⟩
theorem rd_listT {p:Addr} {ys:List V} (h:H p=some (.tup ys)) (q:∀ l,H l=none→Q (.ref l) (upd H l (.lst ys))):rList K [.ref p] H Q:=⟨p,ys,rfl,.inr (SqT.of h),q⟩
def rTuple (K:PySem.W.Frag):List V→Hp→VK→Prop:=fun xs H Q=>∃ p ys,xs=[.ref p]∧((SqL K H p ys∧∀ l,H l=none→Q (.ref l) (upd H l (.tup ys)))∨(SqT K H p ys∧Q (.ref p) H))
theorem cI_tuple:CallR X (.type "tuple") (rTuple X.K):=call_tuple_of
theorem rd_tupleL {p:Addr} {ys:List V} (h:H p=some (.lst ys)) (q:∀ l,H l=none→Q (.ref l) (upd H l (.tup ys))):rTuple K [.ref p] H Q:=⟨p,ys,rfl,.inl ⟨SqL.of h,q⟩⟩
def rFld (K:PySem.W.Frag) (f:Str):V→Hp→VK→Prop:=fun x H1 Q=>∃ a C dx fs v,x=.ref a∧H1 a=some (.ins C dx fs)∧Cls K C∧NoAttr K C f∧fs.lookup f=some v∧Q v H1
theorem rd_fld {ta:TE} {f:Str} (h:ta σ H fun x H1=>rFld K f x H1 Q):tFld K ta f σ H Q:=h
theorem rd_fldv {f:Str} {a C dx:Addr} {fs:List (Str×V)} {v:V} (h:H a=some (.ins C dx fs)) (c:Cls K C) (n:NoAttr K C f) (l:fs.lookup f=some v) (q:Q v H):rFld K f (.ref a) H Q:=⟨a,C,dx,fs,v,rfl,h,c,n,l,q⟩
def rMeth (C:Addr) (m:Str):V→Hp→Prop→Prop:=fun x H1 q=>∃ a dx fs,x=.ref a∧H1 a=some (.ins C dx fs)∧fs.lookup m=none∧q
theorem rd_meth {C:Addr} {m:Str} {sp:Sp} {dvs:List V} {E:XK} {ta:TE} {t:TA} (h:ta σ H fun x H1=>rMeth C m x H1 (t σ H1 fun vs H2=>sp (x::(vs++dvs)) H2 Q E)):tMeth C m sp dvs E ta t σ H Q:=h
theorem rd_methv {C a dx:Addr} {m:Str} {fs:List (Str×V)} {q:Prop} (h:H a=some (.ins C dx fs)) (l:fs.lookup m=none) (hq:q):rMeth C m (.ref a) H q:=⟨a,dx,fs,rfl,h,l,hq⟩
theorem rd_make {C:Addr} {sp:Sp} {dvs:List V} {E:XK} {t:TA} (h:t σ H fun vs H1=>∀ x dx,H1 x=none→H1 dx=none→dx≠x →
 sp (.ref x::(vs++dvs)) (upd (upd H1 dx (.own x)) x (.ins C dx [])) (fun v H2=>v=.non∧Q (.ref x) H2) E):tMake C sp dvs E t σ H Q:=h
def rBM (K:PySem.W.Frag) (T:String):V→Hp→Prop→Prop:=fun x H1 q=>tyV K T x H1∧q
theorem rd_bm {T:String} {r:V→List V→Hp→VK→Prop} {to:TE} {t:TA} (h:to σ H fun x H1=>rBM K T x H1 (t σ H1 fun xs H2=>r x xs H2 Q)):tBM K T r to t σ H Q:=h
theorem rd_bm0 {T:String} {r:V→List V→Hp→VK→Prop} {to:TE} (h:to σ H fun x H1=>rBM K T x H1 (r x [] H1 Q)):tBM0 K T r to σ H Q:=h
theorem rd_bmL {l:Addr} {xs:List V} {q:Prop} (h:H l=some (.lst xs)) (hq:q):rBM K "list" (.ref l) H q:=⟨.inl ⟨rfl,_,SqL.of h⟩,hq⟩
theorem rd_append {l:Addr} {xs:List V} {y:V} (h:H l=some (.lst xs)) (z:xs.length<sizeLine) (q:Q .non (upd H l (.lst (xs++[y])))):rAppend (.ref l) [y] H Q:=⟨l,xs,y,rfl,rfl,h,z,q⟩
theorem rd_sl {r:V→Option Int→Option Int→Hp→VK→Prop} {te:TE} {tl th:TO} (h:te σ H fun x H1=>tl σ H1 fun l H2=>th σ H2 fun u H3=>r x l u H3 Q):tSl r te tl th σ H Q:=h
theorem rd_nopart {Q:Option Int→Hp→Prop} (h:Q none H):tNoPart σ H Q:=h
theorem rd_part {t:TE} {Q:Option Int→Hp→Prop} (h:t σ H fun x H1=>∃ i,x=.int i∧Q (some i) H1):tPart t σ H Q:=h
theorem rd_slL {a:Addr} {xs:List V} {lo hi:Option Int} (h:H a=some (.lst xs)) (q:∀ p,H p=none→Q (.ref p) (upd H p (.lst (cutV xs lo hi)))):rSlL K (.ref a) lo hi H Q:=⟨a,xs,rfl,SqL.of h,q⟩
def ForW (J:It) (g:TG) (tb:TS) (D:Ends) (σ:St) (H1:Hp):Prop:=∃ W:Nat→Nat→St→Hp→Prop,(∃ m,W 0 m σ H1)∧∀ i m σ H,W i m σ H →
 (J.stop i H∧D.nx σ H)∨(J.go i H∧∃ N:St→Hp→Prop,(∀ σ' H',N σ' H'→∃ m',m'<m∧W (i+1) m' σ' H')∧∀ x H',J.yld i H x H'→g x σ H' fun σ2 H2=>tb { D with nx:=N,ct:=N,bk:=D.nx } σ2 H2)
theorem rd_for {wi:TI} {g:TG} {tb:TS} {D:Ends} (h:wi σ H fun J H1=>ForW J g tb D σ H1):tFor wi g tb D σ H:=h
theorem forW_list {a:Addr} {xs:List V} {g:TG} {tb:TS} {D:Ends} (Pv:Nat→St→Hp→Prop) (h0:Pv 0 σ H) (hl:∀ i σ H,i≤xs.length→Pv i σ H→SqL K H a xs)
  (hs:∀ i x σ H,xs[i]?=some x→Pv i σ H→g x σ H fun σ2 H2=>tb { D with nx:=Pv (i+1),ct:=Pv (i+1),bk:=D.nx } σ2 H2) (hd:∀ σ H,Pv xs.length σ H→D.nx σ H):ForW (Itl K a) g tb D σ H:=for_list Pv h0 hl hs hd
theorem forW_range {lo:Int} {n:Nat} {g:TG} {tb:TS} {D:Ends} (Pv:Nat→St→Hp→Prop) (h0:Pv 0 σ H)
  (hs:∀ i σ H,i<n→Pv i σ H→g (.int (lo+i)) σ H fun σ2 H2=>tb { D with nx:=Pv (i+1),ct:=Pv (i+1),bk:=D.nx } σ2 H2) (hd:∀ σ H,Pv n σ H→D.nx σ H):ForW (Itr lo n) g tb D σ H:=for_range Pv h0 hs hd
theorem rd_rng1 {ta:TA} {R:It→Hp→Prop} (h:ta σ H fun vs H1=>∃ j:Int,vs=[.int j]∧-(2 ^ 62)≤j∧j<2 ^ 62∧R (Itr 0 j.toNat) H1):iRng1 ta σ H R:=h
theorem rd_ilist {tl:TE} {R:It→Hp→Prop} (h:tl σ H fun x H1=>∃ a,x=.ref a∧(∃ xs,SqL K H1 a xs)∧R (Itl K a) H1):iList K tl σ H R:=h
end
theorem atI_ints {zs:List Int} {i:Int} (h0:0≤i) (h1:i<zs.length):atI (zs.map V.int) i=some (.int (zs.getD i.toNat 0)):=by
 obtain ⟨k,rfl⟩:∃ k:Nat,i=(k:Int):=⟨i.toNat,by omega⟩
 refine atI_nat ?_
 have hk:k<zs.length:=by omega
 simp [hk]
theorem Same.new {H:Hp} {p:Addr} {o:HO} (h:H p=none):Same H (upd H p o):=fun b u e=>by rw [upd_ne (ne_of_none e h)]; exact e
theorem Same.later {H0 H:Hp} {p:Addr} {o:HO} (s:Same H0 H) (h:H0 p=none):Same H0 (upd H p o):=fun b u e=>by rw [upd_ne (ne_of_none e h)]; exact s b u e
end L2
set_option Elab.async false
set_option maxRecDepth 100000
namespace L2
open PySem PySem.Spec PyProof.Rows
theorem iteTA {b:Bool} {A B:Prop} (h:if b=true then A else B):if (true&&b)=true then A else B:=by rw [Bool.true_and]; exact h
theorem iteNN {b:Bool} {A B:Prop} (h:if b=true then B else A):if (!b)=true then A else B:=by cases b<;>exact h
section
variable {prog:Program} {w:World} {A:Around} {E:Value→Shared→Prop} {s:Shared}
theorem getItem_tuple_whole {t sl:Addr} {items:Array Value} {vl vu:Value} {lo hi:Option Int} {Q:Value→Shared→Prop} (ht:IsTup s.heap t items) (hs:s.heap.IsSliceOf sl vl vu .none) (pl:IsPart vl lo) (pu:IsPart vu hi)
  (hw:HT.sIx items.size 0 lo=0∧HT.sIx items.size items.size hi=items.size) (h:Q (.ref t) s):wpAny (model prog w) A (getItem (.ref t) (.ref sl)) Q E s:=by
 obtain ⟨os,hos,hcs,hds⟩:=id hs
 have hTs:s.TypeIs (.ref sl) "slice":=⟨os,hos,hcs⟩
 unfold getItem
 try with_reducible refine wpAny_holding ?_
 first | refine wpAny_bind (wpAny_pure ?_) | skip
 refine wpAny_bind (wpAny_sequenceKey ht.typeIs (by decide) ?_)
 refine wpAny_bind (wpAny_callSpecial?_slot (name:=Str.ofString "__getitem__") ht.typeIs PyProof.Rows.slot_tuple_getitem
  (wpAny_call_entry PyProof.Rows.slot_tuple_getitem ht.typeIs entry_tuple_getitem ?_ (args_tuple_getitem _ _)))
 show wpAny _ _ (Builtin.Tuple.tupleItemsOf (.ref t) >>= _) _ _ s
 refine wpAny_bind (tupleItemsOf_ ht ?_)
 refine wpAny_bind (wpAny_typeOf hTs ?_)
 rw [if_pos (by decide)]
 refine wpAny_bind (HT.sliceApplied_gen hs pl pu ?_)
 have hyes:(((HT.sIx items.size 0 lo:Nat):Int)==0&&(1:Int)==1&&(HT.sIx items.size items.size hi - HT.sIx items.size 0 lo)==items.size)=true:=by
  rw [hw.1,hw.2]; simp
 show wpAny _ _ (if (((HT.sIx items.size 0 lo:Nat):Int)==0&&(1:Int)==1&&(HT.sIx items.size items.size hi - HT.sIx items.size 0 lo)==items.size)=true then _ else _) _ _ s
 rw [if_pos hyes]
 unfold Builtin.Tuple.tupleIsExact
 refine wpAny_bind (wpAny_bind (wpAny_typeOf ht.typeIs (wpAny_pure ?_)))
 rw [if_pos (by decide)]
 first
  | exact wpAny_bind (wpAny_rule (wpAny_pure ⟨_, rfl, wpAny_pure h⟩))
  | exact wpAny_bind (wpAny_rule (wpAny_bind (wpAny_pure (wpAny_pure ⟨_, rfl, wpAny_pure h⟩))))
  | exact wpAny_bind (wpAny_bind (wpAny_rule (wpAny_pure ⟨_, rfl, wpAny_pure h⟩)))
end
def rSlT' (K:PySem.W.Frag):V→Option Int→Option Int→Hp→VK→Prop:=fun x lo hi H Q=>∃ a xs,x=.ref a∧H a=some (.tup xs)∧∀ H1 p,Same H H1→H1 p=some (.tup (cutV xs lo hi))→Q (.ref p) H1
theorem sl_tup' {X:Cx}:SlR X (rSlT' X.K):=by
 intro pins s σ H x v vl vu lo hi sl Q I rx hs pl pu h
 obtain ⟨a,xs,rfl,hx,q⟩:=h
 by_cases hw:HT.sIx xs.length 0 lo=0∧HT.sIx xs.length xs.length hi=xs.length
 ·cases rx
  obtain ⟨its,r,ht,hz⟩:=I.tuple (SqT.of hx)
  have hlen:its.toArray.size=xs.length:=by rw [List.size_toArray]; exact r.length.symm
  refine ⟨"tuple",_,PyProof.Rows.slot_tuple_getitem.lookup,ht.typeIs,getItem_tuple_whole ht hs pl pu (by rw [hlen]; exact hw) ⟨.ref a,H,I,rfl,q H a (Same.refl _) ?_⟩⟩
  rw [hx]
  unfold cutV
  rw [hw.1,hw.2,List.drop_zero,Nat.sub_zero,List.take_of_length_le (Nat.le_refl _)]
 ·exact sl_tup pins s σ H _ v vl vu lo hi sl Q I rx hs pl pu ⟨a,xs,rfl,SqT.of hx,hw,fun p hp=>q _ p (Same.new hp) upd_same⟩
theorem rd_slT {K:PySem.W.Frag} {H:Hp} {Q:VK} {a:Addr} {xs:List V} {lo hi:Option Int} (h:H a=some (.tup xs)) (q:∀ H1 p,Same H H1→H1 p=some (.tup (cutV xs lo hi))→Q (.ref p) H1):rSlT' K (.ref a) lo hi H Q:=⟨a,xs,rfl,h,q⟩
def CompW (J:It) (g:TG) (tt:TT) (te:TE) (cap:List (Option Nat)) (l:Addr) (σ:St) (H1:Hp) (Q:VK):Prop :=
 ∃ (n:Nat) (Pv:Nat→List V→St→Hp→Prop),Pv 0 [] (capS cap σ) (upd H1 l (.lst [])) ∧
  (∀ i ys σ' H',i<n→Pv i ys σ' H'→J.go i H'∧∀ x H2,J.yld i H' x H2→g x σ' H2 fun σ3 H3=>tt σ3 H3 fun b H4 =>
   if b=true then te σ3 H4 fun y H5=>H5 l=some (.lst ys)∧ys.length<sizeLine∧Pv (i+1) (ys++[y]) σ3 (upd H5 l (.lst (ys++[y]))) else Pv (i+1) ys σ3 H4) ∧
  ∀ ys σ' H',Pv n ys σ' H'→J.stop n H'∧Q (.ref l) H'
section
variable {K:PySem.W.Frag} {σ:St} {H:Hp} {Q:VK} {te:TE} {cap:List (Option Nat)} {l:Addr}
theorem rd_comp {wi:TI} {g:TG} {tt:TT} (h:wi σ H fun J H1=>∀ l,H1 l=none→CompW J g tt te cap l σ H1 Q):tComp wi g tt te cap σ H Q:=h
theorem take_succ_map {α β:Type} (F:α→β) (xs:List α) (i:Nat) {x:α} (h:xs[i]?=some x):(xs.take (i+1)).map F=(xs.take i).map F++[F x]:=by
 rw [List.take_add_one,h,List.map_append]
 rfl
theorem compW_list {a:Addr} {xs:List V} (F:V→V) (hs:SqL K H a xs) (hz:xs.length≤1000) (hl:H l=none)
  (step:∀ x o H' (Q':VK),x∈xs→Same H H'→(∀ H5,Same H' H5→Q' (F x) H5)→te (((capS (none::cap) σ).set 0 o).set 0 (some x)) H' Q')
  (fin:∀ H',Same H H'→H' l=some (.lst (xs.map F))→Q (.ref l) H'):CompW (Itl K a) (gName 0) tTrue te (none::cap) l σ H Q:=by
 refine ⟨xs.length,fun i ys σ' H'=>ys=(xs.take i).map F∧(∃ o,σ'=(capS (none::cap) σ).set 0 o)∧Same H H'∧H' l=some (.lst ys),⟨rfl,⟨none,rfl⟩,Same.new hl,upd_same⟩,?_,?_⟩
 ·rintro i ys σ' H' hi ⟨rfl,⟨o,rfl⟩,s,e⟩
  refine ⟨⟨xs,xs[i],s.seq hs,by simp [hi]⟩,fun x H2 y=>?_⟩
  obtain ⟨e2,y⟩:=y
  subst e2
  have hx:=y xs (s.seq hs)
  refine rd_name (rd_true (iteT ?_))
  refine step x o H2 _ (List.mem_of_getElem? hx) s fun H5 s5=>⟨s5 _ _ e,?_,?_⟩
  ·rw [List.length_map,List.length_take]
   exact small1000 (by omega)
  ·exact ⟨(take_succ_map F xs i hx).symm,⟨_,List.set_set ..⟩,(s.trans s5).later hl,upd_same⟩
 ·rintro ys σ' H' ⟨rfl,_,s,e⟩
  rw [List.take_of_length_le (Nat.le_refl _)] at e
  exact ⟨⟨xs,s.seq hs,Nat.le_refl _⟩,fin H' s e⟩
theorem compW_range {n:Nat} (F:Nat→V) (hz:n≤1000) (hl:H l=none)
  (step:∀ i o H' (Q':VK),i<n→Same H H'→(∀ H5,Same H' H5→Q' (F i) H5)→te (((capS (none::cap) σ).set 0 o).set 0 (some (.int ((0:Int)+(i:Nat))))) H' Q')
  (fin:∀ H',Same H H'→H' l=some (.lst ((List.range n).map F))→Q (.ref l) H'):CompW (Itr 0 n) (gName 0) tTrue te (none::cap) l σ H Q:=by
 refine ⟨n,fun i ys σ' H'=>ys=(List.range i).map F∧(∃ o,σ'=(capS (none::cap) σ).set 0 o)∧Same H H'∧H' l=some (.lst ys),⟨rfl,⟨none,rfl⟩,Same.new hl,upd_same⟩,?_,?_⟩
 ·rintro i ys σ' H' hi ⟨rfl,⟨o,rfl⟩,s,e⟩
  refine ⟨hi,fun x H2 y=>?_⟩
  obtain ⟨e2,rfl⟩:=y
  subst e2
  refine rd_name (rd_true (iteT ?_))
  refine step i o H2 _ hi s fun H5 s5=>⟨s5 _ _ e,?_,?_⟩
  ·rw [List.length_map,List.length_range]
   exact small1000 (by omega)
  ·refine ⟨?_,⟨_,List.set_set ..⟩,(s.trans s5).later hl,upd_same⟩
   rw [List.range_succ,List.map_append]
   rfl
 ·rintro ys σ' H' ⟨rfl,_,s,e⟩
  exact ⟨Nat.le_refl _,fin H' s e⟩
def rSFld (K:PySem.W.Frag) (f:Str) (y x:V) (H2:Hp) (k:Hp→Prop):Prop:=∃ a C dx fs,x=.ref a∧H2 a=some (.ins C dx fs)∧Cls K C∧NoAttr K C f∧fs.length<1000∧k (upd H2 a (.ins C dx (putF f y fs)))
theorem rd_sfld {D:Ends} {ta tv:TE} {f:Str} (h:tv σ H fun y H1=>ta σ H1 fun x H2=>rSFld K f y x H2 fun H3=>D.nx σ H3):sFld K ta tv f D σ H:=h
theorem rd_sfldv {f:Str} {y:V} {k:Hp→Prop} {a C dx:Addr} {fs:List (Str×V)} (h:H a=some (.ins C dx fs)) (c:Cls K C) (n:NoAttr K C f) (z:fs.length<1000) (q:k (upd H a (.ins C dx (putF f y fs)))):rSFld K f y (.ref a) H k:=⟨a,C,dx,fs,rfl,h,c,n,z,q⟩
def WhileW (c:TT) (tb:TS) (D:Ends) (σ:St) (H:Hp):Prop:=∃ W:Nat→St→Hp→Prop,(∃ m,W m σ H)∧∀ m σ H,W m σ H →
 c σ H fun b H1=>if b=true then ∃ N:St→Hp→Prop,(∀ σ' H',N σ' H'→∃ m',m'<m∧W m' σ' H')∧tb { D with nx:=N,ct:=N,bk:=D.nx } σ H1 else D.nx σ H1
theorem rd_while {D:Ends} {c:TT} {tb:TS} (h:WhileW c tb D σ H):tWhile c tb D σ H:=h
theorem rd_gtup {n:Nat} {tt:TGs} {a:Addr} {xs:List V} {QS:St→Hp→Prop} (h:H a=some (.tup xs)) (hl:xs.length=n) (q:tt xs σ H QS):gTup K n tt (.ref a) σ H QS:=⟨a,xs,rfl,SqT.of h,hl,q⟩
theorem rd_gcons {tg:TG} {u:TGs} {v:V} {r:List V} {QS:St→Hp→Prop} (h:tg v σ H fun σ' H'=>u r σ' H' QS):gCons tg u (v::r) σ H QS:=⟨v,r,rfl,h⟩
theorem rd_gnil {QS:St→Hp→Prop} (h:QS σ H):gNil [] σ H QS:=⟨rfl,h⟩
theorem rd_setl {a:Addr} {xs:List V} {k:Int} {j:Nat} {v:V} {QH:Hp→Prop} (h:H a=some (.lst xs)) (e:ixN xs.length k=some j) (q:QH (upd H a (.lst (xs.set j v)))):rSetL (.ref a) (.int k) v H QH:=⟨a,xs,k,j,rfl,rfl,h,e,q⟩
theorem rd_gsub {to ti:TE} {ts:TSet} {v:V} {QS:St→Hp→Prop} (h:to σ H fun o H1=>ti σ H1 fun i H2=>ts o i v H2 fun H3=>QS σ H3):gSub to ti ts v σ H QS:=h
end
section
variable {X:Cx} (K:PySem.W.Frag) (h:X.K=K)
include h
theorem ix_listK:IxR X (rIxL K):=h ▸ ix_list
theorem ix_tupK:IxR X (rIxT K):=h ▸ ix_tup
theorem cI_isinstK:CallR X (.builtin "isinstance") (rIsi K):=h ▸ cI_isinst
theorem cI_lenK:CallR X (.builtin "len") (rLen K):=h ▸ cI_len
theorem cI_allK (hc:X.calm=true):CallR X (.builtin "all") (rAll K):=h ▸ cI_all hc
theorem cI_sumK (hc:X.calm=true):CallR X (.builtin "sum") (rSum K):=h ▸ cI_sum hc
theorem cI_listK:CallR X (.type "list") (rList K):=h ▸ cI_list
theorem cI_tupleK:CallR X (.type "tuple") (rTuple K):=h ▸ cI_tuple
theorem sl_listK:SlR X (rSlL K):=h ▸ sl_list
theorem sl_tupK:SlR X (rSlT' K):=h ▸ sl_tup'
theorem pe_fldK {e:Expr} {ta:TE} {f:Str} {pos:Pos} (he:PE X e ta) (hb:attributeBase e f X.env (eval e X.env)=eval e X.env):PE X (.Attribute e f pos) (tFld K ta f):=h ▸ pe_fld he hb
end
theorem cutV_drop {zs:List Int} {k:Nat}:cutV (zs.map V.int) (some (k:Int)) none=(zs.drop k).map V.int:=by
 unfold cutV
 rw [HT.sIx_none,HT.sIx_nat,List.length_map]
 rcases Nat.le_total k zs.length with h | h
 ·rw [Nat.min_eq_left h,← List.map_drop,List.take_of_length_le (by rw [List.length_map,List.length_drop]; omega)]
 ·rw [Nat.min_eq_right h,List.drop_eq_nil_of_le h,Nat.sub_self,List.take_zero]; rfl
theorem getD_mem {α:Type} {zs:List α} {k:Nat} {d:α} (h:k<zs.length):zs.getD k d∈zs:=by
 rw [List.getD_eq_getElem?_getD,List.getElem?_eq_getElem h]
 exact List.getElem_mem h
end L2
set_option Elab.async false
set_option maxRecDepth 100000
namespace L2
open PySem PySem.Spec PyProof.Rows
theorem pg_tupK {X:Cx} (K:PySem.W.Frag) (hK:X.K=K) {es:List Expr} {k:Nat} {t:TGs} {n:Nat} {pos:Pos} (hc:X.calm=true) (h:PGs X es t)
  (hn:(assignEach es X.env).length=n:=by rfl) (hst:(assignEach es X.env).findIdx? (·.1)=none:=by rfl):PG X (.Tuple es k pos) (gTup K n t):=hK ▸ pg_tup hc h hn hst
theorem repL_ints {H:Hp}:∀ (ns:List Int),RepL H (ns.map PyData.int) (ns.map V.int)
 | []=>by simp only [List.map_nil,RepL]
 | n::r=>by
  simp only [List.map_cons,RepL,Rep]
  exact ⟨_,_,rfl,rfl,repL_ints r⟩
theorem rep_ints {H:Hp} {a:Addr} {ns:List Int} (h:H a=some (.lst (ns.map V.int))):Rep H (.list (ns.map PyData.int)) (.ref a):=by
 simp only [Rep]
 exact ⟨a,_,rfl,h,repL_ints ns⟩
theorem eqv_ints:∀ ns ms:List Int,PyData.eqvAll (ns.map PyData.int) (ms.map PyData.int)=decide (ns=ms)
 | [],[]=>by simp [PyData.eqvAll]
 | [],_::_=>by simp [PyData.eqvAll]
 | _::_,[]=>by simp [PyData.eqvAll]
 | a::r,b::u=>by
  simp only [List.map_cons,PyData.eqvAll,PyData.eqv,eqv_ints r u]
  by_cases h:a=b<;>by_cases h':r=u<;>simp [h,h']
theorem rd_neInts {H:Hp} {Q:VK} {a b:Addr} {ns ms:List Int} (ha:H a=some (.lst (ns.map V.int))) (hb:H b=some (.lst (ms.map V.int))) (q:Q (.bl (!decide (ns=ms))) H):rEqD true (.ref a) (.ref b) H Q :=
 ⟨_,_,rep_ints ha,rep_ints hb,PySem.W.ke_shaped_ints _,PySem.W.ke_shaped_ints _,by
  have e:PyData.eqv (.list (ns.map PyData.int)) (.list (ms.map PyData.int))=decide (ns=ms):=by simp only [PyData.eqv]; exact eqv_ints ns ms
  rw [e]; exact q⟩
theorem repL_get {H:Hp}:∀ {ds:List PyData} {xs:List V},RepL H ds xs→ds.length=xs.length∧∀ (i:Nat) x,xs[i]?=some x→∃ d,ds[i]?=some d∧Rep H d x
 | [],xs,h=>by simp only [RepL] at h; subst h; exact ⟨rfl,fun i x e=>by simp at e⟩
 | d::ds,xs,h=>by
  simp only [RepL] at h
  obtain ⟨x,r,rfl,h1,h2⟩:=h
  obtain ⟨l,g⟩:=repL_get h2
  refine ⟨by simp [l],fun i y e=>?_⟩
  cases i with
  | zero => simp at e; subst e; exact ⟨d, rfl, h1⟩
  | succ i => exact g i y (by simpa using e)
theorem compW_zip {K:PySem.W.Frag} {σ:St} {H:Hp} {Q:VK} {te:TE} {l a b:Addr} {xs ys:List V} (F:Nat→V) (hx:H a=some (.lst xs)) (hy:H b=some (.lst ys)) (he:xs.length=ys.length) (hz:xs.length≤1000) (hl:H l=none)
  (step:∀ (i:Nat) x y H' (Q':VK),xs[i]?=some x→ys[i]?=some y→Same H H'→(∀ H5,Same H' H5→Q' (F i) H5)→te [some x,some y] H' Q')
  (fin:∀ H',Same H H'→H' l=some (.lst ((List.range xs.length).map F))→Q (.ref l) H'):CompW (Itz K a b) (gTup K 2 (gCons (gName 0) (gCons (gName 1) gNil))) tTrue te [none,none] l σ H Q:=by
 refine ⟨xs.length,fun i zs σ' H'=>zs=(List.range i).map F∧(∃ o o',σ'=[o,o'])∧Same H H'∧H' l=some (.lst zs),⟨rfl,⟨none,none,rfl⟩,Same.new hl,upd_same⟩,?_,?_⟩
 ·rintro i zs σ' H' hi ⟨rfl,⟨o,o',rfl⟩,s,e⟩
  refine ⟨⟨xs,ys,xs[i],ys[i]'(by omega),SqL.of (s _ _ hx),SqL.of (s _ _ hy),by simp [hi],by simp⟩,fun v H2 z=>?_⟩
  obtain ⟨T,rfl,hT,z⟩:=z
  obtain ⟨x,y,ex,ey,rfl⟩:=z xs ys (SqL.of (s _ _ hx)) (SqL.of (s _ _ hy))
  have sT:=Same.new (o:=HO.tup [x,y]) hT
  refine rd_gtup upd_same rfl (rd_gcons (rd_name (rd_gcons (rd_name (rd_gnil (rd_true (iteT ?_)))))))
  refine step i x y _ _ ex ey (s.trans sT) fun H5 s5=>⟨s5 _ _ (sT _ _ e),?_,?_⟩
  ·rw [List.length_map,List.length_range]
   exact small1000 (by omega)
  ·refine ⟨?_,⟨_,_,rfl⟩,((s.trans sT).trans s5).later hl,upd_same⟩
   rw [List.range_succ,List.map_append]
   rfl
 ·rintro zs σ' H' ⟨rfl,_,s,e⟩
  exact ⟨⟨xs,ys,SqL.of (s _ _ hx),SqL.of (s _ _ hy),.inl (Nat.le_refl _)⟩,fin H' s e⟩
end L2
set_option Elab.async false
set_option linter.all false
set_option maxRecDepth 100000
set_option maxHeartbeats 4000000
namespace L2
open PySem
inductive DS {α:Type}:Sem α→Prop
 | pure (a:α):DS (.pure a)
 | raise (e:Value):DS (.raise e)
 | unsup (w:String):DS (.unsupported w)
 | fin (e:Ending):DS (.finish e)
 | rule {t:String} {k:Unit→Sem α}:DS (k ())→DS (.rule t k)
 | here {p:Pos} {k:Unit→Sem α}:DS (k ())→DS (.at p k)
 | load {a:Addr} {p:Option Value} {k:Obj→Sem α}:(∀ o,DS (k o))→DS (.load a p k)
 | upd {a:Addr} {p:Option Value} {f:Obj→Obj} {k:Unit→Sem α}:(∀ o,(f o).dict=o.dict∧(f o).isFreed=o.isFreed)→DS (k ())→DS (.update a p f k)
 | alloc {o:Obj} {k:Addr→Sem α}:(∀ n,DS (k n))→DS (.alloc o k)
 | point {l:List Value} {k:Unit→Sem α}:DS (k ())→DS (.point l k)
 | fresh {k:Tok→Sem α}:(∀ n,DS (k n))→DS (.fresh k)
 | ask {k:Setting→Sem α}:(∀ n,DS (k n))→DS (.ask k)
 | stack {k:List (Code×Pos)→Sem α}:(∀ n,DS (k n))→DS (.stack k)
theorem DS.andThen {α β:Type} {m:Sem α} {f:α→Sem β} (h:DS m) (g:∀ a,DS (f a)):DS (m >>= f):=by
 show DS (Sem.bind m f)
 induction h with
 | pure a=>rw [Sem.bind]; exact g a
 | raise e=>rw [Sem.bind]; exact .raise e
 | unsup w=>rw [Sem.bind]; exact .unsup w
 | fin e=>rw [Sem.bind]; exact .fin e
 | rule _ ih=>rw [Sem.bind]; exact .rule ih
 | here _ ih=>rw [Sem.bind]; exact .here ih
 | load _ ih=>rw [Sem.bind]; exact .load ih
 | upd z _ ih=>rw [Sem.bind]; exact .upd z ih
 | alloc _ ih=>rw [Sem.bind]; exact .alloc ih
 | point _ ih=>rw [Sem.bind]; exact .point ih
 | fresh _ ih=>rw [Sem.bind]; exact .fresh ih
 | ask _ ih=>rw [Sem.bind]; exact .ask ih
 | stack _ ih=>rw [Sem.bind]; exact .stack ih
def HasD (e:Addr) (dx:Option Addr) (h:Heap):Prop:=∃ o,h.get? e=some o∧o.dict=dx
theorem HasD.upd {e a:Addr} {dx:Option Addr} {h:Heap} {f:Obj→Obj} (x:HasD e dx h) (z:∀ o,(f o).dict=o.dict∧(f o).isFreed=o.isFreed):HasD e dx (h.update a f):=by
 obtain ⟨o,h1,h2⟩:=x
 by_cases q:a=e
 ·subst q
  have fr:o.isFreed=false:=(Heap.get?_some_iff.mp h1).2
  exact ⟨_,Heap.get?_update_self f h1 (by rw [(z o).2]; exact fr),by rw [(z o).1]; exact h2⟩
 ·exact ⟨o,by rw [Heap.get?_update_other h f q]; exact h1,h2⟩
theorem DS.run {α:Type} {M:Model} {Γ:Ctx} {m:Sem α} {Q:α→Pos→Shared→Prop} {E:Value→Pos→Shared→Prop} {p:Pos} {s:Shared} {e:Addr} {dx:Option Addr} (h:DS m) (w:Sem.wp M Γ m Q E p s) (x:HasD e dx s.heap) :
  Sem.wp M Γ m (fun a p s'=>Q a p s'∧HasD e dx s'.heap) (fun v p s'=>E v p s'∧HasD e dx s'.heap) p s:=by
 induction h generalizing p s with
 | pure a=>rw [Sem.wp] at w ⊢; exact ⟨w,x⟩
 | raise v=>rw [Sem.wp] at w ⊢; exact ⟨w,x⟩
 | unsup q=>rw [Sem.wp] at w; exact w.elim
 | fin q=>rw [Sem.wp] at w; exact w.elim
 | rule _ ih=>rw [Sem.wp] at w ⊢; exact ih w x
 | here _ ih=>rw [Sem.wp] at w ⊢; exact ih w x
 | load _ ih=>rw [Sem.wp] at w ⊢; obtain ⟨o,h1,h2⟩:=w; exact ⟨o,h1,ih o h2 x⟩
 | upd z _ ih=>rw [Sem.wp] at w ⊢; exact ⟨w.1,ih w.2 (x.upd z)⟩
 | alloc _ ih=>rw [Sem.wp] at w ⊢; exact ih _ w (let ⟨o,h1,h2⟩:=x; ⟨o,Heap.get?_push_of_some _ h1,h2⟩)
 | point _ ih=>rw [Sem.wp] at w ⊢; exact ih w x
 | fresh _ ih=>rw [Sem.wp] at w ⊢; exact ih _ w x
 | ask _ ih=>rw [Sem.wp] at w ⊢; exact ih _ w x
 | stack _ ih=>rw [Sem.wp] at w ⊢; exact ih _ w x
theorem DS.any {α:Type} {M:Model} {A:Around} {m:Sem α} {Q:α→Shared→Prop} {E:Value→Shared→Prop} {s:Shared} {e:Addr} {dx:Option Addr} (h:DS m) (w:wpAny M A m Q E s) (x:HasD e dx s.heap) :
  wpAny M A m (fun a s'=>Q a s'∧HasD e dx s'.heap) E s:=fun Γ p hΓ =>
 Sem.wp_mono M Γ m (fun _ _ _ z=>z) (fun _ _ _ z=>z.1) p s (h.run (w Γ p hΓ) x)
theorem ds_ite {α:Type} {c:Prop} [Decidable c] {a b:Sem α} (h1:DS a) (h2:DS b):DS (if c then a else b):=by split<;>assumption
theorem ds_field (v:Value) (i:Nat):DS (field v i):=by
 unfold field fieldsOf
 refine DS.andThen ?_ fun vs=>?_
 ·cases v with
  | ref a =>
   refine DS.andThen (.load fun o=>.pure o) fun o=>?_
   cases o.data<;>first | exact .pure _ | exact .unsup _
  | _ => exact .unsup _
 ·cases vs[i]?<;>first | exact .pure _ | exact .unsup _
theorem ds_mapFields (f:Array Value→Array Value) (o:Obj):(Obj.mapFields f o).dict=o.dict∧(Obj.mapFields f o).isFreed=o.isFreed:=by
 obtain ⟨c,d,dt,sl⟩:=o
 cases dt<;>exact ⟨rfl,rfl⟩
theorem ds_setField (v:Value) (i:Nat) (x:Value):DS (setField v i x):=by
 unfold setField
 cases v with
 | ref a =>
  unfold updateField
  refine DS.andThen (.load fun o=>.pure o) fun o=>?_
  cases o.data with
  | fields vs => exact ds_ite (.upd (ds_mapFields _) (.pure ())) (.unsup _)
  | _ => exact .unsup _
 | _=>exact .unsup _
theorem ds_setFlight (e:Value) (f:Option Addr):DS (setFlight e f):=by
 unfold setFlight
 exact DS.andThen (ds_field _ _) fun tb=>ds_ite (ds_setField _ _ _) (.pure _)
theorem ds_back (env:Env) (b:Bool) (l:List Env):DS (keptBack env b l):=by
 cases l with
 | nil =>
  unfold keptBack underTheClaimsCaller
  refine ds_ite (.pure _) (DS.andThen (DS.andThen (.stack fun n=>.pure n) fun _=>.pure _) fun q=>.pure _)
 | cons c r=>unfold keptBack; exact .pure _
theorem ds_import (env:Env) (l:List Env):DS (behindIsImport env l):=by
 unfold behindIsImport
 exact ds_ite (.pure _) (ds_ite (.pure _) (DS.andThen (ds_field _ _) fun _=>.pure _))
theorem ds_ready:∀ l:List Env,DS (readyFrames l)
 | []=>by unfold readyFrames; exact .pure _
 | env::r=>by
  unfold readyFrames
  cases env.frame with
  | none => exact .unsup _
  | some f =>
   refine DS.andThen (.load fun o=>.pure o) fun o=>ds_ite (.pure _) ?_
   refine DS.andThen (ds_import _ _) fun b=>DS.andThen (ds_back _ _ _) fun v=>DS.andThen (.upd (fun o=>⟨rfl,by obtain ⟨c,d,dt,sl⟩:=o; cases dt<;>rfl⟩) (.pure ())) fun _=>ds_ready r
theorem ds_frameOf (env:Env):DS (frameOf env):=by
 unfold frameOf frameEnvs
 refine DS.andThen (DS.andThen (.stack fun n=>.pure n) fun _=>.pure _) fun l=>DS.andThen ?_ fun o=>?_
 ·generalize l.dropWhile _=l'
  cases l' with
  | nil => unfold frameObject; exact .pure _
  | cons c r => unfold frameObject; exact DS.andThen (ds_ready _) fun _ => .pure _
 ·cases o with
  | none => exact .unsup _
  | some f => exact .pure _
theorem ds_place (f:Addr) (b:Bool):DS (entryPlaceOf f b):=by
 unfold entryPlaceOf
 refine DS.andThen (.stack fun n=>.pure n) fun l=>?_
 cases l.find? _ with
 | none=>exact .pure _
 | some q=>exact .pure _
theorem ds_newEntry (a b c d e:Value) (l:List Value):DS (EntryCells.newEntry a b c d e l):=by
 unfold EntryCells.newEntry newFields newObj newObjAsIs
 generalize ([a,b,c,d,e]++if l.isEmpty then List.replicate 6 Value.none else l)=vs
 dsimp only
 split
 ·exact DS.andThen (.unsup _) fun _=>DS.andThen (.alloc fun n=>.pure n) fun _=>.pure _
 ·exact DS.andThen (.alloc fun n=>.pure n) fun _=>.pure _
theorem ds_noteFrame (e:Value) (env:Env):DS (noteFrame e env):=by
  unfold noteFrame
  cases env.frame with
  | none => exact .unsup _
  | some f =>
    refine DS.andThen (ds_field _ _) fun hd=>?_
    have tail:DS (do
        let a ← frameOf env
        let pl ← entryPlaceOf f (hd != .none)
        let b ← EntryCells.newEntry hd a .none (rawInt f) .none pl
        setField e 1 b):=DS.andThen (ds_frameOf _) fun _=>DS.andThen (ds_place _ _) fun _=>DS.andThen (ds_newEntry _ _ _ _ _ _) fun _=>ds_setField _ _ _
    refine ds_ite ?_ tail
    refine DS.andThen (ds_field _ _) fun x=>ds_ite (.pure _) (DS.andThen (ds_setField _ _ _) fun _=>tail)
theorem ds_leaving (env:Env) (e:Value):DS (leaving env e):=by
 unfold leaving
 exact DS.andThen (ds_noteFrame _ _) fun _=>ds_setFlight _ _
end L2
set_option Elab.async false
set_option maxRecDepth 100000
namespace L2
open PySem PySem.Spec PyProof.Rows
structure Exc (g h:Heap) (H:Hp) (e C:Addr) (xo:Option Addr):Prop where
 tr:h.Traced g e (.ref C)
 ne:g.get? e=none
 he:H e=none
 hT:∀ oe vs T,h.get? e=some oe→oe.data=.fields vs→vs[1]?=some (.ref T)→H T=none
 dc:∀ dx,xo=some dx→HasD e (some dx) h
def CX1 (P:Program) (w:World):CXT:=fun outer H s E x s'=>∃ (e C:Addr) (xo:Option Addr) (H':Hp),x=.ref e∧s'.os=s.os∧AllBare s'.gens∧Un (frs outer) [] H H' s.heap s'.heap∧HOk P w H' s'.heap∧Exc s.heap s'.heap H' e C xo∧E (.ref C) xo H'
section
variable {X:Cx} {pins:List (Addr×Obj)} {σ:St} {H:Hp} {s:Shared}
theorem Inv.left {h':Heap} {es:List Addr} (I:Inv X pins σ H s) (hs:X.stack=X.env::X.outer) (he:∀ b∈es,H b=none∧X.s₀.heap.get? b=none)
  (keep:∀ b o,s.heap.get? b=some o→b∉frs X.stack→b∉es→h'.get? b=some o) (slot:∀ b o,s.heap.get? b=some o→b∈frs X.stack→∃ sl,h'.get? b=some { o with slots:=sl }):Un X.fs X.ex X.H₀ H X.s₀.heap h'∧HOk X.prog X.w H h':=by
 have sub:∀ b∈X.fs,b∈frs X.stack:=fun b hb=>by
  rw [hs]; unfold frs; rw [List.filterMap_cons]
  cases X.env.frame with
  | none => exact hb
  | some f => exact List.mem_cons_of_mem _ hb
 have nfr:∀ b u,H b=some u→b∉frs X.stack:=fun b u e z=>by rw [I.stkFree b z] at e; cases e
 have nes:∀ b u,H b=some u→b∉es:=fun b u e z=>by rw [(he b z).1] at e; cases e
 have neL:∀ b o,X.s₀.heap.get? b=some o→b∉X.fs→b∉frs X.stack:=fun b o e hb z=>by
  rcases List.mem_cons.mp (I.stkSub b z) with q | q
  ·exact absurd (Nat.lt_of_lt_of_le (Heap.lt_size e) (q ▸ I.ok.above)) (Nat.lt_irrefl _)
  ·exact hb q
 have ne0:∀ b o,X.s₀.heap.get? b=some o→b∉es:=fun b o e z=>by rw [(he b z).2] at e; cases e
 refine ⟨⟨fun b o e n hb hx=>keep b o (I.base.keep b o e n hb hx) (neL b o e hb) (ne0 b o e),fun b o e n hb hx=>?_,I.base.free,fun b o e hx=>?_,I.base.tups,I.base.frzs,I.base.tbls⟩,fun b u e=>?_⟩
 ·obtain ⟨sl,e1⟩:=I.base.slot b o e n hb hx
  obtain ⟨sl',e2⟩:=slot b _ e1 (sub b hb)
  exact ⟨sl',e2⟩
 ·obtain ⟨o',e1⟩:=I.base.there b o e hx
  by_cases hf:b∈frs X.stack
  ·obtain ⟨sl,e2⟩:=slot b o' e1 hf
   exact ⟨_,e2⟩
  ·exact ⟨o',keep b o' e1 hf (ne0 b o e)⟩
 ·refine (I.hok b u e).stay (fun c v hc q=>?_) (fun _ q=>q) fun _ _ q=>q
  rcases hc with z | z
  ·rw [z] at q ⊢; exact keep b v q (nfr b u e) (nes b u e)
  ·exact keep c v q (nfr c _ z) (nes c _ z)
end
theorem ObjOk.get {P:Program} {w:World} {H:Hp} {h:Heap} {a:Addr} {o:HO} (x:ObjOk P w H h a o):∃ ob,h.get? a=some ob:=by
 cases o with
 | lst xs=>obtain ⟨_,_,_,_,e⟩:=x; exact ⟨_,e⟩
 | tup xs=>obtain ⟨_,_,_,p⟩:=x; obtain ⟨o,e,_⟩:=p; exact ⟨_,e⟩
 | dK kvs=>obtain ⟨_,_,_,_,o,_,_,e,_⟩:=x; exact ⟨_,e⟩
 | dT kvs=>obtain ⟨_,_,_,_,o,_,_,e,_⟩:=x; exact ⟨_,e⟩
 | set S n=>obtain ⟨o,_,_,_,e,_⟩:=x; exact ⟨_,e⟩
 | ins C dx fs=>obtain ⟨_,_,_,e,_⟩:=x; exact ⟨_,e⟩
 | own y=>obtain ⟨_,e⟩:=x; exact ⟨_,e⟩
 | xd fs=>obtain ⟨_,⟨_,_,_,e,_⟩,_⟩:=x; exact ⟨_,e⟩
 | rng lo hi=>obtain ⟨_,_,_,e⟩:=x; exact ⟨_,e⟩
 | frz ob u=>obtain ⟨e,_⟩:=x; exact ⟨_,e⟩
 | tbl ps=>exact ⟨_,(show h.get? a=some _ from x)⟩
 | met f y=>exact ⟨_,(show h.get? a=some _ from x)⟩
 | ext φ=>obtain ⟨_,⟨_,e⟩,_⟩:=x; exact ⟨_,e⟩
theorem HOk.none_of {P:Program} {w:World} {H:Hp} {h:Heap} {a:Addr} (k:HOk P w H h) (e:h.get? a=none):H a=none:=by
 cases q:H a with
 | none=>rfl
 | some o=>obtain ⟨_,z⟩:=(k a o q).get; rw [e] at z; cases z
section
variable {P:Program} {w:World} {K:PySem.W.Frag} {mg:Str→Option Value} {base:Heap} {N:List Str} {qual:Str} {scope:Scope} {f:Addr} {cd:Value} {A:Around} {outer:List Env} {s₀:Shared} {H₀:Hp} {E:XK} {pins:List (Addr×Obj)} {σ:St} {H:Hp} {s:Shared}
theorem stack_in {l:List Env} {as:List Addr} (h:∀ b∈frs l,b∈as):∀ env∈l,∀ a,env.frame=some a→a∈as:=fun env he a ha=>h a (List.mem_filterMap.mpr ⟨env,he,ha⟩)
theorem xe_made {e C:Addr} {xo:Option Addr} {oe:Obj} {vs:Array Value} (I1:Inv (cxOf (CX1 P w) P w K mg base N qual scope f cd A outer s₀ H₀ E) pins σ H s) (he:s.heap.get? e=some oe) (hcl:oe.cls=.ref C) (hda:oe.data=.fields vs) (h1:vs[1]?=some .none)
  (hs0:s₀.heap.get? e=none) (hHe:H e=none) (dc:∀ dx,xo=some dx→oe.dict=some dx) (q:E (.ref C) xo H):(cxOf (CX1 P w) P w K mg base N qual scope f cd A outer s₀ H₀ E).xe (.ref e) s:=by
 have ff:=I1.stack
 have hl:=PySem.W.funFrames_hide (as:=e::frs (cxOf (CX1 P w) P w K mg base N qual scope f cd A outer s₀ H₀ E).stack) ff (stack_in fun b hb=>List.mem_cons_of_mem _ hb)
 have fin:=wpAny_leaving_first (M:=model P w) (E:=fun v s'=>CX1 P w outer H₀ s₀ E v s') (base:=PySem.W.hideAll s.heap (e::frs (cxOf (CX1 P w) P w K mg base N qual scope f cd A outer s₀ H₀ E).stack)) (L:=s₀.heap.objs.size) (e:=e) (s:=s) (Q:=fun _ s'=>∃ h2,s'={ s with heap:=h2 }∧Heap.Left (PySem.W.hideAll s.heap (e::frs (cxOf (CX1 P w) P w K mg base N qual scope f cd A outer s₀ H₀ E).stack)) (envOfC qual scope s₀.heap.objs.size f cd::outer) e oe.cls s.heap h2) I1.ok.frames hl rfl he (fun b o z=>PySem.W.of_hideAll _ z) (PySem.W.hideAll_none _ List.mem_cons_self) hda h1 fun h2 lf=>⟨h2,rfl,lf⟩
 refine wpAny_mono (DS.any (ds_leaving _ _) fin ⟨oe,he,rfl⟩) (fun _ s' ⟨⟨h2,e2,lf⟩,hd2⟩=>?_) fun _ _ z=>z
 subst e2
 obtain ⟨st,ff2,tr,up⟩:=lf
 have lf:=I1.left (h':=h2) (es:=[e]) rfl (fun b hb=>by rw [List.mem_singleton.mp hb]; exact ⟨hHe,hs0⟩) (fun b o z nf ne=>st b o (PySem.W.hideAll_get _ z (by intro m; rcases List.mem_cons.mp m with r | r; exact ne (by simp [r]); exact nf r)))
  (fun b o z hb=>by
   obtain ⟨_,o',z',hd⟩:=ff.mem hb
   rw [z] at z'; cases z'
   exact up b o z hd)
 obtain ⟨oe',ws,T,oT,ts,g1,g2,g3,g4,g5,g6,g7,g8,g9⟩:=tr
 have nT:T∉frs (cxOf (CX1 P w) P w K mg base N qual scope f cd A outer s₀ H₀ E).stack:=fun z=>by
  obtain ⟨_,o,zo,hd⟩:=ff2.mem z
  rw [g7] at zo; cases zo
  exact hd ts g8
 have key:∀ o,s.heap.get? T=some o→False:=fun o z=>by
  rw [PySem.W.hideAll_get _ z (by intro m; rcases List.mem_cons.mp m with r | r; exact g6 r; exact nT r)] at g5
  cases g5
 have hT0:s₀.heap.get? T=none:=by
  cases z:s₀.heap.get? T with
  | none => rfl
  | some o => obtain ⟨o', z'⟩ := I1.base.there T o z (by intro q; cases q); exact (key o' z').elim
 have hHT:H T=none:=by
  cases z:H T with
  | none => rfl
  | some o => obtain ⟨o', z'⟩ := (I1.hok T o z).get; exact (key o' z').elim
 refine ⟨e,C,xo,H,rfl,I1.os,I1.bare,lf.1,lf.2,⟨⟨oe',ws,T,oT,ts,g1,g2.trans hcl,g3,g4,hT0,g6,g7,g8,g9⟩,hs0,hHe,fun oe2 vs' T' z1 z2 z3=>?_,fun dx z=>by rw [dc dx z] at hd2; exact hd2⟩,q⟩
 rw [g1] at z1; cases z1
 rw [g3] at z2; cases z2
 rw [g4] at z3; cases z3
 exact hHT
theorem xe_new {h':Heap} {t':Nat} {e C:Addr} {vs:List Value} (I:Inv (cxOf (CX1 P w) P w K mg base N qual scope f cd A outer s₀ H₀ E) pins σ H s) (hx:Heap.MadeExcOf s.heap h' e (.ref C) vs) (q:E (.ref C) none H) :
  (cxOf (CX1 P w) P w K mg base N qual scope f cd A outer s₀ H₀ E).xe (.ref e) { s with heap:=h',toks:=t' }:=by
 have I1:=I.kept (t':=t') hx.keeps
 obtain ⟨t,he,ht,_⟩:=hx.there
 have hs0:s₀.heap.get? e=none:=by
  cases z:s₀.heap.get? e with
  | none => rfl
  | some o => obtain ⟨o', z'⟩ := I.base.there e o z (by intro q; cases q); rw [hx.new] at z'; cases z'
 exact xe_made I1 he rfl rfl rfl hs0 (I.hok.none_of hx.new) (fun _ z=>by cases z) q
theorem pass1:Passes (CX1 P w) (cxOf (CX1 P w) P w K mg base N qual scope f cd A outer s₀ H₀ E) E:=by
  intro pins σ H s x s' I h
  obtain ⟨e,C,xo,H',rfl,os,bare,un,hok,ex,q⟩:=h
  have J:=I.call' (s':=s') (ch:=[]) os un hok bare (fun b hb=>by cases hb)
  obtain ⟨⟨oe,ws,T,oT,ts,g1,g2,g3,g4,g5,g6,g7,g8,g9⟩,ne,hHe,hHT,dc⟩:=ex
  have hHT:=hHT oe ws T g1 g3 g4
  have s0:∀ {b:Addr},s.heap.get? b=none→s₀.heap.get? b=none:=fun {b} hb=>by
    cases z:s₀.heap.get? b with
    | none=>rfl
    | some o=>obtain ⟨o',z'⟩:=I.base.there b o z (by intro q; cases q); rw [hb] at z'; cases z'
  have ff:=J.stack
  have hl:=PySem.W.funFrames_hide (as:=e::T::frs (cxOf (CX1 P w) P w K mg base N qual scope f cd A outer s₀ H₀ E).stack) ff (stack_in fun b hb=>List.mem_cons_of_mem _ (List.mem_cons_of_mem _ hb))
  have fin:=wpAny_leaving_next (M:=model P w) (E:=fun v s'=>CX1 P w outer H₀ s₀ E v s') (base:=PySem.W.hideAll s'.heap (e::T::frs (cxOf (CX1 P w) P w K mg base N qual scope f cd A outer s₀ H₀ E).stack)) (L:=s₀.heap.objs.size) (e:=e) (s:=s') (Q:=fun _ s2=>∃ h2,s2={ s' with heap:=h2 }∧Heap.Left (PySem.W.hideAll s'.heap (e::T::frs (cxOf (CX1 P w) P w K mg base N qual scope f cd A outer s₀ H₀ E).stack)) (envOfC qual scope s₀.heap.objs.size f cd::outer) e (.ref C) s'.heap h2) J.ok.frames hl rfl
    ⟨oe,ws,T,oT,ts,g1,g2,g3,g4,PySem.W.hideAll_none _ (List.mem_cons_of_mem _ List.mem_cons_self),g6,g7,g8,g9⟩ (fun b o z=>PySem.W.of_hideAll _ z) (PySem.W.hideAll_none _ List.mem_cons_self) fun h2 lf=>⟨h2,rfl,lf⟩
  refine wpAny_mono (DS.any (ds_leaving _ _) fin ⟨oe,g1,rfl⟩) (fun _ s2 ⟨⟨h2,e2,lf⟩,hd2⟩=>?_) fun _ _ z=>z
  subst e2
  obtain ⟨st,ff2,tr,up⟩:=lf
  have lf:=J.left (h':=h2) (es:=[e,T]) rfl (fun b hb=>by
      simp only [List.mem_cons,List.not_mem_nil,or_false] at hb
      rcases hb with rfl | rfl
      · exact ⟨hHe,s0 ne⟩
      · exact ⟨hHT,s0 g5⟩) (fun b o z nf ne=>st b o (PySem.W.hideAll_get _ z (by
        intro m
        rcases List.mem_cons.mp m with r | m
        · exact ne (by simp [r])
        · rcases List.mem_cons.mp m with r | r
          · exact ne (by simp [r])
          · exact nf r)))
      (fun b o z hb=>by
        obtain ⟨_,o',z',hd⟩:=ff.mem hb
        rw [z] at z'; cases z'
        exact up b o z hd)
  obtain ⟨oe2,ws2,T2,oT2,ts2,k1,k2,k3,k4,k5,k6,k7,k8,k9⟩:=tr
  have nT:T2∉frs (cxOf (CX1 P w) P w K mg base N qual scope f cd A outer s₀ H₀ E).stack:=fun z=>by
    obtain ⟨_,o,zo,hd⟩:=ff2.mem z
    rw [k7] at zo; cases zo
    exact hd ts2 k8
  have hT0:s₀.heap.get? T2=none∧H' T2=none:=by
    by_cases r:T2=T
    · subst r; exact ⟨s0 g5,hHT⟩
    · have key:∀ o,s'.heap.get? T2=some o→False:=fun o z=>by
        rw [PySem.W.hideAll_get _ z (by
          intro m
          rcases List.mem_cons.mp m with q | m
          · exact k6 q
          · rcases List.mem_cons.mp m with q | q
            · exact r q
            · exact nT q)] at k5
        cases k5
      constructor
      · cases z:s₀.heap.get? T2 with
        | none=>rfl
        | some o=>obtain ⟨o',z'⟩:=J.base.there T2 o z (by intro q; cases q); exact (key o' z').elim
      · cases z:H' T2 with
        | none=>rfl
        | some o=>obtain ⟨o',z'⟩:=(J.hok T2 o z).get; exact (key o' z').elim
  refine ⟨e,C,xo,H',rfl,J.os,J.bare,lf.1,lf.2,⟨⟨oe2,ws2,T2,oT2,ts2,k1,k2,k3,k4,hT0.1,k6,k7,k8,k9⟩,s0 ne,hHe,fun oe' vs' T' z1 z2 z3=>?_,fun dx z=>by
      obtain ⟨o,y1,y2⟩:=dc dx z
      rw [g1] at y1; cases y1
      rw [y2] at hd2; exact hd2⟩,q⟩
  rw [k1] at z1; cases z1
  rw [k3] at z2; cases z2
  rw [k4] at z3; cases z3
  exact hT0.2
end
end L2
set_option Elab.async false
set_option maxRecDepth 100000
namespace L2
open PySem PySem.Spec PyProof.Rows
def tRaise (C:Addr) (E:XK) (t:TA):TS:=fun _ σ H=>t σ H fun vs H1=>vs.length≤sizeLine∧E (.ref C) none H1
theorem ps_raise {X:Cx} {E:XK} {x:Str} {C:Addr} {B newId initId:String} {bm:List Value} {np cpos pos:Pos} {e:Expr} {es:List Expr} {t:TA} (O:OwnCls x C bm newId X.mg X.base) (FB:ExcBaseFacts B newId initId bm) (hc:X.calm=true) (hg:Gl X x)
  (hx:∀ (pins:List (Addr×Obj)) (σ:St) (H:Hp) (s:Shared) (h':Heap) (t':Nat) (e:Addr) (vs:List Value),Inv X pins σ H s→Heap.MadeExcOf s.heap h' e (.ref C) vs→E (.ref C) none H→X.xe (.ref e) { s with heap:=h',toks:=t' })
  (ha:PA X (e::es) t) (hd:(x==("__debug__":Str))=false:=by decide) (he:starEach (e::es) X.env=(false,eval e X.env)::starEach es X.env:=by rfl) (hpl:(backTo cpos (starEach es X.env)).any (·.1)=false:=by rfl) :
  PS X (.Raise (some (.Call (.Name x np) (e::es) [] cpos)) none pos) (tRaise C E t):=by
 intro pins s σ H D I h
 obtain ⟨tl,N,nm,q,bs,hdct,sn,sub,ab,col,dd,k0,k1,k2,k3,k5,mN,hC,hN,hni,T⟩:=O.obj
 refine wpAny_Raise_call_subT (C:=C) (nm:=nm) (q:=q) (N:=N) (bs:=bs) (bm:=tl) (hdct:=hdct) (sn:=sn) (sub:=sub) (ab:=ab) (col:=col) (dd:=dd) (k0:=k0) (k1:=k1) (k2:=k2) (k3:=k3) (k5:=k5)
  FB (mN:=mN) (T.hasType FB.hasBase) (I.ok.hd hc) (by rw [he]; show (false||(backTo cpos (starEach es X.env)).any (·.1))=false; rw [hpl]; rfl) hni (ld_glob I hg O.bound ⟨rfl,?_⟩ hd)
 have h1:=ha cpos pins s σ H _ I h
 rw [he] at h1 ⊢
 refine Calls.evalArgs_plain (wpAny_mono h1 (fun us s2 ⟨vs,H2,I2,r2,hl,hE⟩=>⟨rfl,by show us.length≤sizeLine; rw [← r2.length]; exact hl,I2.bk _ _ hC,hN.keeps I2.bk,T.keeps I2.bk,fun h' a mk=>?_⟩) fun _ _ y=>y)
 exact hx pins σ H2 s2 h' s2.toks a us I2 mk hE
section
variable {P:Program} {w:World} {K:PySem.W.Frag} {mg:Str→Option Value} {base:Heap}
theorem Fun.ok1 {x qual:Str} {st:Stmt} {f:Addr} {fd:FuncData} {N ps:List Str} {k:Nat} {sp:Sp} (F:Fun K x qual st f fd) (S:FnScope N ps (defScope st)) (len:∀ vs H Q E,sp vs H Q E→vs.length=ps.length)
  (hbody:∀ (cdv:Value) (A:Around) (outer:List Env) (s:Shared) (H:Hp) (vs:List V) (Q:VK) (E:XK),Room k (A.deeper (envOfC qual (defScope st) s.heap.objs.size f cdv))→sp vs H Q E →
   ∃ t,PSs (cxOf (CX1 P w) P w K mg base N qual (defScope st) f cdv A outer s H E) (defBody st) t∧t { nx:=fun _ H'=>Q .non H',rt:=Q } (start N vs) H):FnOk P w K mg base (CX1 P w) (k+1) f fd ps sp:=by
 obtain ⟨oc,od,kV,doc,pm,an,cdv,ct,osl,rfl,lk,hcd⟩:=F.ex
 exact fn_of lk hcd S len fun A outer s H vs Q E hr hsp=>hbody cdv A outer s H vs Q E hr hsp
theorem FnOk.up {k:Nat} {f:Addr} {fd:FuncData} {ps:List Str} {sp:Sp} (F:FnOk P w K mg base CX0 k f fd ps sp):FnOk P w K mg base (CX1 P w) k f fd ps sp :=
 ⟨F.len,fun A outer s H args us vs Q E hr e0 hb hv hs=>codeAny_mono (F.run A outer s H args us vs Q E hr e0 hb hv hs) fun r s' h=>by
  cases r with
  | error e => exact False.elim h
  | ok fl => cases fl <;> exact h⟩
end
end L2
set_option Elab.async false
set_option maxRecDepth 100000
namespace L2
open PySem PySem.Spec PyProof.Rows PySem.W Builtin Builtin.ObjectAttr Builtin.Getset_descriptor
section
variable {prog:Program} {w:World} {A:Around} {E:Value→Shared→Prop} {s:Shared} {K:PySem.W.Frag} {x C:Addr} {R:Result→Shared→Prop}
theorem cls_get {tp:Value} (X:K.In s.heap) (LT:Looks (model prog w) s.heap (typeOf (.ref x)) (.ref C)) (hm:mroIn K C (.type "object")=some true)
  (h:R (.ok (.ret (.ref C))) s):codeAny (model prog w) A (.call (.builtin "getset_descriptor.__get__") ⟨[.builtin "object.__class__",.ref x,tp],[]⟩) R s:=by
 have L1:=looks_mroIn (M:=model prog w) X hm; obtain ⟨hh,g,dr,t,os⟩:=s
 refine codeAny_call_builtin KF.slot_gs.plain KF.entry_gs (KF.slot_gs.check _ _ _ _ _ _ _ _ KF.type_class (KF.args_gs _ _ _) ?_); unfold Builtin.«getset_descriptor.__get__» descrGet; rw [dga_obj]
 refine wpAny_bind (wpAny_pure ?_); unfold descrGetter descrCheckInstance descrNameAndClass isInstance; simp only [KF.owner_class]
 repeat lk
 refine ⟨Code.quiet_builtin _ (by decide +kernel),codeAny_builtin KF.entry_class ?_⟩; unfold Builtin.«object.__class__» shownTypeOf
 repeat lk
 exact h
theorem exc_class {Q:Option Value→Shared→Prop} (X:K.In s.heap) (LT:Looks (model prog w) s.heap (typeOf (.ref x)) (.ref C))
  (hga:findIn K (.ref C) "__getattribute__"=some (some (.builtin "BaseException.__getattribute__"))) (hgt:findIn K (.ref C) "__getattr__"=some none)
  (ha:findIn K (.ref C) "__class__"=some (some (.builtin "object.__class__"))) (hn:specialIn K (.builtin "object.__class__") "__get__"=some (some (.builtin "getset_descriptor.__get__"))) (htk:takesIn K (.builtin "object.__class__")=some true)
  (hm:mroIn K C (.type "object")=some true) (hb:mroIn K C (.type "BaseException")=some true)
  (h:Q (some (.ref C)) { s with toks:=s.toks+1 }):wpAny (model prog w) A (getAttr? (.ref x) "__class__") Q E s:=by
 obtain ⟨hh,g,d,t,os⟩:=s
 have L1:=looks_findIn (M:=model prog w) X hga
 have L2:=looks_findIn (M:=model prog w) X hgt
 have L3:=looks_mroIn (M:=model prog w) X hb
 have L4:Looks (model prog w) hh (find (.ref x) (.ref C) "__class__") (.bind (.builtin "getset_descriptor.__get__") (.builtin "object.__class__")):=by
  have a1:=looks_findIn (M:=model prog w) X ha
  have a2:Looks (model prog w) hh (getOf (some (.builtin "object.__class__"))) (some (.builtin "getset_descriptor.__get__")):=looks_specialIn X hn
  have a3:=looks_takesIn (M:=model prog w) X htk
  refine a1.andThen (a2.andThen ?_)
  have a4:Looks (model prog w) hh (dataDescriptor? (some (.builtin "object.__class__")) (some (.builtin "getset_descriptor.__get__"))) (some (.builtin "getset_descriptor.__get__",.builtin "object.__class__")):=a3.andThen .now
  exact a4.andThen (Looks.tag .now)
 have f3:=(F.attrBase_ValueError).ga.bind (.ref x)
 unfold getAttr? getAttrBy? getAttrBy
 refine wpAny_bind (wpAny_mkText (wpAny_bind (wpAny_attempt (wpAny_holding (wpAny_bind (LT.at (wpAny_bind (L1.at ?_))))))))
 show wpAny _ _ (getAttrByItsOwn _ _ _ _ _ _) _ _ _
 unfold getAttrByItsOwn hookBefore
 refine wpAny_bind (L2.at ?_)
 refine wpAny_bind (wpAny_attempt (wpAny_holding ?_))
 show wpAny _ _ (boundAndCalled _ _ _) _ _ _
 unfold boundAndCalled
 rw [f3]
 refine wpAny_bind (wpAny_pure (wpAny_call ?_))
 have hk:builtinKind "BaseException.__getattribute__"=some .slot:=(by decide +kernel); have hsplit:splitId "BaseException.__getattribute__"=some ("BaseException","__getattribute__"):=by decide +kernel
 refine codeAny_call_builtin (F.attrBase_ValueError).ga.plain F.entry_bexc_ga ?_
 have ha:=F.args_bexc_ga (.ref x) (.str "__class__" t)
 simp only [checkBuiltinCall,hk,hsplit]; refine wpAny_bind ?_
 unfold isInstance
 refine wpAny_bind (LT.at (L3.at ?_))
 simp only [Bool.not_true,Bool.false_eq_true,if_false]; refine wpAny_of_eq (a:=()) ha ?_
 unfold Builtin.«object.__getattribute__»
 repeat (first | with_reducible refine wpAny_call (cls_get X LT hm ?_) | lk)
 exact h
end
end L2
set_option Elab.async false
set_option maxRecDepth 100000
namespace L2
open PySem PySem.Spec PyProof.Rows
structure ExcIn (K:PySem.W.Frag) (C:Addr):Prop where
 ga:PySem.W.findIn K (.ref C) "__getattribute__"=some (some (.builtin "BaseException.__getattribute__"))
 gt:PySem.W.findIn K (.ref C) "__getattr__"=some none
 cl:PySem.W.findIn K (.ref C) "__class__"=some (some (.builtin "object.__class__"))
 gs:PySem.W.specialIn K (.builtin "object.__class__") "__get__"=some (some (.builtin "getset_descriptor.__get__"))
 tk:PySem.W.takesIn K (.builtin "object.__class__")=some true
 mo:PySem.W.mroIn K C (.type "object")=some true
 mb:PySem.W.mroIn K C (.type "BaseException")=some true
theorem ExcIn.cls {K:PySem.W.Frag} {C:Addr} (e:ExcIn K C):∃ cd,PySem.W.clsIn K C=some cd:=by
 obtain ⟨cd,hc,_⟩:=Option.bind_eq_some_iff.mp e.mo
 exact ⟨cd,hc⟩
def ExcAt (e C:Addr) (h:Heap):Prop:=∃ o,h.get? e=some o∧o.cls=.ref C
theorem ExcAt.looks {e C:Addr} {h:Heap} {M:Model} (p:ExcAt e C h):PySem.W.Looks M h (typeOf (.ref e)) (.ref C):=by
 obtain ⟨o,h1,h2⟩:=p
 rw [← h2]; exact (PySem.W.Looks.ld h1).andThen .now
def ExcAtX (e C:Addr) (xo:Option Addr) (h:Heap):Prop:=∃ o vs,h.get? e=some o∧o.cls=.ref C∧o.data=.fields vs∧∀ dx,xo=some dx→o.dict=some dx
theorem ExcAtX.at {e C:Addr} {xo:Option Addr} {h:Heap} (p:ExcAtX e C xo h):ExcAt e C h:=let ⟨o,_,h1,h2,_⟩:=p; ⟨o,h1,h2⟩
def ExcX (e C:Addr) (xo:Option Addr):HO:=.ext (ExcAtX e C xo)
theorem kitx_exc {K:PySem.W.Frag} {e C:Addr} (x:ExcIn K C):PySem.W.KitX K (.ref e) (.ref C) (ExcAt e C) where
 ty:=fun _ _ _ p=>ExcAt.looks p
 it:=fun _ _ X _=>by
  obtain ⟨cdD,hcD⟩:=x.cls
  unfold PySem.W.clsIn at hcD
  split at hcD
  ·rename_i ho
   intro A' Q' E' s' k q
   unfold isType loadHead
   exact wpAny_bind (wpAny_loadPart (k _ _ (X _ _ ho)) (wpAny_pure q))
  ·cases hcD
 ne:=fun h tp dd its n sl X htp=>by
  obtain ⟨cdD,hcD⟩:=x.cls
  refine Bool.eq_false_iff.mpr fun q=>?_
  have z:=Value.ref.inj (beq_iff_eq.mp q)
  subst z
  unfold PySem.W.clsIn at hcD
  split at hcD
  ·rename_i ho
   have z:=(X _ _ ho).symm.trans htp
   cases z
  ·cases hcD
 ca:=fun X p k=>exc_class X (ExcAt.looks p) x.ga x.gt x.cl x.gs x.tk x.mo x.mb k
def rIsiX (K:PySem.W.Frag):List V→Hp→VK→Prop:=fun xs H Q=>∃ e C xo y c b,xs=[.ref e,y]∧H e=some (ExcX e C xo)∧ExcIn K C∧RelV y c∧PySem.W.kitOne K (.ref C) c=some b∧Q (.bl b) H
theorem cI_isinstX {X:Cx}:CallR X (.builtin "isinstance") (rIsiX X.K):=by
 intro pins s σ H xs us Q I r h
 obtain ⟨e,C,xo,y,c,b,rfl,he,ex,ry,k,q⟩:=h
 obtain ⟨u,v,rfl,ru,rv⟩:=r.two
 cases (show u=Value.ref e from ru)
 have hv:v=c:=by
  cases y with
  | ref a => exact (show v = Value.ref a from rv).trans (show c = Value.ref a from ry).symm
  | ty n => exact (show v = Value.type n from rv).trans (show c = Value.type n from ry).symm
  | non => exact (show v = Value.none from rv).trans (show c = Value.none from ry).symm
  | bl z => exact (show v = Value.bool z from rv).trans (show c = Value.bool z from ry).symm
  | int i => obtain ⟨t, rfl⟩ := ry; simp [PySem.W.kitOne, PySem.W.kitCls] at k
  | str i => obtain ⟨t, rfl⟩ := ry; simp [PySem.W.kitOne, PySem.W.kitCls] at k
  | byt i => obtain ⟨t, rfl⟩ := ry; simp [PySem.W.kitOne, PySem.W.kitCls] at k
  | flt i => obtain ⟨t, rfl⟩ := ry; simp [PySem.W.kitOne, PySem.W.kitCls] at k
 subst hv
 have p:ExcAt e C s.heap:=ExcAtX.at (show ObjOk X.prog X.w H s.heap e (.ext (ExcAtX e C xo)) from I.hok e _ he).1
 exact PySem.W.kia_one (kitx_exc ex) I.kIn p k (fun z=>nomatch z) fun tk=>⟨.bl b,H,I.tok tk,rfl,q⟩
theorem cI_isinstXK {X:Cx} (K:PySem.W.Frag) (h:X.K=K):CallR X (.builtin "isinstance") (rIsiX K):=h ▸ cI_isinstX
theorem rd_isiX {K:PySem.W.Frag} {H:Hp} {Q:VK} {e C D:Addr} {xo:Option Addr} {b:Bool} (he:H e=some (ExcX e C xo)) (x:ExcIn K C) (k:PySem.W.kitOne K (.ref C) (.ref D)=some b) (q:Q (.bl b) H):rIsiX K [.ref e,.ref D] H Q :=
 ⟨e,C,xo,.ref D,.ref D,b,rfl,he,x,rfl,k,q⟩
section
variable {X:Cx} {pins:List (Addr×Obj)} {σ:St} {H:Hp} {s:Shared}
theorem Inv.held {h':Heap} {es:List Addr} (I:Inv X pins σ H s) (hs:X.stack=X.env::X.outer) (hf:X.env.frame=some X.env.locals)
  (he:∀ b∈es,H b=none∧X.s₀.heap.get? b=none∧(∀ p∈X.pn++pins,p.1≠b)∧∃ o vs,s.heap.get? b=some o∧o.data=.fields vs)
  (keep:∀ b o,s.heap.get? b=some o→b∉frs X.stack→b∉es→h'.get? b=some o) (slot:∀ b o,s.heap.get? b=some o→b∈frs X.stack→∃ sl,h'.get? b=some { o with slots:=sl }):Inv X pins σ H { s with heap:=h' }:=by
 have lf:=I.left hs (fun b hb=>⟨(he b hb).1,(he b hb).2.1⟩) keep slot
 have inL:X.env.locals∈frs X.stack:=by rw [hs]; unfold frs; rw [List.filterMap_cons,hf]; exact List.mem_cons_self
 have cellK:∀ c v,s.heap.IsCell c v→h'.IsCell c v:=fun c v ⟨o,ho,hd⟩=>by
  by_cases hb:c∈frs X.stack
  ·obtain ⟨sl,q⟩:=slot c o ho hb
   exact ⟨_,q,hd⟩
  ·refine ⟨o,keep c o ho hb fun hm=>?_,hd⟩
   obtain ⟨_,_,_,o',vs,ho',hd'⟩:=he c hm
   rw [ho] at ho'; cases ho'; rw [hd] at hd'; cases hd'
 refine ⟨I.ok,I.os,I.bare,lf.1,?_,fun x c e=>?_,I.free,I.freeC,fun p hp=>?_,lf.2,I.len⟩
 ·obtain ⟨m,⟨o,es',ep,ho,r⟩,hl⟩:=I.loc
  obtain ⟨sl,hL⟩:=slot _ o ho inL
  refine ⟨m,⟨_,es',ep,hL,r⟩,fun i x v e1 e2 e3=>?_⟩
  obtain ⟨u,ru,l⟩:=hl i x v e1 e2 e3
  refine ⟨u,ru,?_⟩
  rcases l with l | ⟨k,c,e,z⟩
  ·exact .inl l
  ·exact .inr ⟨k,c,e,cellK c _ z⟩
 ·obtain ⟨v,z⟩:=I.cell x c e
  exact ⟨v,cellK c v z⟩
 ·obtain ⟨e,n,ne,nf,d⟩:=I.pin p hp
  refine ⟨keep p.1 p.2 e (fun z=>?_) fun z=>(he p.1 z).2.2.1 p hp rfl,n,ne,nf,d⟩
  rcases List.mem_cons.mp (I.stkSub p.1 z) with q | q
  ·exact ne q
  ·exact nf q
theorem Inv.track {e:Addr} {φ:Heap→Prop} (I:Inv X pins σ H s) (hH:H e=none) (h0:X.s₀.heap.get? e=none) (hp:∀ p∈X.pn++pins,p.1≠e) (hd:∃ o vs,s.heap.get? e=some o∧o.data=.fields vs)
    (hφ:φ s.heap) (st:∀ h1 h2:Heap,φ h1→(∀ o,h1.get? e=some o→h2.get? e=some o)→φ h2):Inv X pins σ (upd H e (.ext φ)) s:=by
  obtain ⟨oe,vs,ho,hdd⟩:=hd
  have ne:∀ b u,H b=some u→b≠e:=fun b u z=>ne_of_none z hH
  have n0:∀ b o,X.s₀.heap.get? b=some o→b≠e:=fun b o z q=>by rw [q,h0] at z; cases z
  have nH0:∀ b u,X.H₀ b=some u→H b≠none→b≠e:=fun b u _ z q=>z (q ▸ hH)
  refine ⟨I.ok,I.os,I.bare,⟨I.base.keep,I.base.slot,fun b o z n hx=>?_,I.base.there,fun b xs z=>?_,fun b o u z=>?_,fun b ps z=>?_⟩,I.loc,I.cell,?_,fun x c z=>?_,fun p hp'=>?_,fun b u z=>?_,I.len⟩
  · rw [upd_ne (n0 b o z)]; exact I.base.free b o z n hx
  · have q:=I.base.tups b xs z
    rw [upd_ne (ne _ _ q)]; exact q
  · have q:=I.base.frzs b o u z
    rw [upd_ne (ne _ _ q)]; exact q
  · obtain ⟨m,q⟩:=I.base.tbls b ps z
    exact ⟨m,by rw [upd_ne (ne _ _ q)]; exact q⟩
  · have q:X.env.locals≠e:=fun q=>by
      obtain ⟨m,⟨o',es,ep,ho',hd',_⟩,_⟩:=I.loc
      rw [q,ho] at ho'; cases ho'; rw [hdd] at hd'; cases hd'
    rw [upd_ne q]; exact I.free
  · have q:c≠e:=fun q=>by
      obtain ⟨v,o',ho',hd'⟩:=I.cell x c z
      rw [q,ho] at ho'; cases ho'; rw [hdd] at hd'; cases hd'
    rw [upd_ne q]; exact I.freeC x c z
  · obtain ⟨a,n,r⟩:=I.pin p hp'
    exact ⟨a,by rw [upd_ne (hp p hp')]; exact n,r⟩
  · by_cases q:b=e
    · subst q
      rw [upd_same] at z
      cases z
      exact ⟨hφ,⟨oe,ho⟩,st⟩
    · rw [upd_ne q] at z
      refine (I.hok b u z).stay (fun _ _ _ w=>w) (fun c w=>?_) fun c xs w=>?_
      · rw [upd_ne (ne _ _ w)]; exact w
      · rw [upd_ne (ne _ _ w)]; exact w
end
end L2
set_option Elab.async false
set_option maxRecDepth 100000
namespace L2
open PySem PySem.Spec PyProof.Rows
abbrev Cx.tryIn (X:Cx) (pins:List (Addr×Obj)) (E:Value→Shared→Prop):Cx:={ X with pn:=X.pn++pins,xe:=E }
section
variable {X:Cx} {pins pins':List (Addr×Obj)} {σ:St} {H:Hp} {s:Shared} {E:Value→Shared→Prop}
theorem Cx.Ok.tryIn (ok:X.Ok):(X.tryIn pins E).Ok :=
 ⟨ok.mod,ok.kind,ok.glob,ok.blt,ok.above,ok.inj,ok.has,ok.cab,ok.hd,ok.frames,ok.stk,ok.exf,ok.bs,ok.bsz,ok.noex,ok.exfs,ok.funs,ok.frf⟩
theorem Cx.Ok.tryOut (ok:(X.tryIn pins E).Ok):X.Ok :=
 ⟨ok.mod,ok.kind,ok.glob,ok.blt,ok.above,ok.inj,ok.has,ok.cab,ok.hd,ok.frames,ok.stk,ok.exf,ok.bs,ok.bsz,ok.noex,ok.exfs,ok.funs,ok.frf⟩
theorem Inv.tryIn (I:Inv X pins σ H s) (E:Value→Shared→Prop):Inv (X.tryIn pins E) [] σ H s :=
 ⟨I.ok.tryIn,I.os,I.bare,I.base,I.loc,I.cell,I.free,I.freeC,fun p hp=>I.pin p (by simpa using hp),I.hok,I.len⟩
theorem Inv.tryOut (I:Inv (X.tryIn pins E) pins' σ H s):Inv X pins σ H s :=
 ⟨I.ok.tryOut,I.os,I.bare,I.base,I.loc,I.cell,I.free,I.freeC,fun p hp=>I.pin p (List.mem_append_left _ hp),I.hok,I.len⟩
theorem SP.tryOut {D:Ends} {f:Flow} {s':Shared} (h:SP (X.tryIn pins E) pins' D f s'):SP X pins D f s':=by
 cases f with
 | next=>obtain ⟨σ',H',I,q⟩:=h; exact ⟨σ',H',I.tryOut,q⟩
 | brk=>obtain ⟨σ',H',I,q⟩:=h; exact ⟨σ',H',I.tryOut,q⟩
 | cont=>obtain ⟨σ',H',I,q⟩:=h; exact ⟨σ',H',I.tryOut,q⟩
 | ret u=>obtain ⟨v,σ',H',I,r,q⟩:=h; exact ⟨v,σ',H',I.tryOut,r,q⟩
end
def XT (X:Cx) (pins:List (Addr×Obj)) (ET:St→XK):Value→Shared→Prop:=fun x s'=>∃ (σ:St) (e C:Addr) (xo:Option Addr) (H':Hp),x=.ref e∧Inv X pins σ H' s'∧Exc X.s₀.heap s'.heap H' e C xo ∧
 (∀ p∈X.pn++pins,p.1≠e∧∀ oe vs T,s'.heap.get? e=some oe→oe.data=.fields vs→vs[1]?=some (.ref T)→p.1≠T)∧ET σ (.ref C) xo H'
def PassesS (CX:CXT) (X:Cx) (ET:St→XK):Prop:=∀ (pins:List (Addr×Obj)) (σ:St) (H:Hp) (s:Shared) (e:Value) (s':Shared),Inv X pins σ H s→CX X.stack H s (ET σ) e s'→X.xe e s'
theorem passT {X:Cx} {pins:List (Addr×Obj)} {ET:St→XK} (hx:X.ex=[]:=by rfl):PassesS (CX1 X.prog X.w) (X.tryIn pins (XT X pins ET)) ET:=by
 intro pins' σ H s x s' I h
 obtain ⟨e,C,xo,H',rfl,os,bare,un,hok,ex,q⟩:=h
 have J:=I.call' (s':=s') (ch:=[]) os un hok bare (fun b hb=>by cases hb)
 obtain ⟨⟨oe,ws,T,oT,ts,g1,g2,g3,g4,g5,g6,g7,g8,g9⟩,ne,hHe,hHT,dc⟩:=ex
 have s0:∀ {b:Addr},s.heap.get? b=none→X.s₀.heap.get? b=none:=fun {b} hb=>by
  cases z:X.s₀.heap.get? b with
  | none => rfl
  | some o => obtain ⟨o', z'⟩ := I.base.there b o z (by show b ∉ X.ex; rw [hx]; simp); rw [hb] at z'; cases z'
 refine ⟨σ,e,C,xo,H',rfl,J.tryOut,⟨⟨oe,ws,T,oT,ts,g1,g2,g3,g4,s0 g5,g6,g7,g8,g9⟩,s0 ne,hHe,hHT,dc⟩,fun p hp=>?_,q⟩
 have hp':=(I.pin p (List.mem_append_left _ hp)).1
 refine ⟨fun z=>(by rw [z,ne] at hp'; cases hp'),fun oe' vs' T' z1 z2 z3 z=>?_⟩
 rw [g1] at z1; cases z1
 rw [g3] at z2; cases z2
 rw [g4] at z3; cases z3
 rw [z,g5] at hp'
 cases hp'
def tMethS (C:Addr) (m:Str) (sp:Sp) (dvs:List V) (ET:St→XK) (ta:TE) (t:TA):TE:=fun σ H Q=>ta σ H fun x H1=>rMeth C m x H1 (t σ H1 fun vs H2=>sp (x::(vs++dvs)) H2 Q (ET σ))
def tMakeS (C:Addr) (sp:Sp) (dvs:List V) (ET:St→XK) (t:TA):TE:=fun σ H Q=>t σ H fun vs H1=>∀ x dx,H1 x=none→H1 dx=none→dx≠x →
 sp (.ref x::(vs++dvs)) (upd (upd H1 dx (.own x)) x (.ins C dx [])) (fun v H2=>v=.non∧Q (.ref x) H2) (ET σ)
section
variable {X:Cx} {CX:CXT} {k:Nat} {f C:Addr} {fd:FuncData} {ps:List Str} {sp:Sp} {dvs:List V} {ds:List Value} {ET:St→XK} {x m:Str} {p pos apos:Pos} {e o:Expr} {es:List Expr} {ta:TE} {t:TA}
theorem run_fnS {pins:List (Addr×Obj)} {σ:St} {H:Hp} {s:Shared} {Q:VK} {us:List Value} {vs:List V} (F:FnOk X.prog X.w X.K X.mg X.base CX k f fd ps sp) (hr:Room k X.A) (hb:Binds X.K fd ps ds) (hd:Vals dvs ds) (hx:PassesS CX X ET)
  (I:Inv X pins σ H s) (r:Vals vs us) (h:sp (vs++dvs) H Q (ET σ)):wpAny (model X.prog X.w) X.A (call (.ref f) us) (EP X pins σ Q) X.xe s:=by
 have r2:Vals (vs++dvs) (us++ds):=r.append hd
 have hl:(us++ds).length=ps.length:=by rw [← r2.length]; exact F.len _ _ _ _ h
 refine wpAny_call (codeAny_mono (F.run X.A X.stack s H ⟨us,[]⟩ (us++ds) (vs++dvs) Q (ET σ) hr I.env0 (hb s us I.kIn hl) r2 h) fun r s' hq=>?_)
 cases r with
 | error e=>exact hx pins σ H s e s' I hq
 | ok fl =>
  cases fl with
  | ret u => exact I.after hq
  | next => exact False.elim hq
  | brk => exact False.elim hq
  | cont => exact False.elim hq
theorem pe_methS {pl:Sem Bool} (he:PE X o ta) (c:Cls X.K C) (hm:Meth X.K C m f) (F:FnOk X.prog X.w X.K X.mg X.base CX k f fd ps sp) (hr:Room k X.A) (hb:Binds X.K fd ps ds) (hd:Vals dvs ds) (hx:PassesS CX X ET) (ha:PA X (e::es) t)
  (hst:starEach (e::es) X.env=(false,eval e X.env)::starEach es X.env:=by rfl) (hpl:(backTo pos (starEach es X.env)).any (·.1)=false:=by rfl)
  (ht:eval (.Call (.Attribute o m apos) (e::es) [] pos) X.env=(do
   let ov ← eval o X.env
   standAt apos.atName
   let (f,first) ← holding [ov] (getMethod ov m pl)
   callWith pos f first (backTo pos (starEach (e::es) X.env)) (backToKw pos (keywordEach [] X.env))):=by rfl) :
  PE X (.Call (.Attribute o m apos) (e::es) [] pos) (tMethS C m sp dvs ET ta t):=by
 intro pins s σ H Q I h
 refine PySem.W.methodCall_KW (pl:=pl) (thn (he pins s σ H _ I h) fun u s1 ⟨x,H1,I1,rx,a,dx,fs,ex,ea,l,q⟩=>?_) ht
 subst ex
 obtain rfl:u=Value.ref a:=rx
 refine getmeth_ok I1 ea c hm l ?_
 refine PySem.W.callWith_K (first:=[.ref a]) (h₀:=X.base) I.ok.mod.kin hm.kp (thn (ha pos pins s1 σ H1 _ I1 q) fun us s2 ⟨vs,H2,I2,r,q2⟩=>⟨I2.kIn,?_⟩) hst hpl
 exact run_fnS (us:=.ref a::us) (vs:=.ref a::vs) F hr hb hd hx I2 (.cons rfl r) q2
theorem pe_meth0S {pl:Sem Bool} (he:PE X o ta) (c:Cls X.K C) (hm:Meth X.K C m f) (F:FnOk X.prog X.w X.K X.mg X.base CX k f fd ps sp) (hr:Room k X.A) (hb:Binds X.K fd ps ds) (hd:Vals dvs ds) (hx:PassesS CX X ET)
  (ht:eval (.Call (.Attribute o m apos) [] [] pos) X.env=(do
   let ov ← eval o X.env
   standAt apos.atName
   let (f,first) ← holding [ov] (getMethod ov m pl)
   callWith pos f first (backTo pos (starEach [] X.env)) (backToKw pos (keywordEach [] X.env))):=by rfl) :
  PE X (.Call (.Attribute o m apos) [] [] pos) (tMethS C m sp dvs ET ta tNil):=by
 intro pins s σ H Q I h
 refine PySem.W.methodCall_KW (pl:=pl) (thn (he pins s σ H _ I h) fun u s1 ⟨x,H1,I1,rx,a,dx,fs,ex,ea,l,q⟩=>?_) ht
 subst ex
 obtain rfl:u=Value.ref a:=rx
 refine getmeth_ok I1 ea c hm l ?_
 exact PySem.W.callWith_K0 (first:=[.ref a]) I1.kIn hm.kp (run_fnS (us:=[.ref a]) (vs:=[.ref a]) F hr hb hd hx I1 (.cons rfl .nil) q)
theorem run_makeS {pins:List (Addr×Obj)} {σ:St} {H:Hp} {s:Shared} {Q:VK} {us:List Value} {vs:List V} (M:Mk X.K C f) (F:FnOk X.prog X.w X.K X.mg X.base CX k f fd ps sp) (hr:Room (k+1) X.A) (hb:Binds X.K fd ps ds) (hd:Vals dvs ds)
  (hx:PassesS CX X ET) (I:Inv X pins σ H s) (r:Vals vs us)
  (h:∀ x dx,H x=none→H dx=none→dx≠x→sp (.ref x::(vs++dvs)) (upd (upd H dx (.own x)) x (.ins C dx [])) (fun v H2=>v=.non∧Q (.ref x) H2) (ET σ)) :
  wpAny (model X.prog X.w) X.A (call (.ref C) us) (EP X pins σ Q) X.xe s:=by
 have hq:=h (s.heap.objs.size+1) s.heap.objs.size (I.hok.fresh (Nat.le_succ _)) (I.hok.fresh (Nat.le_refl _)) (Nat.ne_of_lt (Nat.lt_succ_self _))
 have I2:=Inv.made (C:=C) I
 have r2:Vals (V.ref (s.heap.objs.size+1)::(vs++dvs)) (Value.ref (s.heap.objs.size+1)::(us++ds)):=.cons rfl (r.append hd)
 have hl:(Value.ref (s.heap.objs.size+1)::us++ds).length=ps.length:=by
  have e:=r2.length
  rw [F.len _ _ _ _ hq] at e
  exact e.symm
 refine wpAny_call (make_map (f:=f) I.kIn M.makes M.init (beq_iff_eq.mp M.fn) (codeAny_mono (F.run _ X.stack _ _ ⟨Value.ref (s.heap.objs.size+1)::us,[]⟩ (Value.ref (s.heap.objs.size+1)::(us++ds)) _ _ (ET σ) (hr.make C us [])
  (I2.env0.make C us []) (hb _ (Value.ref (s.heap.objs.size+1)::us) I2.kIn hl) r2 hq) fun r s' hq'=>?_))
 cases r with
 | error e=>exact hx pins σ _ _ e s' I2 hq'
 | ok fl =>
  cases fl with
  | ret u =>
   obtain ⟨v,H',I3,rv,ev,q3⟩:=I2.after hq'
   subst ev
   exact ⟨rv,⟨V.ref (s.heap.objs.size+1),H',I3,rfl,q3⟩⟩
  | next => exact False.elim hq'
  | brk => exact False.elim hq'
  | cont => exact False.elim hq'
theorem pe_makeS (M:Mk X.K C f) (F:FnOk X.prog X.w X.K X.mg X.base CX k f fd ps sp) (hr:Room (k+1) X.A) (hg:Gl X x) (hm:X.mg x=some (.ref C)) (hb:Binds X.K fd ps ds) (hd:Vals dvs ds) (hx:PassesS CX X ET)
  (ha:PA X (e::es) t) (hdb:(x==("__debug__":Str))=false:=by decide) (he:starEach (e::es) X.env=(false,eval e X.env)::starEach es X.env:=by rfl) (hpl:(backTo pos (starEach es X.env)).any (·.1)=false:=by rfl) :
  PE X (.Call (.Name x p) (e::es) [] pos) (tMakeS C sp dvs ET t):=by
 intro pins s σ H Q I h
 refine wpAny_Call_Name_kw (ld_glob I hg hm ?_ hdb)
 refine PySem.W.callWith_K (h₀:=X.base) I.ok.mod.kin M.kp (thn (ha pos pins s σ H _ I h) fun us s1 ⟨vs,H1,I1,r,q⟩=>⟨I1.kIn,?_⟩) he hpl
 exact run_makeS M F hr hb hd hx I1 r q
end
section
variable {σ:St} {H:Hp} {Q:VK}
theorem rd_methS {C:Addr} {m:Str} {sp:Sp} {dvs:List V} {ET:St→XK} {ta:TE} {t:TA} (h:ta σ H fun x H1=>rMeth C m x H1 (t σ H1 fun vs H2=>sp (x::(vs++dvs)) H2 Q (ET σ))):tMethS C m sp dvs ET ta t σ H Q:=h
theorem rd_makeS {C:Addr} {sp:Sp} {dvs:List V} {ET:St→XK} {t:TA} (h:t σ H fun vs H1=>∀ x dx,H1 x=none→H1 dx=none→dx≠x →
 sp (.ref x::(vs++dvs)) (upd (upd H1 dx (.own x)) x (.ins C dx [])) (fun v H2=>v=.non∧Q (.ref x) H2) (ET σ)):tMakeS C sp dvs ET t σ H Q:=h
end
abbrev Cx.suite (X:Cx) (e:Addr):Cx:={ X with A:=X.A.mark (some (.ref e)),calm:=false,xe:=fun _ _=>False }
section
variable {X:Cx} {pins:List (Addr×Obj)} {σ:St} {H:Hp} {s:Shared} {e:Addr}
theorem Cx.Ok.suite (ok:X.Ok):(X.suite e).Ok :=
 ⟨ok.mod,ok.kind,ok.glob,ok.blt,ok.above,ok.inj,ok.has,ok.cab,fun z=>Bool.noConfusion z,ok.frames,ok.stk,ok.exf,ok.bs,ok.bsz,ok.noex,ok.exfs,ok.funs,ok.frf⟩
theorem Inv.suite (I:Inv X pins σ H s):Inv (X.suite e) pins σ H s:=⟨I.ok.suite,I.os,I.bare,I.base,I.loc,I.cell,I.free,I.freeC,I.pin,I.hok,I.len⟩
theorem Inv.unsuite (ok:X.Ok) (I:Inv (X.suite e) pins σ H s):Inv X pins σ H s:=⟨ok,I.os,I.bare,I.base,I.loc,I.cell,I.free,I.freeC,I.pin,I.hok,I.len⟩
end
end L2
set_option Elab.async false
set_option maxRecDepth 100000
namespace L2
open PySem PySem.Spec PyProof.Rows
def Dh (i:Nat) (D:Ends):Ends:={ nx:=fun σ H=>D.nx (σ.set i none) H,rt:=D.rt,bk:=fun σ H=>D.bk (σ.set i none) H,ct:=fun σ H=>D.ct (σ.set i none) H }
def ETof (K:PySem.W.Frag) (S:Addr) (i:Nat) (ts:TS) (D:Ends):St→XK:=fun σ cls xo H1=>∃ C,cls=.ref C∧PySem.W.exmOne K (.ref C) (.ref S)=some true∧∀ e,H1 e=none→ts (Dh i D) (σ.set i (some (.ref e))) (upd H1 e (ExcX e C xo))
def tTry (K:PySem.W.Frag) (S:Addr) (i:Nat) (tb:(St→XK)→TS) (ts:TS):TS:=fun D σ H=>tb (ETof K S i ts D) D σ H
theorem gone_ok {X:Cx} {pins:List (Addr×Obj)} {σ:St} {H:Hp} {s:Shared} {M:Model} {A:Around} {E:Value→Shared→Prop} {i:Nat} {n:Str} {pos:Pos} {Q:Unit→Shared→Prop} (I:Inv X pins σ H s) (hN:X.N.Nodup) (hi:X.N[i]?=some n)
  (hk:X.env.kindOf n=some .local) (h:∀ s',Inv X pins (σ.set i none) H s'→Q () s'):wpAny M A (do bindName X.env n .none; unbindBehindTheSuite X.env n pos) Q E s:=by
 obtain ⟨m,hn,hl⟩:=id I.loc
 have hcls:(X.env.scope.kind==.class||(X.env.scope.kind==.module&&X.env.locals != X.env.globals))=false:=by rw [I.ok.kind]; rfl
 have cne:=I.cne
 refine wpAny_nameGoes_keeps hk hn hcls fun h' v hn' hs=>h _ ?_
 obtain ⟨oL,_,_,hoL,_⟩:=id hn
 have hk':HOk X.prog X.w H h':=fun b ob e=>by
  refine (I.hok b ob e).stay (fun c w' hc q=>(hs.2 c ?_).trans q) (fun _ q=>q) fun _ _ q=>q
  rintro rfl
  rcases hc with rfl | hc
  ·rw [I.free] at e; cases e
  ·rw [I.free] at hc; cases hc
 have nL:∀ b o,X.s₀.heap.get? b=some o→b≠X.env.locals:=fun b o e=>Nat.ne_of_lt (Nat.lt_of_lt_of_le (Heap.lt_size e) I.ok.above)
 refine ⟨I.ok,I.os,I.bare,⟨fun b o e n hb hx=>(hs.2 b (nL b o e)).trans (I.base.keep b o e n hb hx),fun b o e n hb hx=>?_,I.base.free,fun b o e hx=>?_,I.base.tups,I.base.frzs,I.base.tbls⟩,⟨_,hn',fun j y v' e1 e2 e3=>?_⟩,fun y c e=>?_,I.free,I.freeC,fun p hp=>?_,hk',by simpa using I.len⟩
 ·obtain ⟨sl,e1⟩:=I.base.slot b o e n hb hx
  exact ⟨sl,(hs.2 b (nL b o e)).trans e1⟩
 ·obtain ⟨o',e1⟩:=I.base.there b o e hx
  exact ⟨o',(hs.2 b (nL b o e)).trans e1⟩
 ·by_cases hj:j=i
  ·subst hj
   have hiσ:j<σ.length:=by rw [I.len]; exact (List.getElem?_eq_some_iff.mp hi).1
   rw [List.getElem?_set_self hiσ] at e2
   cases e2
  ·rw [List.getElem?_set_ne (Ne.symm hj)] at e2
   obtain ⟨u',r',q⟩:=hl j y v' e1 e2 e3
   refine ⟨u',r',?_⟩
   rcases q with ⟨k,e⟩ | ⟨k,c,e,z⟩
   ·refine .inl ⟨k,?_⟩
    have:y≠n:=fun e=>hj (nodup_ix hN e1 (e ▸ hi))
    simp [this,e]
   ·exact .inr ⟨k,c,e,z.sameBut hs (cne y c e)⟩
 ·obtain ⟨w',z⟩:=I.cell y c e
  exact ⟨w',z.sameBut hs (cne y c e)⟩
 ·obtain ⟨e,n,ne,nf,d⟩:=I.pin p hp
  exact ⟨(hs.2 p.1 ne).trans e,n,ne,nf,d⟩
theorem ps_try {X:Cx} {i:Nat} {n x:Str} {S:Addr} {body suite:List Stmt} {b₀:Stmt} {np hpos pos:Pos} {tb:(St→XK)→TS} {ts:TS} (hN:X.N.Nodup) (hi:X.N[i]?=some n) (hk:X.env.kindOf n=some .local)
  (hg:Gl X x) (hm:X.mg x=some (.ref S)) (hb:∀ pins ET,PSs (X.tryIn pins (XT X pins ET)) body (tb ET)) (hh:∀ e,PSs (X.suite e) (b₀::suite) ts)
  (hs:X.stack=X.env::X.outer:=by rfl) (hf:X.env.frame=some X.env.locals:=by rfl) (hd:(x==("__debug__":Str))=false:=by decide) :
  PS X (.Try body [.ExceptHandler (some (.Name x np)) (some n) (b₀::suite) hpos] [] [] pos) (tTry X.K S i tb ts):=by
 intro pins s σ H D I h
 refine wpAny_Try_except (wpAny_mono (hb pins (ETof X.K S i ts D) [] s σ H D (I.tryIn _) h) (fun f s1 q=>?_) (fun y s1 q=>?_))
 ·have q:=q.tryOut
  cases f with
  | next =>
   obtain ⟨σ',H',I',q'⟩:=q
   exact pss_nil pins s1 σ' H' D I' q'
  | brk => exact q
  | cont => exact q
  | ret u => exact q
 ·obtain ⟨σ1,e,C,xo,H1,rfl,I1,ex,hp,C',hC,hx',k⟩:=q
  cases hC
  obtain ⟨⟨oe,ws,T,oT,tl,g1,g2,g3,g4,g5,g6,g7,g8,g9⟩,ne,hHe,hHT,dc⟩:=ex
  have hHT:=hHT oe ws T g1 g3 g4
  obtain ⟨a0,h0⟩:∃ a0,ws[0]?=some a0:=by
   have hsz:1<ws.size:=(Array.getElem?_eq_some_iff.mp g4).1
   exact ⟨ws[0],by simp [show 0<ws.size by omega]⟩
  have ff:=I1.stack
  have hl:=PySem.W.funFrames_hide (as:=e::T::frs X.stack) ff (stack_in fun b hb=>List.mem_cons_of_mem _ (List.mem_cons_of_mem _ hb))
  have fl:Heap.FlyingW (PySem.W.hideAll s1.heap (e::T::frs X.stack)) (X.env::X.outer) e (.ref C) a0 s1.heap :=
   ⟨fun b o z=>PySem.W.of_hideAll _ z,PySem.W.hideAll_none _ List.mem_cons_self,hs ▸ hl,⟨oe,ws,T,oT,tl,g1,⟨g2,h0⟩,g3,g4,PySem.W.hideAll_none _ (List.mem_cons_of_mem _ List.mem_cons_self),g6,g7,g8,g9⟩⟩
  have stay:∀ h',Heap.StaysIn (PySem.W.hideAll s1.heap (e::T::frs X.stack)) h'→s1.heap.UpToSlots h'→Inv X pins σ1 H1 { s1 with heap:=h' }:=fun h' st sm=>by
   refine I1.held (es:=[e,T]) hs hf (fun b hb=>?_) (fun b o z nf nm=>st b o (PySem.W.hideAll_get _ z ?_)) fun b o z hb=>?_
   ·simp only [List.mem_cons,List.not_mem_nil,or_false] at hb
    rcases hb with rfl | rfl
    ·exact ⟨hHe,ne,fun p hq=>(hp p hq).1,oe,ws,g1,g3⟩
    ·exact ⟨hHT,g5,fun p hq=>(hp p hq).2 oe ws _ g1 g3 g4,oT,tl,g7,g8⟩
   ·intro m
    rcases List.mem_cons.mp m with r | m
    ·exact nm (by simp [r])
    ·rcases List.mem_cons.mp m with r | r
     ·exact nm (by simp [r])
     ·exact nf r
   ·obtain ⟨_,o',z',hd'⟩:=ff.mem hb
    rw [z] at z'; cases z'
    exact sm b o z hd'
  refine wpAny_mono (DS.any (ds_noteFrame _ _) (wpAny_looks_onW (Q:=fun _ s2=>∃ h4,s2={ s1 with heap:=h4 }∧Heap.HeldW (PySem.W.hideAll s1.heap (e::T::frs X.stack)) (X.env::X.outer) e (.ref C) a0 X.env.locals h4∧s1.heap.UpToSlots h4) (I1.ok.frames.trans (congrArg some hs)) hf fl fun h4 held sm4=>⟨h4,rfl,held,sm4⟩) ⟨oe,g1,rfl⟩) (fun _ s2 ⟨⟨h4,e4,held,sm4⟩,d4⟩=>?_) fun _ _ z=>z
  subst e4
  refine wpAny_mono (DS.any (ds_setFlight _ _) (wpAny_landsW (s:={ s1 with heap:=h4 }) (Q:=fun _ s2=>∃ h5,s2={ s1 with heap:=h5 }∧Heap.FlyingW (PySem.W.hideAll s1.heap (e::T::frs X.stack)) (X.env::X.outer) e (.ref C) a0 h5∧h4.UpToSlots h5) held fun h5 fl5 sm5=>⟨h5,rfl,fl5,sm5⟩) d4) (fun _ s2 ⟨⟨h5,e5,fl5,sm5⟩,d5⟩=>?_) fun _ _ z=>z
  subst e5
  have I5:=stay h5 fl5.1 (sm4.trans sm5)
  refine wpAny_handleBy_cons (codeAny_handlers_test (ld_glob (X:=X.suite e) I5.suite hg hm ?_ hd)) (by intro q; cases q)
  have LT:PySem.W.Looks (model X.prog X.w) h5 (typeOf (.ref e)) (.ref C):=ExcAt.looks fl5.there
  refine (PySem.W.exm_one (h:=h5) I5.kIn LT hx').here ?_
  refine codeAny_handlers_suite_as ?_
  refine wpAny_mono (DS.any (ds_setFlight _ _) (lands_againW (s:={ s1 with heap:=h5 }) (Q:=fun _ s2=>∃ h6,s2={ s1 with heap:=h6 }∧Heap.FlyingW (PySem.W.hideAll s1.heap (e::T::frs X.stack)) (X.env::X.outer) e (.ref C) a0 h6∧h5.UpToSlots h6) fl5 fun h6 fl6 sm6=>⟨h6,rfl,fl6,sm6⟩) d5) (fun _ s2 ⟨⟨h6,e6,fl6,sm6⟩,d6⟩=>?_) fun _ _ z=>z
  subst e6
  have I6:=stay h6 fl6.1 ((sm4.trans sm5).trans sm6)
  obtain ⟨oe6,ws6,z1,z2,z3,_⟩:=fl6.first
  have dc6:∀ dx,xo=some dx→oe6.dict=some dx:=fun dx z=>by
   obtain ⟨o,y1,y2⟩:=dc dx z
   rw [g1] at y1; cases y1
   obtain ⟨o,y3,y4⟩:=d6
   rw [show ({ s1 with heap:=h6 }:Shared).heap=h6 from rfl,z1] at y3; cases y3
   rw [y4,y2]
  have I7:Inv X pins σ1 (upd H1 e (ExcX e C xo)) { s1 with heap:=h6 }:=I6.track hHe ne (fun p hq=>(hp p hq).1) ⟨oe6,ws6,z1,z3⟩ ⟨oe6,ws6,z1,z2,z3,dc6⟩ fun ha hb ⟨o,vs,p1,p2⟩ kk=>⟨o,vs,kk o p1,p2⟩
  refine store_ok (X:=X.suite e) (v:=.ref e) I7.suite hN hi (.inl hk) rfl (fun s8 I8=>?_) (.inr hk)
  refine wpAny_mono (hh e pins s8 _ _ (Dh i D) I8 (k e hHe)) (fun f s9 q=>?_) fun _ _ z=>False.elim z
  show wpAny _ _ _ _ _ _
  cases f with
  | next =>
   obtain ⟨σ',H',I',q'⟩:=q
   exact gone_ok (I'.unsuite I.ok) hN hi hk fun s' J=>⟨_,H',J,q'⟩
  | brk =>
   obtain ⟨σ',H',I',q'⟩:=q
   exact gone_ok (I'.unsuite I.ok) hN hi hk fun s' J=>⟨_,H',J,q'⟩
  | cont =>
   obtain ⟨σ',H',I',q'⟩:=q
   exact gone_ok (I'.unsuite I.ok) hN hi hk fun s' J=>⟨_,H',J,q'⟩
  | ret u =>
   obtain ⟨v,σ',H',I',r,q'⟩:=q
   exact gone_ok (I'.unsuite I.ok) hN hi hk fun s' J=>⟨v,_,H',J,r,q'⟩
end L2
set_option Elab.async false
set_option maxRecDepth 100000
namespace L2
open PySem PySem.Spec PyProof.Rows
structure RoomQ (k:Nat) (A:Around):Prop where
 dp:A.depth+3*k+5<recursionLimit
 un:A.units+16*k+200<cLine
theorem Room.q {k:Nat} {A:Around} (r:Room k A):RoomQ k A:=⟨r.dp,r.un⟩
theorem RoomQ.mono {j k:Nat} {A:Around} (r:RoomQ k A) (h:j≤k):RoomQ j A:=⟨by have:=r.dp; omega,by have:=r.un; omega⟩
theorem RoomQ.deeper {k:Nat} {A:Around} (r:RoomQ (k+1) A) (env:Env):RoomQ k (A.deeper env) :=
 ⟨by have:=r.dp; show A.depth+1+3*k+5<_; omega,by have:=r.un; show A.units+3+16*k+200<_; omega⟩
theorem RoomQ.mark {k:Nat} {A:Around} {v:Option Value} (r:RoomQ k A):RoomQ k (A.mark v):=⟨r.dp,r.un⟩
structure FnOkQ (P:Program) (w:World) (K:PySem.W.Frag) (mg:Str→Option Value) (base:Heap) (k:Nat) (f:Addr) (fd:FuncData) (ps:List Str) (sp:Sp):Prop where
 len:∀ vs H Q E,sp vs H Q E→vs.length=ps.length
 run:∀ (A:Around) (outer:List Env) (s:Shared) (H:Hp) (args:Args) (us:List Value) (vs:List V) (Q:VK) (E:XK),RoomQ k A→Env0 P w K mg base A outer s H→BindsTo s fd args (ps.zip us)→Vals vs us→sp vs H Q E →
  codeAny (model P w) A (.call (.ref f) args) (CR CX0 outer P w H s Q E) s
abbrev Cx.quiet (X:Cx):Cx:={ X with calm:=false }
section
variable {P:Program} {w:World} {K:PySem.W.Frag} {mg:Str→Option Value} {base:Heap}
theorem Fun.okQ {x qual:Str} {st:Stmt} {f:Addr} {fd:FuncData} {N ps:List Str} {k:Nat} {sp:Sp} (F:Fun K x qual st f fd) (S:FnScope N ps (defScope st)) (len:∀ vs H Q E,sp vs H Q E→vs.length=ps.length)
  (hbody:∀ (cdv:Value) (A:Around) (outer:List Env) (s:Shared) (H:Hp) (vs:List V) (Q:VK) (E:XK),RoomQ k (A.deeper (envOfC qual (defScope st) s.heap.objs.size f cdv))→sp vs H Q E →
   ∃ t,PSs (cxOf CX0 P w K mg base N qual (defScope st) f cdv A outer s H E).quiet.nox (defBody st) t∧t { nx:=fun _ H'=>Q .non H',rt:=Q } (start N vs) H):FnOkQ P w K mg base (k+1) f fd ps sp:=by
 obtain ⟨oc,od,kV,doc,pm,an,cdv,ct,osl,rfl,lk,hcd⟩:=F.ex
 refine ⟨len,fun A outer s H args us vs Q E hr e0 hb r hsp=>?_⟩
 have hl:=len _ _ _ _ hsp
 have KX:K.In s.heap:=e0.mod.kin.keeps fun b o e=>(e0.bs b o e).1
 have lim:s.heap.NoLimit:=e0.mod.nolimit.keeps fun b o e=>(e0.bs b o e).1
 have hkind:∀ y∈ps.zip us,(defScope st).names.lookup y.1=some .local∨((defScope st).names.lookup y.1=some .cell∧((cellsFrom (s.heap.objs.size+1) (defScope st).names []).lookup y.1).isSome=true):=fun ⟨n,v⟩ hy=>by
  rcases S.par n (List.of_mem_zip hy).1 with q | q
  ·exact .inl q
  ·exact .inr ⟨q,PySem.W.cellsFrom_some _ _ _ (.inl q)⟩
 refine codeAny_call_function (by have:=hr.dp; omega) (KX _ _ lk) rfl S.co S.gen rfl (PySem.W.codeRec_of KX hcd) (hb _ _ _ _ ?_)
 refine wpAny_newFunctionEnv_cells S.kind hkind fun env he s1 x=>?_
 subst he
 refine ⟨lim.keeps x.toInCall.keep,codeAny_func ?_⟩
 obtain ⟨t,ht,hq⟩:=hbody cdv A outer s H vs Q E (hr.deeper _) hsp
 have I0:Inv (cxOf CX0 P w K mg base N qual (defScope st) f cdv { A with handled:=none } outer s H E) [] (start N vs) H s1:=inv_start S rfl ⟨e0.frames,e0.mod,e0.bs,e0.bsz,e0.funs,e0.frf,e0.hok,e0.bare⟩ hl r x
 have I:Inv (cxOf CX0 P w K mg base N qual (defScope st) f cdv A outer s H E).quiet.nox [] (start N vs) H s1 :=
  ⟨⟨I0.ok.mod,I0.ok.kind,I0.ok.glob,I0.ok.blt,I0.ok.above,I0.ok.inj,I0.ok.has,I0.ok.cab,fun z=>Bool.noConfusion z,I0.ok.frames,I0.ok.stk,I0.ok.exf,I0.ok.bs,I0.ok.bsz,I0.ok.noex,I0.ok.exfs,I0.ok.funs,I0.ok.frf⟩,I0.os,I0.bare,I0.base,I0.loc,I0.cell,I0.free,I0.freeC,I0.pin,I0.hok,I0.len⟩
 refine wpAny_mono (ht [] s1 (start N vs) H _ I hq) (fun fl s' hs=>?_) fun e s' hs=>False.elim hs
 have fin:∀ {σ':St} {H':Hp} {v:V} {u:Value},Inv (cxOf CX0 P w K mg base N qual (defScope st) f cdv A outer s H E).quiet.nox [] σ' H' s'→RelV v u→Q v H'→CE outer P w H s Q u s' :=
  fun {σ' H' v u} J rv q=>⟨v,H',J.os,J.bare,J.base,J.hok,rv,q⟩
 cases fl with
 | ret u =>
  obtain ⟨v,σ',H',J,rv,q⟩:=hs
  exact fin J rv q
 | next =>
  obtain ⟨σ',H',J,q⟩:=hs
  exact fin (v:=V.non) (u:=Value.none) J rfl q
 | brk =>
  obtain ⟨_,_,_,q⟩:=hs
  exact False.elim q
 | cont =>
  obtain ⟨_,_,_,q⟩:=hs
  exact False.elim q
end
section
variable {X:Cx} {k:Nat} {f C:Addr} {fd:FuncData} {ps:List Str} {sp:Sp} {dvs:List V} {ds:List Value} {x m:Str} {p pos apos:Pos} {e o:Expr} {es:List Expr} {ta:TE} {t:TA}
theorem pe_callQ (F:FnOkQ X.prog X.w X.K X.mg X.base k f fd ps sp) (hr:RoomQ k X.A) (hg:Gl X x) (hm:X.mg x=some (.ref f)) (hk:PySem.W.keepIn X.K (.ref f)=true) (hb:Binds X.K fd ps ds) (hd:Vals dvs ds)
  (ha:PA X (e::es) t) (hdb:(x==("__debug__":Str))=false:=by decide) (he:starEach (e::es) X.env=(false,eval e X.env)::starEach es X.env:=by rfl) (hpl:(backTo pos (starEach es X.env)).any (·.1)=false:=by rfl) :
  PE X (.Call (.Name x p) (e::es) [] pos) (tCall sp dvs E0 t):=by
 intro pins s σ H Q I h
 refine wpAny_Call_Name_kw (ld_glob I hg hm ?_ hdb)
 refine PySem.W.callWith_K (h₀:=X.base) I.ok.mod.kin hk (thn (ha pos pins s σ H _ I h) fun us s1 ⟨vs,H1,I1,r,q⟩=>⟨I1.kIn,?_⟩) he hpl
 have r2:Vals (vs++dvs) (us++ds):=r.append hd
 have hl:(us++ds).length=ps.length:=by rw [← r2.length]; exact F.len _ _ _ _ q
 refine wpAny_call (codeAny_mono (F.run X.A X.stack s1 H1 ⟨us,[]⟩ (us++ds) (vs++dvs) Q E0 hr I1.env0 (hb s1 us I1.kIn hl) r2 q) fun r s' hq=>?_)
 cases r with
 | error e=>exact False.elim hq
 | ok fl =>
  cases fl with
  | ret u => exact I1.after hq
  | next => exact False.elim hq
  | brk => exact False.elim hq
  | cont => exact False.elim hq
end
end L2
set_option Elab.async false
set_option maxRecDepth 100000
namespace L2
open PySem PySem.Spec PyProof.Rows
theorem exm_of {K:PySem.W.Frag} {A S:Addr} (bs:PySem.W.subIn K (.ref S) (.type "BaseException")=some true) (mo:PySem.W.mroIn K S (.type "object")=some true) (ty:PySem.W.typeIn K (.ref S)=some (.type "type"))
  (sb:PySem.W.subIn K (.ref A) (.ref S)=some true):PySem.W.exmOne K (.ref A) (.ref S)=some true:=by
 obtain ⟨cd,hc,_⟩:=Option.bind_eq_some_iff.mp mo
 simp only [PySem.W.exmOne,PySem.W.kitCls]
 simp [bs,hc,ty,sb]
theorem own_of {K:PySem.W.Frag} {h:Heap} {mg:Str→Option Value} {x:Str} {C:Addr} {bmB:List Value} {newId:String} (X:K.In h) (hm:mg x=some (.ref C)) (q:PySem.W.excIn K C bmB newId=true):OwnCls x C bmB newId mg h:=by
 refine ⟨hm,?_⟩
 simp only [PySem.W.excIn] at q
 split at q
 case h_2=>cases q
 case h_1 dd cd sl ho =>
  split at q
  case h_2=>cases q
  case h_1 C' bm k0 k1 k2 k3 n k5 hmr hsl =>
   simp only [Bool.and_eq_true,beq_iff_eq,Bool.not_eq_true'] at q
   obtain ⟨⟨⟨⟨⟨e1,e2⟩,hdel⟩,ht⟩,hok⟩,hni⟩:=q
   subst e1 e2
   have hh:=X _ _ ho
   obtain ⟨nm,bs,mro,ns,qn,hd,sn,sub,ab,col,del⟩:=cd
   simp only at hmr hdel hok hni
   subst hmr hdel
   obtain ⟨l⟩:=sl
   simp only at hsl
   subst hsl
   exact ⟨bm,ns,nm,qn,bs,hd,sn,sub,ab,col,dd,k0,k1,k2,k3,k5,_,hh,.of_isNs (PySem.W.isNs_of_in X hok),PySem.W.nsMap_none_of_in X hok hni,PySem.W.tail_of_in X ht⟩
theorem ps_raiseK {X:Cx} {E:XK} {x:Str} {C:Addr} {B newId initId:String} {bm:List Value} {np cpos pos:Pos} {e:Expr} {es:List Expr} {t:TA} (hm:X.mg x=some (.ref C)) (q:PySem.W.excIn X.K C bm newId=true) (FB:ExcBaseFacts B newId initId bm) (hc:X.calm=true) (hg:Gl X x)
  (hx:∀ (pins:List (Addr×Obj)) (σ:St) (H:Hp) (s:Shared) (h':Heap) (t':Nat) (e:Addr) (vs:List Value),Inv X pins σ H s→Heap.MadeExcOf s.heap h' e (.ref C) vs→E (.ref C) none H→X.xe (.ref e) { s with heap:=h',toks:=t' })
  (ha:PA X (e::es) t) (hd:(x==("__debug__":Str))=false:=by decide) (he:starEach (e::es) X.env=(false,eval e X.env)::starEach es X.env:=by rfl) (hpl:(backTo cpos (starEach es X.env)).any (·.1)=false:=by rfl) :
  PS X (.Raise (some (.Call (.Name x np) (e::es) [] cpos)) none pos) (tRaise C E t):=fun pins s σ H D I h =>
 ps_raise (own_of I.ok.mod.kin hm q) FB hc hg hx ha hd he hpl pins s σ H D I h
theorem rd_raise {C:Addr} {E:XK} {t:TA} {D:Ends} {σ:St} {H:Hp} (h:t σ H fun vs H1=>vs.length≤sizeLine∧E (.ref C) none H1):tRaise C E t D σ H:=h
section
variable {P:Program} {w:World} {K:PySem.W.Frag} {mg:Str→Option Value} {base:Heap}
theorem FnOk.down {k:Nat} {f:Addr} {fd:FuncData} {ps:List Str} {sp sp':Sp} (F:FnOk P w K mg base (CX1 P w) k f fd ps sp) (h:∀ vs H Q E,sp' vs H Q E→sp vs H Q (fun _ _ _=>False)):FnOk P w K mg base CX0 k f fd ps sp' :=
 ⟨fun vs H Q E q=>F.len vs H Q _ (h _ _ _ _ q),fun A outer s H args us vs Q E hr e0 hb hv hs=>codeAny_mono (F.run A outer s H args us vs Q _ hr e0 hb hv (h _ _ _ _ hs)) fun r s' hq=>by
  cases r with
  | error e => obtain ⟨_, _, _, _, _, _, _, _, _, _, z⟩ := hq; exact z.elim
  | ok fl => cases fl <;> exact hq⟩
end
theorem rd_try {K:PySem.W.Frag} {S:Addr} {i:Nat} {tb:(St→XK)→TS} {ts:TS} {D:Ends} {σ:St} {H:Hp} (h:tb (ETof K S i ts D) D σ H):tTry K S i tb ts D σ H:=h
end L2
set_option Elab.async false
set_option maxRecDepth 100000
namespace L2
open PySem PySem.Spec PyProof.Rows
theorem rd_cat {H:Hp} {Q:VK} {a b:Addr} {xs zs:List V} (ha:H a=some (.lst xs)) (hb:H b=some (.lst zs)) (z:xs.length+zs.length≤sizeLine) (q:∀ p,H p=none→Q (.ref p) (upd H p (.lst (xs++zs)))):rCat (.ref a) (.ref b) H Q :=
 ⟨a,b,xs,zs,rfl,rfl,ha,hb,z,q⟩
def SameBut (l:Addr) (H H':Hp):Prop:=∀ b o,H b=some o→b≠l→H' b=some o
section
variable {K:PySem.W.Frag} {σ:St} {H:Hp} {Q:VK} {te:TE} {cap:List (Option Nat)} {l:Addr}
end
def tJoin (t:TS):TS:=fun D σ H=>∃ J:St→Hp→Prop,t { D with nx:=J } σ H∧∀ σ' H',J σ' H'→D.nx σ' H'
theorem ps_join {X:Cx} {st:Stmt} {t:TS} (h:PS X st t):PS X st (tJoin t):=by
 intro pins s σ H D I ⟨J,h1,h2⟩
 refine wpAny_mono (h pins s σ H _ I h1) (fun f s' q=>?_) fun _ _ z=>z
 cases f with
 | next=>obtain ⟨σ',H',J',q⟩:=q; exact ⟨σ',H',J',h2 σ' H' q⟩
 | brk=>exact q
 | cont=>exact q
 | ret u=>exact q
theorem rd_join {t:TS} {D:Ends} {σ:St} {H:Hp} (J:St→Hp→Prop) (h1:t { D with nx:=J } σ H) (h2:∀ σ' H',J σ' H'→D.nx σ' H'):tJoin t D σ H:=⟨J,h1,h2⟩
end L2
set_option Elab.async false
set_option maxRecDepth 100000
namespace L2
open PySem PySem.Spec PyProof.Rows
section
variable {prog:Program} {w:World} {A:Around} {E:Value→Shared→Prop} {s:Shared}
theorem tupNext {I u:Addr} {k:Nat} {its:Array Value} {x:Value} {Q:Value→Shared→Prop} (hI:s.heap.IsTupleIter I u k) (hu:s.heap.IsTuple u its) (hx:its[k]?=some x)
  (hQ:∀ g,g.IsTupleIter I u (k+1)→Heap.SameBut I s.heap g→Q x { s with heap:=g }):wpAny (model prog w) A (Builtin.SmallTypes.nextOf (.ref I)) Q E s:=by
 obtain ⟨oI,eI,cI,dI⟩:=id hI
 obtain ⟨ou,eu,_,nu,du⟩:=hu
 unfold Builtin.SmallTypes.nextOf
 refine wpAny_bind (wpAny_callSpecial?_slot (name:=Str.ofString "__next__") hI.typeIs F.slot_tuple_iterator_next (wpAny_call_entry F.slot_tuple_iterator_next hI.typeIs F.entry_tuple_iterator_next ?_ (F.args_tuple_iterator_next_1 _)))
 show wpAny _ _ (field (.ref I) 0 >>= _) _ _ s
 refine wpAny_bind (wpAny_field eI dI (x:=.ref u) rfl ?_)
 show wpAny _ _ (if (Value.ref u==Value.none)=true then _ else _) _ _ s
 rw [if_neg (show ¬ ((Value.ref u==Value.none)=true) from Bool.false_ne_true)]
 show wpAny _ _ (field (.ref I) 1 >>= _) _ _ s
 refine wpAny_bind (wpAny_field eI dI (x:=.int k 0) rfl ?_)
 show wpAny _ _ (seqItems? (.ref u) >>= _) _ _ s
 refine wpAny_bind (wpAny_seqItems eu du ?_)
 rw [Int.toNat_natCast]; simp only [hx]
 refine wpAny_bind (wpAny_setField eI dI (by simp) (wpAny_pure ⟨x,rfl,wpAny_pure (hQ _ ?_ (Heap.SameBut.update ..))⟩))
 exact ⟨_,Heap.get?_update_self _ eI (Obj.isFreed_of_fields (Obj.data_mapFields dI _)),(Obj.cls_mapFields ..).trans cI,by rw [Obj.data_mapFields dI]; simp [rawInt]⟩
theorem tupStop {I u:Addr} {k:Nat} {its:Array Value} {Q:Value→Shared→Prop} (hd0:A.handled=none) (hI:s.heap.IsTupleIter I u k) (hu:s.heap.IsTuple u its) (hx:its[k]?=none)
  (hE:∀ g e,Heap.ExtBut I s.heap g→(∃ o,g.get? e=some o∧o.cls=.type "StopIteration")→E (.ref e) { s with heap:=g }):wpAny (model prog w) A (Builtin.SmallTypes.nextOf (.ref I)) Q E s:=by
 obtain ⟨oI,eI,cI,dI⟩:=id hI
 obtain ⟨ou,eu,_,nu,du⟩:=hu
 unfold Builtin.SmallTypes.nextOf
 refine wpAny_bind (wpAny_callSpecial?_slot (name:=Str.ofString "__next__") hI.typeIs F.slot_tuple_iterator_next (wpAny_call_entry F.slot_tuple_iterator_next hI.typeIs F.entry_tuple_iterator_next ?_ (F.args_tuple_iterator_next_1 _)))
 show wpAny _ _ (field (.ref I) 0 >>= _) _ _ s
 refine wpAny_bind (wpAny_field eI dI (x:=.ref u) rfl ?_)
 show wpAny _ _ (if (Value.ref u==Value.none)=true then _ else _) _ _ s
 rw [if_neg (show ¬ ((Value.ref u==Value.none)=true) from Bool.false_ne_true)]
 show wpAny _ _ (field (.ref I) 1 >>= _) _ _ s
 refine wpAny_bind (wpAny_field eI dI (x:=.int k 0) rfl ?_)
 show wpAny _ _ (seqItems? (.ref u) >>= _) _ _ s
 refine wpAny_bind (wpAny_seqItems eu du ?_)
 rw [Int.toNat_natCast]; simp only [hx]
 refine wpAny_bind (wpAny_rule (wpAny_bind (wpAny_setField eI dI (by simp) ?_)))
 show wpAny _ _ (newExc (.type "StopIteration") [] >>= _) _ _ _; refine wpAny_bind ?_
 simp only [newExc,newTuple]; refine wpAny_bind (wpAny_newObj_type ?_ (by size_fits))
 refine wpAny_bind (m:=firstArgMember _ _) (wpAny_of_eq (a:=Value.none) (by first | rfl | (simp only [firstArgMember]; rfl)) ?_); refine wpAny_newObj_type ?_ (by size_fits)
 simp only [raiseNew]; refine wpAny_bind (wpAny_handled ?_); rw [show A.in1.handled=none from hd0]
 refine wpAny_bind (wpAny_pure (wpAny_throw ?_)); exact hE _ _ (((Heap.SameBut.update ..).extBut.push _).push _) ⟨_,Heap.get?_push_size _ rfl,rfl⟩
theorem zipT_item {Z TI TO i j u v:Addr} {k l:Nat} {xs ys:Array Value} {x y a b:Value} {Q:Option Value→Shared→Prop} (D:ZipApart Z TI TO i j u v)
  (eZ:IsZip s.heap Z TI TO .none) (eI:IsPair s.heap TI (.ref i) (.ref j)) (eO:IsPair s.heap TO a b) (ei:s.heap.IsTupleIter i u k) (ej:s.heap.IsTupleIter j v l) (eu:s.heap.IsTuple u xs) (ev:s.heap.IsTuple v ys) (hx:xs[k]?=some x) (hy:ys[l]?=some y)
  (hQ:∀ g,IsZip g Z TI TO (rawInt s.heap.objs.size)→IsPair g TO x y→g.IsTupleIter i u (k+1)→g.IsTupleIter j v (l+1)→IsPair g s.heap.objs.size x y→g.objs.size=s.heap.objs.size+1 →
   (∀ c o,c≠Z→c≠TO→c≠i→c≠j→s.heap.get? c=some o→g.get? c=some o)→Q (some (.ref s.heap.objs.size)) { s with heap:=g }):wpAny (model prog w) A (pyNext (.ref Z)) Q E s:=by
 have hT:s.TypeIs (.ref Z) "zip":=⟨_,eZ,rfl⟩
 unfold pyNext
 refine wpAny_bind (wpAny_attempt (wpAny_callSpecial?_slot (name:=Str.ofString "__next__") hT F.slot_zip_next (wpAny_call_entry F.slot_zip_next hT F.entry_zip_next ?_ (F.args_zip_next_1 _))))
 show wpAny _ _ (field (.ref Z) 2 >>= _) _ _ _
 refine wpAny_bind (wpAny_field eZ rfl (x:=.bool false) rfl ?_)
 show wpAny _ _ (field (.ref Z) 3 >>= _) _ _ _
 refine wpAny_bind (wpAny_field eZ rfl (x:=.ref TI) rfl ?_); refine wpAny_bind (wpAny_seqItems eI rfl ?_)
 show wpAny _ _ (Builtin.SmallTypes.ownedTupleIsFree (.ref Z) >>= _) _ _ _
 refine wpAny_bind ?_; unfold Builtin.SmallTypes.ownedTupleIsFree
 refine wpAny_bind (wpAny_field eZ rfl (x:=.none) rfl (wpAny_pure ?_)); simp only [if_true]
 refine wpAny_bind (wpAny_rule ?_); refine wpAny_bind (wpAny_field eZ rfl (x:=.ref TO) rfl ?_)
 refine wpAny_bind (wpAny_setField_rec eZ (by simp) fun g1 z1 t1=>?_)
 replace z1:IsZip g1 Z TI TO .ellipsis:=z1
 refine wpAny_bind ?_; simp only [List.zipIdx_cons,List.zipIdx_nil,List.forIn_cons,List.forIn_nil]; refine wpAny_bind (wpAny_bind (wpAny_onRaise ?_))
 show wpAny _ _ (Builtin.SmallTypes.nextOf (.ref i) >>= _) _ _ _
 refine wpAny_bind (tupNext (ei.extBut t1.extBut D.i1z) (eu.extBut t1.extBut D.l1z) hx fun g2 i2 t2=>wpAny_pure ?_)
 have o2:IsPair g2 TO a b:=t2.extBut _ _ D.TOi1 (t1.extBut _ _ D.TOz eO)
 refine wpAny_bind (wpAny_seqItems o2 rfl ?_); refine wpAny_bind (wpAny_updateSeq_pair o2 fun g3 o3 t3=>?_)
 replace o3:IsPair g3 TO x b:=o3
 refine wpAny_bind (wpAny_letGo (wpAny_pure ?_)); refine wpAny_bind (wpAny_bind (wpAny_onRaise ?_))
 show wpAny _ _ (Builtin.SmallTypes.nextOf (.ref j) >>= _) _ _ _
 refine wpAny_bind (tupNext (((ej.extBut t1.extBut D.i2z).extBut t2.extBut D.i12.symm).extBut t3.extBut D.TOi2.symm) (((ev.extBut t1.extBut D.l2z).extBut t2.extBut D.l2i1).extBut t3.extBut D.l2TO) hy fun g4 j4 t4=>wpAny_pure ?_)
 have o4:IsPair g4 TO x b:=t4.extBut _ _ D.TOi2 o3
 refine wpAny_bind (wpAny_seqItems o4 rfl ?_); refine wpAny_bind (wpAny_updateSeq_pair o4 fun g5 o5 t5=>?_)
 replace o5:IsPair g5 TO x y:=o5
 refine wpAny_bind (wpAny_letGo (wpAny_pure (wpAny_pure ?_))); refine wpAny_bind (wpAny_seqItems o5 rfl ?_); refine wpAny_bind (wpAny_newTuple ?_)
 have sz:g5.objs.size=s.heap.objs.size:=by rw [t5.1,t4.1,t3.1,t2.1,t1.1]
 have z5:IsZip g5 Z TI TO .ellipsis:=t5.extBut _ _ D.TOz.symm (t4.extBut _ _ D.i2z.symm (t3.extBut _ _ D.TOz.symm (t2.extBut _ _ D.i1z.symm z1)))
 have k5:∀ c o,c≠Z→c≠TO→c≠i→c≠j→s.heap.get? c=some o→g5.get? c=some o:=fun c o c1 c2 c3 c4 q=>t5.extBut _ _ c2 (t4.extBut _ _ c4 (t3.extBut _ _ c2 (t2.extBut _ _ c3 (t1.extBut _ _ c1 q))))
 have i5:g5.IsTupleIter i u (k+1):=((i2.extBut t3.extBut D.TOi1.symm).extBut t4.extBut D.i12).extBut t5.extBut D.TOi1.symm
 have j5:g5.IsTupleIter j v (l+1):=j4.extBut t5.extBut D.TOi2.symm
 have lz:Z<g5.objs.size:=Heap.lt_size z5
 show wpAny _ _ (Builtin.SmallTypes.ownedTupleHandOut (.ref Z) (.ref g5.objs.size) >>= _) _ _ _
 refine wpAny_bind ?_; unfold Builtin.SmallTypes.ownedTupleHandOut
 have z6:IsZip (g5.push { cls:=.type "tuple",data:=.seq #[x,y] }) Z TI TO .ellipsis:=Heap.get?_push_of_some _ z5
 refine wpAny_bind (wpAny_setField_rec z6 (by simp) fun g7 z7 t7=>?_)
 replace z7:IsZip g7 Z TI TO (rawInt g5.objs.size):=z7
 refine wpAny_setField_rec z7 (by simp) fun g8 z8 t8=>?_
 replace z8:IsZip g8 Z TI TO (rawInt g5.objs.size):=z8
 have up:∀ c o,c≠Z→g5.get? c=some o→g8.get? c=some o:=fun c o c1 q=>t8.extBut _ _ c1 (t7.extBut _ _ c1 (Heap.get?_push_of_some _ q))
 have n8:IsPair g8 g5.objs.size x y:=t8.extBut _ _ (Nat.ne_of_gt lz) (t7.extBut _ _ (Nat.ne_of_gt lz) (Heap.get?_push_size _ rfl))
 have s8:g8.objs.size=g5.objs.size+1:=by rw [t8.1,t7.1,Heap.size_push]
 rw [sz] at z8 n8 s8
 refine wpAny_pure ⟨_,rfl,wpAny_pure ?_⟩
 rw [sz]
 obtain ⟨oi,qi⟩:=i5
 obtain ⟨oj,qj⟩:=j5
 exact hQ g8 z8 (up _ _ D.TOz o5) ⟨oi,up _ _ D.i1z qi.1,qi.2⟩ ⟨oj,up _ _ D.i2z qj.1,qj.2⟩ n8 s8 fun c o c1 c2 c3 c4 q=>up c o c1 (k5 c o c1 c2 c3 c4 q)
theorem zipT_end {Z TI TO i j u v:Addr} {k:Nat} {xs:Array Value} {Q:Option Value→Shared→Prop} (hd0:A.handled=none) (D:ZipApart Z TI TO i j u v)
    (eZ:IsZip s.heap Z TI TO .none) (eI:IsPair s.heap TI (.ref i) (.ref j)) (ei:s.heap.IsTupleIter i u k) (eu:s.heap.IsTuple u xs) (hx:xs[k]?=none)
    (hQ:∀ g,(∀ c o,c≠Z→c≠TO→c≠i→c≠j→s.heap.get? c=some o→g.get? c=some o)→Q none { s with heap:=g }):wpAny (model prog w) A (pyNext (.ref Z)) Q E s:=by
  have hT:s.TypeIs (.ref Z) "zip":=⟨_,eZ,rfl⟩
  have body:∀ (E':Value→Shared→Prop) (Q':Fin→Shared→Prop),(∀ g e,(∀ c o,c≠Z→c≠TO→c≠i→c≠j→s.heap.get? c=some o→g.get? c=some o)→(∃ o,g.get? e=some o∧o.cls=.type "StopIteration")→E' (.ref e) { s with heap:=g }) →
      wpAny (model prog w) A.in1 (Builtin.«zip.__next__» ⟨[.ref Z],[]⟩) Q' E' s:=fun E' Q' hE=>by
    show wpAny _ _ (field (.ref Z) 2 >>= _) _ _ _
    refine wpAny_bind (wpAny_field eZ rfl (x:=.bool false) rfl ?_)
    show wpAny _ _ (field (.ref Z) 3 >>= _) _ _ _
    refine wpAny_bind (wpAny_field eZ rfl (x:=.ref TI) rfl ?_); refine wpAny_bind (wpAny_seqItems eI rfl ?_)
    show wpAny _ _ (Builtin.SmallTypes.ownedTupleIsFree (.ref Z) >>= _) _ _ _
    refine wpAny_bind ?_; unfold Builtin.SmallTypes.ownedTupleIsFree
    refine wpAny_bind (wpAny_field eZ rfl (x:=.none) rfl (wpAny_pure ?_)); simp only [if_true]
    refine wpAny_bind (wpAny_rule ?_); refine wpAny_bind (wpAny_field eZ rfl (x:=.ref TO) rfl ?_)
    refine wpAny_bind (wpAny_setField_rec eZ (by simp) fun g1 z1 t1=>?_)
    replace z1:IsZip g1 Z TI TO .ellipsis:=z1
    refine wpAny_bind ?_; simp only [List.zipIdx_cons,List.zipIdx_nil,List.forIn_cons,List.forIn_nil]; refine wpAny_bind (wpAny_bind (wpAny_onRaise ?_))
    show wpAny _ _ (Builtin.SmallTypes.nextOf (.ref i) >>= _) _ _ _
    refine wpAny_bind (tupStop hd0 (ei.extBut t1.extBut D.i1z) (eu.extBut t1.extBut D.l1z) hx fun g2 e t2 he=>?_)
    obtain ⟨oe,q1,q2⟩:=he
    have z2:IsZip g2 Z TI TO .ellipsis:=t2 _ _ D.i1z.symm z1
    have ne:e≠Z:=fun q=>by subst q; rw [z2] at q1; cases q1; simp at q2
    refine wpAny_setField_rec z2 (by simp) fun g3 _ t3=>hE g3 e (fun c o c1 _ c3 _ q=>t3.extBut _ _ c1 (t2 _ _ c3 (t1.extBut _ _ c1 q))) ⟨oe,t3.extBut _ _ ne q1,q2⟩
  unfold pyNext
  refine wpAny_bind (wpAny_attempt (wpAny_callSpecial?_slot (name:=Str.ofString "__next__") hT F.slot_zip_next (wpAny_call_entry F.slot_zip_next hT F.entry_zip_next (body _ _ fun g e hk he=>?_) (F.args_zip_next_1 _))))
  obtain ⟨o,q1,q2⟩:=he
  exact wpAny_bind (wpAny_isInstance (T:="StopIteration") (b:=true) ⟨o,q1,q2⟩ isSubtype_stop (wpAny_pure (hQ _ hk)))
end
end L2
set_option Elab.async false
set_option maxRecDepth 100000
namespace L2
open PySem PySem.Spec PyProof.Rows
theorem istup {h:Heap} {a:Addr} {its:Array Value} (p:IsTup h a its):h.IsTuple a its:=p
def Itzt (K:PySem.W.Frag) (a b:Addr):It :=
  ⟨fun i H=>∃ xs ys x y,SqT K H a xs∧SqT K H b ys∧xs[i]?=some x∧ys[i]?=some y,
   fun i H v H'=>∃ T,v=.ref T∧H T=none∧∀ xs ys,SqT K H a xs→SqT K H b ys→∃ x y,xs[i]?=some x∧ys[i]?=some y∧H'=upd H T (.tup [x,y]),
   fun i H=>∃ xs ys,SqT K H a xs∧SqT K H b ys∧xs.length≤i⟩
theorem turn_zipT {P:Program} {w:World} {K:PySem.W.Frag} {elts:List Expr} {kt:Nat} {pt:Pos} {a b n:Addr} (ha:a<n) (hb:b<n) :
    Turn P w K (.Tuple elts kt pt) (Itzt K a b) [n+4,n+2,n+3,n,n+1] (n+4) (fun i h=>IsZip h (n+4) (n+2) (n+3) .none∧IsPair h (n+2) (.ref n) (.ref (n+1))∧(∃ x y,IsPair h (n+3) x y)∧h.IsTupleIter n a i∧h.IsTupleIter (n+1) b i) where
  mem:=by simp
  obj:=fun i h st c hc=>by
    obtain ⟨z1,z2,⟨x,y,z3⟩,⟨o4,e4,c4,d4⟩,⟨o5,e5,c5,d5⟩⟩:=st
    simp only [List.mem_cons,List.not_mem_nil,or_false] at hc
    rcases hc with rfl | rfl | rfl | rfl | rfl
    · exact ⟨_,z1,fun v z=>by cases z⟩
    · exact ⟨_,z2,fun v z=>by cases z⟩
    · exact ⟨_,z3,fun v z=>by cases z⟩
    · exact ⟨_,e4,fun v z=>by rw [d4] at z; cases z⟩
    · exact ⟨_,e5,fun v z=>by rw [d5] at z; cases z⟩
  keep:=fun i h h' st k=>by
    obtain ⟨z1,z2,⟨x,y,z3⟩,z4,z5⟩:=st
    exact ⟨k _ (by simp) _ z1,k _ (by simp) _ z2,⟨x,y,k _ (by simp) _ z3⟩,z4.at fun o e=>k _ (by simp) o e,z5.at fun o e=>k _ (by simp) o e⟩
  item:=by
    intro X hP hw hK hc i pins s σ H E I hf st hg
    subst hP hw hK
    obtain ⟨xs,ys,x,y,hqa,hqb,hx,hy⟩:=hg
    obtain ⟨its,rv,p,hz⟩:=I.tuple hqa
    obtain ⟨jts,rw',p',hz'⟩:=I.tuple hqb
    obtain ⟨u,hu,ru⟩:=rv.get hx
    obtain ⟨u',hu',ru'⟩:=rw'.get hy
    obtain ⟨z1,z2,⟨x0,y0,z3⟩,z4,z5⟩:=st
    have D:ZipApart (n+4) (n+2) (n+3) n (n+1) a b:=PyProof.Rows.zipApart_new ha hb
    have ltz:n+4<s.heap.objs.size:=Heap.lt_size z1
    refine zipT_item D z1 z2 z3 z4 z5 (istup p) (istup p') (x:=u) (y:=u') (by simpa using hu) (by simpa using hu') fun h' a1 a2 a3 a4 a5 a6 hk=>?_
    refine ⟨_,rfl,wpAny_letOwnedTupleGo_zip (s:={ s with heap:=h' }) a1 fun h2 b1 hs=>?_⟩
    have neT:∀ {c:Addr},c≤n+4→c≠s.heap.objs.size:=fun h=>Nat.ne_of_lt (Nat.lt_of_le_of_lt h ltz)
    have kk:∀ c o,c∉[n+4,n+3,n,n+1]→s.heap.get? c=some o→h2.get? c=some o:=fun c o hc e=>by
      simp only [List.mem_cons,List.not_mem_nil,or_false,not_or] at hc
      exact (hs.2 c hc.1).trans (hk c o hc.1 hc.2.1 hc.2.2.1 hc.2.2.2 e)
    have q2:h2.get? (n+2)=_:=kk _ _ (by simp only [List.mem_cons,List.not_mem_nil,or_false,not_or]; exact ⟨D.TIz,D.TITO,D.TIi1,D.TIi2⟩) z2
    have q3:h2.get? (n+3)=_:=(hs.2 _ D.TOz).trans a2
    obtain ⟨o4,e4,c4⟩:=a3
    obtain ⟨o5,e5,c5⟩:=a4
    have q4:h2.get? n=_:=(hs.2 _ D.i1z).trans e4
    have q5:h2.get? (n+1)=_:=(hs.2 _ D.i2z).trans e5
    have qT:h2.get? s.heap.objs.size=_:=(hs.2 _ (Ne.symm (neT (Nat.le_refl _)))).trans a5
    have sub:∀ c∈[n+4,n+3,n,n+1],c∈[n+4,n+2,n+3,n,n+1]:=fun c hc=>by
      simp only [List.mem_cons,List.not_mem_nil,or_false] at hc ⊢
      rcases hc with e | e | e | e
      · exact .inl e
      · exact .inr (.inr (.inl e))
      · exact .inr (.inr (.inr (.inl e)))
      · exact .inr (.inr (.inr (.inr e)))
    have I1:Inv X pins σ (upd H s.heap.objs.size (.tup [x,y])) { s with heap:=h2,toks:=s.toks }:=I.turnedL (ch:=[n+4,n+3,n,n+1]) kk (fun c hc=>hf c (sub c hc)) (fun c hc=>by
        simp only [List.mem_cons,List.not_mem_nil,or_false] at hc
        rcases hc with rfl | rfl | rfl | rfl
        · exact ⟨_,b1⟩
        · exact ⟨_,q3⟩
        · exact ⟨_,q4⟩
        · exact ⟨_,q5⟩) (Nat.le_refl _) ⟨by show 2≤sizeLine; decide,[u,u'],.cons ru (.cons ru' .nil),_,qT,rfl,_,rfl⟩
    refine ⟨.ref s.heap.objs.size,_,I1,rfl,⟨_,rfl,I.hok.fresh (Nat.le_refl _),fun vs ws hv hw=>?_⟩,⟨b1,q2,⟨_,_,q3⟩,⟨_,q4,c4⟩,⟨_,q5,c5⟩⟩,fun c hc=>?_⟩
    · rw [I.tuple_inj hv hqa,I.tuple_inj hw hqb]
      exact ⟨x,y,hx,hy,rfl⟩
    · have hle:c≤n+4:=by
        simp only [List.mem_cons,List.not_mem_nil,or_false] at hc
        rcases hc with rfl | rfl | rfl | rfl | rfl
        · exact Nat.le_refl _
        · exact Nat.le_add_right (n+2) 2
        · exact Nat.le_add_right (n+3) 1
        · exact Nat.le_add_right _ 4
        · exact Nat.le_add_right (n+1) 3
      rw [upd_ne (neT hle)]
      exact (hf c hc).1
  done:=by
    intro X hP hw hK hc i pins s σ H E I hf st hg
    subst hP hw hK
    obtain ⟨xs,ys,hqa,hqb,hl⟩:=hg
    obtain ⟨its,rv,p,hz⟩:=I.tuple hqa
    obtain ⟨jts,rw',p',hz'⟩:=I.tuple hqb
    obtain ⟨z1,z2,⟨x0,y0,z3⟩,z4,z5⟩:=st
    have D:ZipApart (n+4) (n+2) (n+3) n (n+1) a b:=PyProof.Rows.zipApart_new ha hb
    have l1:=rv.length
    have l2:=rw'.length
    refine zipT_end (I.ok.hd hc) D z1 z2 z4 (istup p) ?_ fun h' hk=>⟨rfl,?_⟩
    · simp; omega
    · have fp:∀ c∈[n+4,n+3,n,n+1],FpOk X pins H c:=fun c hc=>hf c (by
        simp only [List.mem_cons,List.not_mem_nil,or_false] at hc ⊢
        rcases hc with e | e | e | e
        · exact .inl e
        · exact .inr (.inr (.inl e))
        · exact .inr (.inr (.inr (.inl e)))
        · exact .inr (.inr (.inr (.inr e))))
      have kk:∀ c o,c∉[n+4,n+3,n,n+1]→s.heap.get? c=some o→h'.get? c=some o:=fun c o hc e=>by
        simp only [List.mem_cons,List.not_mem_nil,or_false,not_or] at hc
        exact hk c o hc.1 hc.2.1 hc.2.2.1 hc.2.2.2 e
      have nit:∀ c u,H c=some u→c∉[n+4,n+3,n,n+1]:=fun c u e z=>by rw [(fp c z).1] at e; cases e
      refine I.step (g':=s.gens) (d':=s.drawn) (t':=s.toks) (ch:=[n+4,n+3,n,n+1]) (fun c hc=>⟨(fp c hc).2.2.2.1,(fp c hc).2.1,(fp c hc).2.2.2.2.1,(fp c hc).2.2.2.2.2⟩) (fun c o _ _ hc e _=>kk c o hc e) (fun c o _ _ hc e _=>⟨o.slots,kk c o hc e⟩) (fun _ _ _ _ n=>n)
        (fun c o hc e=>⟨o,kk c o hc e⟩) (fun _ _ e=>e) (fun _ _ _ e=>e) (fun _ ps e=>⟨#[],by rw [e]; simp⟩) (fun m hm=>?_) (fun c u e=>?_) I.bare
      · obtain ⟨ob,es,ep,ho,r⟩:=hm
        exact ⟨ob,es,ep,kk _ ob (fun z=>(fp _ z).2.1 rfl) ho,r⟩
      · refine (I.hok c u e).stay (fun d v hd q=>kk d v ?_ q) (fun _ e'=>e') fun _ _ e'=>e'
        rcases hd with z | z
        · rw [z]; exact nit c u e
        · exact nit d _ z
  self:=fun _ _ _ _ _ st h=>wpAny_pyIter_zip st.1 h
section
variable {prog:Program} {w:World} {A:Around} {E:Value→Shared→Prop} {s:Shared}
abbrev zT1 (h:Heap) (u:Addr):Heap:=h.push { cls:=.type "tuple_iterator",data:=.fields #[.ref u,.int 0 0] }
abbrev zT2 (h:Heap) (u v:Addr):Heap:=(zT1 h u).push { cls:=.type "tuple_iterator",data:=.fields #[.ref v,.int 0 0] }
abbrev zT3 (h:Heap) (u v:Addr):Heap:=(zT2 h u v).push { cls:=.type "tuple",data:=.seq #[.ref h.objs.size,.ref (zT1 h u).objs.size] }
abbrev zT4 (h:Heap) (u v:Addr):Heap:=(zT3 h u v).push { cls:=.type "tuple",data:=.seq #[.none,.none] }
abbrev zT5 (h:Heap) (u v:Addr):Heap:=(zT4 h u v).push { cls:=.type "zip",data:=.fields #[.none,.bool false,.bool false,.ref (zT2 h u v).objs.size,.ref (zT3 h u v).objs.size] }
theorem zipT_new (u v:Addr) (xs ys:Array Value):Meets (Builtin.«zip.__new__» ⟨[.type "zip",.ref u,.ref v],[]⟩) (fun _ R s=>s.heap.IsTuple u xs∧s.heap.IsTuple v ys∧R (.ok (.ret (.ref (zT4 s.heap u v).objs.size))) { s with heap:=zT5 s.heap u v }) :=
 .of_wp fun prog w A R s h=>by
  obtain ⟨hp,g,d,tk,os⟩:=s; obtain ⟨t1,t2,q⟩:=h
  have sz:=sub_zip
  have L1:Heap.IsTuple (Shared.heap ⟨hp,g,d,tk,os⟩) u xs:=t1
  have L2:Heap.IsTuple (Shared.heap ⟨hp.push { cls:=.type "tuple_iterator",data:=.fields #[.ref u,.int 0 0] },g,d,tk,os⟩) v ys:=Heap.IsTuple.push t2 _
  wp_walk using wpAny_pyIter_tuple L1,wpAny_pyIter_tuple L2
  exact ⟨_,rfl,q⟩
theorem zipT_call {u v:Addr} {xs ys:Array Value} {Q:Value→Shared→Prop} (t1:s.heap.IsTuple u xs) (t2:s.heap.IsTuple v ys)
  (q:∀ g,IsZip g (s.heap.objs.size+4) (s.heap.objs.size+2) (s.heap.objs.size+3) .none→IsPair g (s.heap.objs.size+2) (.ref s.heap.objs.size) (.ref (s.heap.objs.size+1))→IsPair g (s.heap.objs.size+3) .none .none →
   g.IsTupleIter s.heap.objs.size u 0→g.IsTupleIter (s.heap.objs.size+1) v 0→(∀ c o,s.heap.get? c=some o→g.get? c=some o)→Q (.ref (s.heap.objs.size+4)) { s with heap:=g }) :
  wpAny (model prog w) A (call (.type "zip") [.ref u,.ref v]) Q E s:=by
 refine callType_new F.called_zip (by decide) (F.typeCall_zip_2 _ _) (F.newCall_zip_2 _ _) (fun obj=>F.args_object_init_3 obj _ _) F.entry_zip_new (zipT_new u v xs ys) ⟨t1,t2,?_⟩
 have y1:(zT1 s.heap u).objs.size=s.heap.objs.size+1:=Heap.size_push ..
 have y2:(zT2 s.heap u v).objs.size=s.heap.objs.size+2:=by rw [Heap.size_push,y1]
 have y3:(zT3 s.heap u v).objs.size=s.heap.objs.size+3:=by rw [Heap.size_push,y2]
 have y4:(zT4 s.heap u v).objs.size=s.heap.objs.size+4:=by rw [Heap.size_push,y3]
 have k5:(zT5 s.heap u v).get? (zT4 s.heap u v).objs.size=some _:=Heap.get?_push_size _ rfl
 have k4:(zT5 s.heap u v).get? (zT3 s.heap u v).objs.size=some _:=Heap.get?_push_of_some _ (Heap.get?_push_size _ rfl)
 have k3:(zT5 s.heap u v).get? (zT2 s.heap u v).objs.size=some _:=Heap.get?_push_of_some _ (Heap.get?_push_of_some _ (Heap.get?_push_size _ rfl))
 have k2:(zT5 s.heap u v).get? (zT1 s.heap u).objs.size=some _:=Heap.get?_push_of_some _ (Heap.get?_push_of_some _ (Heap.get?_push_of_some _ (Heap.get?_push_size _ rfl)))
 have k1:(zT5 s.heap u v).get? s.heap.objs.size=some _:=Heap.get?_push_of_some _ (Heap.get?_push_of_some _ (Heap.get?_push_of_some _ (Heap.get?_push_of_some _ (Heap.get?_push_size _ rfl))))
 show _∧_
 rw [y2,y3,y4] at k5
 rw [y1,y2] at k3
 rw [y3] at k4
 rw [y1] at k2
 refine ⟨by rw [y4]; exact ⟨_,k5,rfl⟩,?_⟩
 rw [y4]
 exact q _ k5 k3 k4 ⟨_,k1,rfl,rfl⟩ ⟨_,k2,rfl,rfl⟩ fun c o z=>Heap.get?_push_of_some _ (Heap.get?_push_of_some _ (Heap.get?_push_of_some _ (Heap.get?_push_of_some _ (Heap.get?_push_of_some _ z))))
end
section
variable {X:Cx} {elts:List Expr} {kt:Nat} {pt:Pos}
def iZipS (K:PySem.W.Frag) (ta:TA):TI:=fun σ H R=>ta σ H fun vs H1=>∃ a b,vs=[.ref a,.ref b]∧(((∃ xs,SqL K H1 a xs)∧(∃ ys,SqL K H1 b ys)∧R (Itz K a b) H1)∨((∃ xs,SqT K H1 a xs)∧(∃ ys,SqT K H1 b ys)∧R (Itzt K a b) H1))
theorem pi_zipS {a b:Expr} {ta:TA} {p pos:Pos} (hg:Gl X "zip") (hm:X.mg "zip"=none) (ha:PA X [a,b] ta) (hs:starEach [a,b] X.env=[(false,eval a X.env),(false,eval b X.env)]:=by rfl) (hs2:starEach [b] X.env=[(false,eval b X.env)]:=by rfl) :
  PI X (.Tuple elts kt pt) (.Call (.Name "zip" p) [a,b] [] pos) (iZipS X.K ta):=by
 intro pins s σ H R I h
 refine Call_ (ld_blt I hg hm (by rfl:bootBuiltins "zip"=some (.type "zip")) (PyProof.Rows.callWith_type1 (thn (ha pos pins s σ H _ I h) fun us s1 ⟨vs,H1,I1,r1,q1⟩=>?_) (by rw [hs,hs2]) (by rw [hs2]; rfl)))
 obtain ⟨a,b,e,q⟩:=q1
 subst e
 obtain ⟨u,v,rfl,ru,rv⟩:=r1.two
 cases (show u=Value.ref a from ru)
 cases (show v=Value.ref b from rv)
 rcases q with ⟨⟨xs,ha⟩,⟨ys,hb⟩,q⟩ | ⟨⟨xs,ha⟩,⟨ys,hb⟩,q⟩
 ·obtain ⟨its,_,p1,_⟩:=I1.list ha
  obtain ⟨jts,_,p2,_⟩:=I1.list hb
  have l1:a<s1.heap.objs.size:=let ⟨o,ho,_⟩:=p1.isList; Heap.lt_size ho
  have l2:b<s1.heap.objs.size:=let ⟨o,ho,_⟩:=p2.isList; Heap.lt_size ho
  refine call_zip_2 p1.isList p2.isList fun h' hz hTI hTO h1 h2 hsz hk=>wpAny_pyIter_zip (s:={ s1 with heap:=h' }) hz ?_
  refine ⟨s1.heap.objs.size+4,_,_,_,H1,rfl,I1.kept (t':=s1.toks) hk,turn_zip l1 l2,⟨hz,hTI,⟨_,_,hTO⟩,h1,h2⟩,fun c hc=>?_,q⟩
  have hle:s1.heap.objs.size≤c:=by
   simp only [List.mem_cons,List.not_mem_nil,or_false] at hc
   rcases hc with rfl | rfl | rfl | rfl | rfl
   ·exact Nat.le_add_right _ _
   ·exact Nat.le_add_right _ _
   ·exact Nat.le_add_right _ _
   ·exact Nat.le_refl _
   ·exact Nat.le_add_right _ _
  exact I1.fpOk hle (I1.hok.fresh hle)
 ·obtain ⟨its,_,p1,_⟩:=I1.tuple ha
  obtain ⟨jts,_,p2,_⟩:=I1.tuple hb
  have l1:a<s1.heap.objs.size:=let ⟨o,ho,_⟩:=istup p1; Heap.lt_size ho
  have l2:b<s1.heap.objs.size:=let ⟨o,ho,_⟩:=istup p2; Heap.lt_size ho
  refine zipT_call (istup p1) (istup p2) fun h' hz hTI hTO h1 h2 hk=>wpAny_pyIter_zip (s:={ s1 with heap:=h' }) hz ?_
  refine ⟨s1.heap.objs.size+4,_,_,_,H1,rfl,I1.kept (t':=s1.toks) hk,turn_zipT l1 l2,⟨hz,hTI,⟨_,_,hTO⟩,h1,h2⟩,fun c hc=>?_,q⟩
  have hle:s1.heap.objs.size≤c:=by
   simp only [List.mem_cons,List.not_mem_nil,or_false] at hc
   rcases hc with rfl | rfl | rfl | rfl | rfl
   ·exact Nat.le_add_right _ _
   ·exact Nat.le_add_right _ _
   ·exact Nat.le_add_right _ _
   ·exact Nat.le_refl _
   ·exact Nat.le_add_right _ _
  exact I1.fpOk hle (I1.hok.fresh hle)
end
theorem rd_izipS {K:PySem.W.Frag} {σ:St} {H:Hp} {ta:TA} {R:It→Hp→Prop} (h:ta σ H fun vs H1=>∃ a b,vs=[.ref a,.ref b]∧(((∃ xs,SqL K H1 a xs)∧(∃ ys,SqL K H1 b ys)∧R (Itz K a b) H1)∨((∃ xs,SqT K H1 a xs)∧(∃ ys,SqT K H1 b ys)∧R (Itzt K a b) H1))):iZipS K ta σ H R:=h
theorem compW_zipT {K:PySem.W.Frag} {σ:St} {H:Hp} {Q:VK} {te:TE} {l a b:Addr} {xs ys:List V} (F:Nat→V) (hx:H a=some (.tup xs)) (hy:H b=some (.tup ys)) (he:xs.length=ys.length) (hz:xs.length≤1000) (hl:H l=none)
  (step:∀ (i:Nat) x y H' (Q':VK),xs[i]?=some x→ys[i]?=some y→Same H H'→(∀ H5,Same H' H5→Q' (F i) H5)→te [some x,some y] H' Q')
  (fin:∀ H',Same H H'→H' l=some (.lst ((List.range xs.length).map F))→Q (.ref l) H'):CompW (Itzt K a b) (gTup K 2 (gCons (gName 0) (gCons (gName 1) gNil))) tTrue te [none,none] l σ H Q:=by
 refine ⟨xs.length,fun i zs σ' H'=>zs=(List.range i).map F∧(∃ o o',σ'=[o,o'])∧Same H H'∧H' l=some (.lst zs),⟨rfl,⟨none,none,rfl⟩,Same.new hl,upd_same⟩,?_,?_⟩
 ·rintro i zs σ' H' hi ⟨rfl,⟨o,o',rfl⟩,s,e⟩
  refine ⟨⟨xs,ys,xs[i],ys[i]'(by omega),SqT.of (s _ _ hx),SqT.of (s _ _ hy),by simp [hi],by simp⟩,fun v H2 z=>?_⟩
  obtain ⟨T,rfl,hT,z⟩:=z
  obtain ⟨x,y,ex,ey,rfl⟩:=z xs ys (SqT.of (s _ _ hx)) (SqT.of (s _ _ hy))
  have sT:=Same.new (o:=HO.tup [x,y]) hT
  refine rd_gtup upd_same rfl (rd_gcons (rd_name (rd_gcons (rd_name (rd_gnil (rd_true (iteT ?_)))))))
  refine step i x y _ _ ex ey (s.trans sT) fun H5 s5=>⟨s5 _ _ (sT _ _ e),?_,?_⟩
  ·rw [List.length_map,List.length_range]
   exact small1000 (by omega)
  ·refine ⟨?_,⟨_,_,rfl⟩,((s.trans sT).trans s5).later hl,upd_same⟩
   rw [List.range_succ,List.map_append]
   rfl
 ·rintro zs σ' H' ⟨rfl,_,s,e⟩
  exact ⟨⟨xs,ys,SqT.of (s _ _ hx),SqT.of (s _ _ hy),Nat.le_refl _⟩,fin H' s e⟩
end L2
set_option Elab.async false
set_option maxRecDepth 100000
namespace L2
open PySem PySem.Spec PyProof.Rows
def rInsert:V→List V→Hp→VK→Prop:=fun x vs H Q=>∃ l xs y,∃ k:Nat,x=.ref l∧vs=[.int (k:Int),y]∧H l=some (.lst xs)∧k≤xs.length∧xs.length≤1000∧Q .non (upd H l (.lst (xs.take k++y::xs.drop k)))
theorem ins_arr (its:List Value) (w:Value) (k:Nat) (h:k≤its.length):(its.toArray.extract 0 (min k its.toArray.size)).push w++its.toArray.extract (min k its.toArray.size)=(its.take k++w::its.drop k).toArray:=by
 rw [List.size_toArray,Nat.min_eq_left h]
 apply Array.ext'
 simp
 exact List.take_of_length_le (by rw [List.length_drop]; omega)
theorem mt_insert {X:Cx}:MtM X "list.insert" rInsert:=by
 intro pins s σ H x vs v us Q I rx rv h
 obtain ⟨l,xs,y,k,rfl,rfl,hH,hk,hz,q⟩:=h
 cases rx
 obtain ⟨u,w,rfl,ru,rw'⟩:=rv.two
 obtain ⟨tk,rfl⟩:=ru
 obtain ⟨z,its,n,r,hl,e⟩:=I.lstM hH
 obtain ⟨i,hi⟩:∃ i:Int,i=(k:Int):=⟨_,rfl⟩
 rw [← hi]
 have hf:¬ (!Builtin.List.listFitsIndex i)=true:=by
  have:=fitsIndex_both (k:=i) (by omega) (by omega)
  rw [this]; decide
 have hs:its.toArray.size≤sizeLine:=by rw [List.size_toArray]; omega
 have M:=PySem.AutoListH.list_insert_list_int_val_1 l its.toArray n i tk w hf hs
 have hA:=F.args_list_insert_3 (.ref l) (.int i tk) w
 refine call_meets F.slot_list_insert ⟨_,e,rfl⟩ F.entry_list_insert hA M ⟨e,?_⟩
 refine ⟨.non,_,I.lset (its':=its.take k++w::its.drop k) hH e ?_ ((r.take k).append (.cons rw' (r.drop k))) ?_,rfl,q⟩
 ·have ik:(if i<0 then (i+((its.toArray.size:Nat):Int)).toNat else min i.toNat its.toArray.size)=min k its.toArray.size:=by rw [if_neg (by omega),hi,Int.toNat_natCast]
  show ((its.toArray.extract 0 (if i<0 then (i+((its.toArray.size:Nat):Int)).toNat else min i.toNat its.toArray.size)).push w++its.toArray.extract (if i<0 then (i+((its.toArray.size:Nat):Int)).toNat else min i.toNat its.toArray.size))=_
  rw [ik]
  exact ins_arr its w k (by omega)
 ·rw [List.length_append,List.length_take,List.length_cons,List.length_drop]
  have:(1001:Nat)≤sizeLine:=by decide
  omega
theorem rd_insert {H:Hp} {Q:VK} {l:Addr} {xs:List V} {y:V} {k:Nat} (h:H l=some (.lst xs)) (hk:k≤xs.length) (hz:xs.length≤1000) (q:Q .non (upd H l (.lst (xs.take k++y::xs.drop k)))):rInsert (.ref l) [.int (k:Int),y] H Q :=
 ⟨l,xs,y,k,rfl,rfl,h,hk,hz,q⟩
theorem rd_popAt {H:Hp} {Q:VK} {l:Addr} {xs:List V} {y:V} {k:Nat} (h:H l=some (.lst xs)) (hy:xs[k]?=some y) (hz:xs.length≤1000) (q:Q y (upd H l (.lst (xs.eraseIdx k)))):rPopAt (.ref l) [.int (k:Int)] H Q:=by
 have hk:=(List.getElem?_eq_some_iff.mp hy).1
 exact ⟨l,xs,(k:Int),k,y,rfl,rfl,h,by omega,by omega,(ixN_seq (n:=xs.length) (i:=(k:Int)) (j:=k) (by unfold ixN; rw [if_pos (by omega),if_pos (by omega),Int.toNat_natCast])).1,hy,q⟩
end L2
set_option Elab.async false
set_option linter.all false
set_option maxRecDepth 100000
namespace L2
open PySem PySem.Spec PyProof.Rows
section
variable {K:PySem.W.Frag} {σ:St} {H:Hp} {Q:VK} {te:TE} {cap:List (Option Nat)} {l:Addr}
end
end L2
set_option Elab.async false
set_option linter.all false
set_option maxRecDepth 100000
namespace L2
open PySem PySem.Spec PyProof.Rows
def Ite (K:PySem.W.Frag) (a:Addr):It :=
  ⟨fun i H=>∃ xs x,SqL K H a xs∧xs[i]?=some x,
   fun i H v H'=>∃ T,v=.ref T∧H T=none∧∀ xs,SqL K H a xs→∃ x,xs[i]?=some x∧H'=upd H T (.tup [.int (i:Nat),x]),
   fun i H=>∃ xs,SqL K H a xs∧xs.length≤i⟩
theorem turn_enum {P:Program} {w:World} {K:PySem.W.Frag} {elts:List Expr} {kt:Nat} {pt:Pos} {a n:Addr} (ha:a<n) :
    Turn P w K (.Tuple elts kt pt) (Ite K a) [n+1,n] (n+1) (fun i h=>(∃ old,IsEnum h (n+1) n ((i:Nat):Int) old)∧h.IsListIter n a i) where
  mem:=by simp
  obj:=fun i h st c hc=>by
    obtain ⟨⟨old,z1⟩,⟨o4,e4,c4,d4⟩⟩:=st
    simp only [List.mem_cons,List.not_mem_nil,or_false] at hc
    rcases hc with rfl | rfl
    · exact ⟨_,z1,fun v z=>by cases z⟩
    · exact ⟨_,e4,fun v z=>by rw [d4] at z; cases z⟩
  keep:=fun i h h' st k=>by
    obtain ⟨⟨old,z1⟩,z4⟩:=st
    exact ⟨⟨old,k _ (by simp) _ z1⟩,z4.at fun o e=>k _ (by simp) o e⟩
  item:=by
    intro X hP hw hK hc i pins s σ H E I hf st hg
    subst hP hw hK
    obtain ⟨xs,x,hqa,hx⟩:=hg
    obtain ⟨its,rv,p,hz⟩:=I.list hqa
    obtain ⟨u,hu,ru⟩:=rv.get hx
    obtain ⟨⟨old,z1⟩,z4⟩:=st
    have ltz:n+1<s.heap.objs.size:=Heap.lt_size z1
    have nn:n+1≠n:=Nat.succ_ne_self n
    refine wpAny_pyNext_enum_item z1 z4 p.isList (x:=u) (by simpa using hu) nn fun h' a1 a2 a3 a4 hk=>?_
    refine ⟨_,rfl,wpAny_letOwnedTupleGo_enum (s:={ s with heap:=h',toks:=s.toks+1 }) a1 fun h2 b1 hs=>?_⟩
    have neT:∀ {c:Addr},c≤n+1→c≠s.heap.objs.size:=fun h=>Nat.ne_of_lt (Nat.lt_of_le_of_lt h ltz)
    have kk:∀ c o,c∉[n+1,n]→s.heap.get? c=some o→h2.get? c=some o:=fun c o hc e=>by
      simp only [List.mem_cons,List.not_mem_nil,or_false,not_or] at hc
      exact (hs.2 c hc.1).trans (hk c o hc.1 hc.2 e)
    obtain ⟨o4,e4,c4⟩:=a2
    have q4:h2.get? n=_:=(hs.2 _ (Ne.symm nn)).trans e4
    have qT:h2.get? s.heap.objs.size=_:=(hs.2 _ (Ne.symm (neT (Nat.le_refl _)))).trans a3
    have I1:Inv X pins σ (upd H s.heap.objs.size (.tup [.int (i:Nat),x])) { s with heap:=h2,toks:=s.toks+1 }:=I.turnedL (ch:=[n+1,n]) kk hf (fun c hc=>by
        simp only [List.mem_cons,List.not_mem_nil,or_false] at hc
        rcases hc with rfl | rfl
        · exact ⟨_,b1⟩
        · exact ⟨_,q4⟩) (Nat.le_refl _) ⟨by show 2≤sizeLine; decide,[.int (i:Nat) s.toks,u],.cons ⟨_,rfl⟩ (.cons ru .nil),_,qT,rfl,_,rfl⟩
    refine ⟨.ref s.heap.objs.size,_,I1,rfl,⟨_,rfl,I.hok.fresh (Nat.le_refl _),fun vs hv=>?_⟩,⟨⟨_,b1⟩,⟨_,q4,c4⟩⟩,fun c hc=>?_⟩
    · rw [I.list_inj hv hqa]
      exact ⟨x,hx,rfl⟩
    · have hle:c≤n+1:=by
        simp only [List.mem_cons,List.not_mem_nil,or_false] at hc
        rcases hc with rfl | rfl
        · exact Nat.le_refl _
        · exact Nat.le_add_right _ 1
      rw [upd_ne (neT hle)]
      exact (hf c hc).1
  done:=by
    intro X hP hw hK hc i pins s σ H E I hf st hg
    subst hP hw hK
    obtain ⟨xs,hqa,hl⟩:=hg
    obtain ⟨its,rv,p,hz⟩:=I.list hqa
    obtain ⟨⟨old,z1⟩,z4⟩:=st
    have l1:=rv.length
    refine wpAny_pyNext_enum_end (I.ok.hd hc) z1 z4 p.isList (by simp; omega) fun h' hk=>⟨rfl,?_⟩
    have kk:∀ c o,c∉[n+1,n]→s.heap.get? c=some o→h'.get? c=some o:=fun c o hc e=>by
      simp only [List.mem_cons,List.not_mem_nil,or_false,not_or] at hc
      exact hk c o hc.2 e
    have nit:∀ c u,H c=some u→c∉[n+1,n]:=fun c u e z=>by rw [(hf c z).1] at e; cases e
    refine I.step (g':=s.gens) (d':=s.drawn) (t':=s.toks) (ch:=[n+1,n]) (fun c hc=>⟨(hf c hc).2.2.2.1,(hf c hc).2.1,(hf c hc).2.2.2.2.1,(hf c hc).2.2.2.2.2⟩) (fun c o _ _ hc e _=>kk c o hc e) (fun c o _ _ hc e _=>⟨o.slots,kk c o hc e⟩) (fun _ _ _ _ n=>n)
      (fun c o hc e=>⟨o,kk c o hc e⟩) (fun _ _ e=>e) (fun _ _ _ e=>e) (fun _ ps e=>⟨#[],by rw [e]; simp⟩) (fun m hm=>?_) (fun c u e=>?_) I.bare
    · obtain ⟨ob,es,ep,ho,r⟩:=hm
      exact ⟨ob,es,ep,kk _ ob (fun z=>(hf _ z).2.1 rfl) ho,r⟩
    · refine (I.hok c u e).stay (fun d v hd q=>kk d v ?_ q) (fun _ e'=>e') fun _ _ e'=>e'
      rcases hd with z | z
      · rw [z]; exact nit c u e
      · exact nit d _ z
  self:=fun _ _ _ _ _ st h=>let ⟨⟨_,z⟩,_⟩:=st; wpAny_pyIter_enum z h
section
variable {X:Cx} {elts:List Expr} {kt:Nat} {pt:Pos}
def iEnum (K:PySem.W.Frag) (ta:TA):TI:=fun σ H R=>ta σ H fun vs H1=>∃ a,vs=[.ref a]∧(∃ xs,SqL K H1 a xs)∧R (Ite K a) H1
theorem pi_enum {a:Expr} {ta:TA} {p pos:Pos} (hg:Gl X "enumerate") (hm:X.mg "enumerate"=none) (ha:PA X [a] ta) (hs:starEach [a] X.env=[(false,eval a X.env)]:=by rfl) :
  PI X (.Tuple elts kt pt) (.Call (.Name "enumerate" p) [a] [] pos) (iEnum X.K ta):=by
 intro pins s σ H R I h
 refine Call_ (ld_blt I hg hm (by rfl:bootBuiltins "enumerate"=some (.type "enumerate")) (PyProof.Rows.callWith_type1 (thn (ha pos pins s σ H _ I h) fun us s1 ⟨vs,H1,I1,r1,q1⟩=>?_) hs rfl))
 obtain ⟨a,e,⟨xs,ha⟩,q⟩:=q1
 subst e
 obtain ⟨u,rfl,ru⟩:=r1.one
 cases (show u=Value.ref a from ru)
 obtain ⟨its,_,p1,_⟩:=I1.list ha
 have l1:a<s1.heap.objs.size:=let ⟨o,ho,_⟩:=p1.isList; Heap.lt_size ho
 refine call_enumerate_list p1.isList fun h' hz h1 hsz hk=>wpAny_pyIter_enum (s:={ s1 with heap:=h' }) hz ?_
 refine ⟨s1.heap.objs.size+1,_,_,_,H1,rfl,I1.kept (t':=s1.toks) hk,turn_enum l1,⟨⟨_,hz⟩,h1⟩,fun c hc=>?_,q⟩
 have hle:s1.heap.objs.size≤c:=by
  simp only [List.mem_cons,List.not_mem_nil,or_false] at hc
  rcases hc with rfl | rfl
  ·exact Nat.le_add_right _ _
  ·exact Nat.le_refl _
 exact I1.fpOk hle (I1.hok.fresh hle)
end
theorem rd_ienum {K:PySem.W.Frag} {ta:TA} {σ:St} {H:Hp} {R:It→Hp→Prop} (h:ta σ H fun vs H1=>∃ a,vs=[.ref a]∧(∃ xs,SqL K H1 a xs)∧R (Ite K a) H1):iEnum K ta σ H R:=h
theorem forW_enum {K:PySem.W.Frag} {σ:St} {H:Hp} {a:Addr} {xs:List V} {g:TG} {tb:TS} {D:Ends} (Pv:Nat→St→Hp→Prop) (h0:Pv 0 σ H) (hl:∀ i σ H,i≤xs.length→Pv i σ H→SqL K H a xs)
  (hs:∀ i x σ H T,xs[i]?=some x→Pv i σ H→H T=none→g (.ref T) σ (upd H T (.tup [.int (i:Nat),x])) fun σ2 H2=>tb { D with nx:=Pv (i+1),ct:=Pv (i+1),bk:=D.nx } σ2 H2) (hd:∀ σ H,Pv xs.length σ H→D.nx σ H):ForW (Ite K a) g tb D σ H:=by
 refine ⟨fun i m σ H=>i≤xs.length∧m=xs.length - i∧Pv i σ H,⟨_,Nat.zero_le _,rfl,h0⟩,fun i m σ H ⟨hi,hm,p⟩=>?_⟩
 by_cases h:i<xs.length
 ·refine .inr ⟨⟨xs,xs[i],hl i σ H hi p,by simp [h]⟩,Pv (i+1),fun σ' H' p'=>⟨xs.length - (i+1),by omega,by omega,rfl,p'⟩,fun x H' y=>?_⟩
  obtain ⟨T,rfl,hT,y⟩:=y
  obtain ⟨x,hx,rfl⟩:=y xs (hl i σ H hi p)
  exact hs i x σ H T hx p hT
 ·have e:i=xs.length:=by omega
  subst e
  exact .inl ⟨⟨xs,hl _ σ H hi p,Nat.le_refl _⟩,hd σ H p⟩
end L2
set_option Elab.async false
set_option maxHeartbeats 4000000
set_option linter.all false
open PySem PySem.Spec PyProof.Rows
namespace L2
structure ClsFn (K:PySem.W.Frag) (C:Addr) (m:Str) (f:Addr):Prop where
 ga:PySem.W.specialIn K (.ref C) "__getattribute__"=some (some (.builtin "type.__getattribute__"))
 rd:PySem.W.readsIn K C (.type "type")=true
 at_:PySem.W.findCls K (.ref C) (.type "type") m=some (.val (.ref f))
 kp:PySem.W.keepIn K (.ref f)=true
section
variable {X:Cx} {CX:CXT} {k:Nat} {f C:Addr} {fd:FuncData} {ps:List Str} {sp:Sp} {dvs:List V} {ds:List Value} {E:XK} {x m:Str} {p pos apos:Pos} {e o:Expr} {es:List Expr} {ta:TE} {t:TA}
theorem pe_callC {pl:Sem Bool} (hg:Gl X x) (hm:X.mg x=some (.ref C)) (c:ClsFn X.K C m f) (F:FnOk X.prog X.w X.K X.mg X.base CX k f fd ps sp) (hr:Room k X.A) (hb:Binds X.K fd ps ds) (hd:Vals dvs ds) (hx:Passes CX X E) (ha:PA X (e::es) t)
  (hdb:(x==("__debug__":Str))=false:=by decide)
  (hst:starEach (e::es) X.env=(false,eval e X.env)::starEach es X.env:=by rfl) (hpl:(backTo pos (starEach es X.env)).any (·.1)=false:=by rfl)
  (ht:eval (.Call (.Attribute (.Name x p) m apos) (e::es) [] pos) X.env=(do
   let ov ← eval (.Name x p) X.env
   standAt apos.atName
   let (f,first) ← holding [ov] (getMethod ov m pl)
   callWith pos f first (backTo pos (starEach (e::es) X.env)) (backToKw pos (keywordEach [] X.env))):=by rfl) :
  PE X (.Call (.Attribute (.Name x p) m apos) (e::es) [] pos) (tCall sp dvs E t):=by
 intro pins s σ H Q I h
 refine PySem.W.methodCall_KW (pl:=pl) (thn ((pe_glob (v:=.ref C) hg hm rfl hdb) pins s σ H (fun x H1=>x=.ref C∧H1=H) I ⟨rfl,rfl⟩) fun u s1 ⟨x,H1,I1,rx,ex,eh⟩=>?_) ht
 subst ex; subst eh
 obtain rfl:u=Value.ref C:=rx
 refine PySem.W.method_cls I1.kIn c.ga (PySem.W.cls_value I1.kIn c.rd c.at_ rfl ?_)
 have I2:=I1.tok (s1.toks+1)
 refine PySem.W.callWith_K (first:=[]) (h₀:=X.base) I.ok.mod.kin c.kp (thn (ha pos pins _ σ H1 _ I2 h) fun us s2 ⟨vs,H2,I3,r,q2⟩=>⟨I3.kIn,?_⟩) hst hpl
 exact run_fn (us:=us) (vs:=vs) F hr hb hd hx I3 r q2
end
end L2
set_option Elab.async false
set_option linter.all false
namespace L2
open PySem PySem.Spec PyProof.Rows
theorem cutC {X:Cx} {s:Stmt} {ss:List Stmt} {r:TS} {C:TS→Prop} (d:PS X s r) (k:∀ r',r'=r→∃ ts,PSs X ss ts∧C (tSeq r' ts)):∃ ts,PSs X (s::ss) ts∧C ts :=
 let ⟨_,h1,h2⟩:=k r rfl
 ⟨_,pss_cons d h1,h2⟩
theorem cutE {X:Cx} {s:Stmt} {r:TS} {C:TS→Prop} (d:PS X s r) (k:∀ r',r'=r→C r'):∃ ts,PSs X [s] ts∧C ts:=⟨_,pss_one d,k r rfl⟩
theorem rd_cut {r r':TS} {D:Ends} {σ:St} {H:Hp} (e:r'=r) (h:r D σ H):r' D σ H:=e ▸ h
theorem rd_seqA {t u:TS} {D:Ends} {σ:St} {H:Hp} (k:∀ u',u'=u→t { D with nx:=u' D } σ H):tSeq t u D σ H:=k u rfl
theorem len1 {us:List Value} (h:us.length=1):∃ a0,us=[a0]:=match us,h with | [a0],_=>⟨a0,rfl⟩
theorem len2 {us:List Value} (h:us.length=2):∃ a0 a1,us=[a0,a1]:=match us,h with | [a0,a1],_=>⟨a0,a1,rfl⟩
theorem len3 {us:List Value} (h:us.length=3):∃ a0 a1 a2,us=[a0,a1,a2]:=match us,h with | [a0,a1,a2],_=>⟨a0,a1,a2,rfl⟩
theorem len4 {us:List Value} (h:us.length=4):∃ a0 a1 a2 a3,us=[a0,a1,a2,a3]:=match us,h with | [a0,a1,a2,a3],_=>⟨a0,a1,a2,a3,rfl⟩
theorem len5 {us:List Value} (h:us.length=5):∃ a0 a1 a2 a3 a4,us=[a0,a1,a2,a3,a4]:=match us,h with | [a0,a1,a2,a3,a4],_=>⟨a0,a1,a2,a3,a4,rfl⟩
end L2
set_option Elab.async false
set_option linter.all false
set_option maxRecDepth 100000
set_option maxHeartbeats 4000000
namespace L2
open PySem PySem.Spec PyProof.Rows
section
variable {κ:Type} [DecidableEq κ]
def valV (kvs:List (κ×V)) (k:κ):Option V:=(kvs.find? fun kv=>decide (kv.1=k)).map (·.2)
def putK (kvs:List (κ×V)) (k:κ) (v:V):List (κ×V) :=
 if (kvs.any fun kv=>decide (kv.1=k))=true then kvs.map (fun kv=>if kv.1=k then (kv.1,v) else kv) else kvs++[(k,v)]
def dropK (kvs:List (κ×V)) (k:κ):List (κ×V):=kvs.filter fun kv=>decide (kv.1≠k)
theorem valV_pos {p:κ×V} {r:List (κ×V)} {k:κ} (e:p.1=k):valV (p::r) k=some p.2:=by simp [valV,List.find?_cons,e]
theorem valV_neg {p:κ×V} {r:List (κ×V)} {k:κ} (e:¬ p.1=k):valV (p::r) k=valV r k:=by simp [valV,List.find?_cons,e]
theorem valV_any (k:κ):∀ kvs:List (κ×V),(kvs.any fun kv=>decide (kv.1=k))=(valV kvs k).isSome
 | []=>rfl
 | p::r=>by
  rw [List.any_cons]
  by_cases e:p.1=k
  ·simp only [valV_pos e,decide_eq_true e,Bool.true_or,Option.isSome_some]
  ·rw [valV_neg e,decide_eq_false e,Bool.false_or]; exact valV_any k r
theorem length_putK (kvs:List (κ×V)) (k:κ) (v:V):(putK kvs k v).length≤kvs.length+1:=by
 unfold putK
 split
 ·rw [List.length_map]; omega
 ·rw [List.length_append,List.length_cons,List.length_nil]; omega
theorem putK_new {kvs:List (κ×V)} {k:κ} (v:V) (h:valV kvs k=none):putK kvs k v=kvs++[(k,v)]:=by
 unfold putK
 rw [valV_any,h]
 exact if_neg (by decide)
theorem RelO.isSome_eq {o:Option V} {u:Option Value} (r:RelO o u):o.isSome=u.isSome:=by
 cases o with
 | none=>cases u with
  | none => rfl
  | some _ => exact (show False from r).elim
 | some _=>cases u with
  | none => exact (show False from r).elim
  | some _ => rfl
theorem KV.val {kvs:List (κ×V)} {vs:List (κ×Value)} (r:KV kvs vs) (k:κ):RelO (valV kvs k) (valueAt vs k):=by
 unfold KV at r
 induction r with
 | nil=>exact True.intro
 | @cons p q ps qs h t ih =>
  obtain ⟨h1,h2⟩:=h
  by_cases e:p.1=k
  ·have e':q.1=k:=h1.symm.trans e
   have b:valueAt (q::qs) k=some q.2:=by simp [valueAt,List.find?_cons,e']
   rw [valV_pos e,b]; exact h2
  ·have e':¬ q.1=k:=fun z=>e (h1.trans z)
   have b:valueAt (q::qs) k=valueAt qs k:=by simp [valueAt,List.find?_cons,e']
   rw [valV_neg e,b]; exact ih
theorem KV.any {kvs:List (κ×V)} {vs:List (κ×Value)} (r:KV kvs vs) (k:κ):(kvs.any fun kv=>decide (kv.1=k))=vs.any fun kv=>decide (kv.1=k):=by
 unfold KV at r
 induction r with
 | nil=>rfl
 | cons h t ih=>rw [List.any_cons,List.any_cons,ih,h.1]
theorem KV.repl {kvs:List (κ×V)} {vs:List (κ×Value)} (r:KV kvs vs) (k:κ) {y:V} {u:Value} (ry:RelV y u) :
  KV (kvs.map fun kv=>if kv.1=k then (kv.1,y) else kv) (vs.map fun kv=>if kv.1=k then (kv.1,u) else kv):=by
 unfold KV at r ⊢
 induction r with
 | nil=>exact .nil
 | @cons p q ps qs h t ih =>
  rw [List.map_cons,List.map_cons]
  refine .cons ?_ ih
  obtain ⟨h1,h2⟩:=h
  by_cases e:p.1=k
  ·rw [if_pos e,if_pos (h1.symm.trans e)]; exact ⟨h1,ry⟩
  ·rw [if_neg e,if_neg (fun z=>e (h1.trans z))]; exact ⟨h1,h2⟩
theorem KV.put {kvs:List (κ×V)} {vs:List (κ×Value)} (r:KV kvs vs) (k:κ) {y:V} {u:Value} (ry:RelV y u):KV (putK kvs k y) (stored vs k u):=by
 unfold putK stored
 rw [r.any k]
 by_cases e:(vs.any fun kv=>decide (kv.1=k))=true
 ·rw [if_pos e,if_pos e]; exact r.repl k ry
 ·rw [if_neg e,if_neg e]; exact Paired.snoc r ⟨rfl,ry⟩
theorem KV.drop {kvs:List (κ×V)} {vs:List (κ×Value)} (r:KV kvs vs) (k:κ):KV (dropK kvs k) (without vs k):=by
 unfold KV at r ⊢
 unfold dropK without
 induction r with
 | nil=>exact .nil
 | @cons p q ps qs h t ih =>
  obtain ⟨h1,h2⟩:=h
  rw [List.filter_cons,List.filter_cons]
  by_cases e:p.1=k
  ·have a:¬ decide (p.1≠k)=true:=by simp [e]
   have b:¬ decide (q.1≠k)=true:=by simp [h1.symm.trans e]
   rw [if_neg a,if_neg b]; exact ih
  ·have e':¬ q.1=k:=fun z=>e (h1.trans z)
   have a:decide (p.1≠k)=true:=by simp [e]
   have b:decide (q.1≠k)=true:=by simp [e']
   rw [if_pos a,if_pos b]; exact .cons ⟨h1,h2⟩ ih
theorem KV.length {kvs:List (κ×V)} {vs:List (κ×Value)} (r:KV kvs vs):kvs.length=vs.length:=Paired.length r
theorem dropK_le (kvs:List (κ×V)) (k:κ):(dropK kvs k).length≤kvs.length:=List.length_filter_le _ _
end
theorem kV_is {P:Program} {w:World} {k:Key} {u:Value} (r:RelV (kV k) u):(mixKind P w).is k u=true:=by
 cases k with
 | inl i=>obtain ⟨t,e⟩:=(show ∃ t,u=Value.int i t from r); subst e; exact mixKind_int P w i t
 | inr x=>obtain ⟨t,e⟩:=(show ∃ t,u=Value.str x t from r); subst e; exact mixKind_str P w x t
theorem items_are {P:Program} {w:World}:∀ {ks:List Key} {us:List Value},Vals (ks.map kV) us→ItemsAre (mixKind P w) ks us
 | [],_,r=>by rw [List.map_nil] at r; cases r; exact .nil
 | k::ks,_,r=>by
  rw [List.map_cons] at r
  cases r with
  | cons h t => exact .cons (kV_is h) (items_are t)
abbrev KT (H:Hp):List (List Key×V)→List (List Key×Addr×Value)→Prop:=Paired fun p q=>p.1=q.1∧H q.2.1=some (.tup (p.1.map kV))∧RelV p.2 q.2.2
theorem KT.val {H:Hp} {kvs:List (List Key×V)} {xs:List (List Key×Addr×Value)} (r:KT H kvs xs) (k:List Key):RelO (valV kvs k) ((atKey xs k).map (·.2)):=by
 induction r with
 | nil=>exact True.intro
 | @cons p q ps qs h t ih =>
  obtain ⟨h1,_,h2⟩:=h
  by_cases e:p.1=k
  ·have e':q.1=k:=h1.symm.trans e
   have b:atKey (q::qs) k=some q.2:=by simp [atKey,List.find?_cons,e']
   rw [valV_pos e,b]; exact h2
  ·have e':¬ q.1=k:=fun z=>e (h1.trans z)
   have b:atKey (q::qs) k=atKey qs k:=by simp [atKey,List.find?_cons,e']
   rw [valV_neg e,b]; exact ih
theorem KT.repl {H:Hp} {kvs:List (List Key×V)} {xs:List (List Key×Addr×Value)} (r:KT H kvs xs) (k:List Key) {y:V} {u:Value} (ry:RelV y u) :
  KT H (kvs.map fun kv=>if kv.1=k then (kv.1,y) else kv) (xs.map (putAt k u)):=by
 induction r with
 | nil=>exact .nil
 | @cons p q ps qs h t ih =>
  rw [List.map_cons,List.map_cons]
  refine .cons ?_ ih
  obtain ⟨h1,h2,h3⟩:=h
  unfold putAt
  by_cases e:p.1=k
  ·rw [if_pos e,if_pos (h1.symm.trans e)]; exact ⟨h1,h2,ry⟩
  ·rw [if_neg e,if_neg (fun z=>e (h1.trans z))]; exact ⟨h1,h2,h3⟩
theorem KT.put {H:Hp} {kvs:List (List Key×V)} {xs:List (List Key×Addr×Value)} (r:KT H kvs xs) (k:List Key) {b:Addr} {y:V} {u:Value} (hb:H b=some (.tup (k.map kV))) (ry:RelV y u) :
  KT H (putK kvs k y) (storedH xs k b u):=by
 have e:(kvs.any fun kv=>decide (kv.1=k))=(atKey xs k).isSome:=by
  rw [valV_any,(r.val k).isSome_eq,Option.isSome_map]
 unfold putK storedH
 rw [e]
 by_cases q:(atKey xs k).isSome=true
 ·rw [if_pos q,if_pos q]; exact r.repl k ry
 ·rw [if_neg q,if_neg q]; exact Paired.snoc r ⟨rfl,hb,ry⟩
theorem KT.keeps {H H':Hp} {kvs:List (List Key×V)} {xs:List (List Key×Addr×Value)} (r:KT H kvs xs) (ht:∀ b ys,H b=some (.tup ys)→H' b=some (.tup ys)):KT H' kvs xs :=
 Paired.mapP r fun _ _ z=>⟨z.1,ht _ _ z.2.1,z.2.2⟩
section
variable {P:Program} {w:World} {H:Hp} {h:Heap} {a:Addr}
theorem rd_of {u:HO} (ok:HOk P w H h) (e:Rd H a u):ObjOk P w H h a u:=e.ok ok
theorem dk_rd {kvs:List (Key×V)} (ok:HOk P w H h) (e:Rd H a (.dK kvs)):kvs.length≤sizeLine∧(a==sysModules)=false∧∃ vs,KV kvs vs∧h.DictOf (mixKind P w) a vs :=
 show ObjOk P w H h a (.dK kvs) from rd_of ok e
theorem dk_of {kvs:List (Key×V)} (ok:HOk P w H h) (e:H a=some (.dK kvs)):kvs.length≤sizeLine∧(a==sysModules)=false∧∃ vs,KV kvs vs∧h.DictOf (mixKind P w) a vs:=dk_rd ok (.inl e)
theorem key_of {ks:List Key} (ok:HOk P w H h) (e:H a=some (.tup (ks.map kV))):(tupleKind (mixKind P w)).is h ks a:=by
 obtain ⟨_,its,r,o,h1,h2,n,h3⟩:=(show ObjOk P w H h a (.tup (ks.map kV)) from ok a _ e)
 exact ⟨o,its.toArray,n,h1,h2,h3,by simpa using items_are r⟩
theorem dt_rd {kvs:List (List Key×V)} (ok:HOk P w H h) (e:Rd H a (.dT kvs)):kvs.length≤sizeLine∧(a==sysModules)=false ∧
  ∃ xs,KT H kvs xs∧h.DictOfH (tupleKind (mixKind P w)) a xs:=by
 obtain ⟨z,y,xs,r,o,es,ep,h1,h2,h3,h4,h5⟩:=(show ObjOk P w H h a (.dT kvs) from rd_of ok e)
 refine ⟨z,y,xs,r,o,es,ep,h1,h2,h3,h4,fun x hx=>?_,h5⟩
 have all:∀ {l:List (List Key×V)} {m:List (List Key×Addr×Value)},KT H l m→∀ x∈m,(tupleKind (mixKind P w)).is h x.1 x.2.1:=by
  intro l m q
  induction q with
  | nil => intro x hx; exact nomatch hx
  | @cons p q ps qs hq t ih =>
   intro x hx
   rcases List.mem_cons.mp hx with e | hx
   ·subst e
    exact key_of ok (by rw [← hq.1]; exact hq.2.1)
   ·exact ih x hx
 exact all r x hx
theorem dt_of {kvs:List (List Key×V)} (ok:HOk P w H h) (e:H a=some (.dT kvs)):kvs.length≤sizeLine∧(a==sysModules)=false ∧
  ∃ xs,KT H kvs xs∧h.DictOfH (tupleKind (mixKind P w)) a xs:=dt_rd ok (.inl e)
end
def DGet (H:Hp) (a:Addr) (y:V) (r:Option V):Prop :=
 (∃ kvs k,Rd H a (.dK kvs)∧y=kV k∧r=valV kvs k)∨∃ kvs k b,Rd H a (.dT kvs)∧y=.ref b∧H b=some (.tup (k.map kV))∧r=valV kvs k
def DPut (H:Hp) (a:Addr) (y v:V) (H':Hp):Prop :=
 (∃ kvs k,H a=some (.dK kvs)∧y=kV k∧kvs.length<sizeLine∧H'=upd H a (.dK (putK kvs k v))) ∨
 ∃ kvs k b,H a=some (.dT kvs)∧y=.ref b∧H b=some (.tup (k.map kV))∧kvs.length<sizeLine∧H'=upd H a (.dT (putK kvs k v))
theorem DGet.k {H:Hp} {a:Addr} {kvs:List (Key×V)} {k:Key} (e:H a=some (.dK kvs)):DGet H a (kV k) (valV kvs k):=.inl ⟨kvs,k,.inl e,rfl,rfl⟩
theorem DPut.k {H:Hp} {a:Addr} {kvs:List (Key×V)} {k:Key} {v:V} (e:H a=some (.dK kvs)) (hl:kvs.length<sizeLine):DPut H a (kV k) v (upd H a (.dK (putK kvs k v))):=.inl ⟨kvs,k,e,rfl,hl,rfl⟩
section
variable {X:Cx} {pins:List (Addr×Obj)} {σ:St} {H:Hp} {s:Shared} {a:Addr} {y v:V} {u r:Value} {o:Option V} {A:Around} {E:Value→Shared→Prop}
theorem Inv.big (I:Inv X pins σ H s):sysModules<s.heap.objs.size:=by
 have h:mainGlobals<s.heap.objs.size:=(I.mod.glob.keeps I.bk).lt
 exact Nat.lt_trans (by decide) h
theorem d_getItem {Q:Value→Shared→Prop} (hu:A.units+1<cLine) (I:Inv X pins σ H s) (g:DGet H a y (some v)) (ry:RelV y u) (h:∀ w' s',Inv X pins σ H s'→RelV v w'→Q w' s') :
  wpAny (model X.prog X.w) A (getItem (.ref a) u) Q E s:=by
 rcases g with ⟨kvs,k,e,ey,l⟩ | ⟨kvs,k,b,e,ey,eb,l⟩
 ·subst ey
  obtain ⟨z,hd,vs,rel,dd⟩:=dk_rd I.hok e
  obtain ⟨w',hw,rw'⟩:=RelO.some_of (v:=v) (o:=valueAt vs k) (by rw [l]; exact rel.val k)
  exact wpAny_getItem_of (kV_is ry) dd.mapOf hw (h w' _ (I.tok _) rw')
 ·subst ey
  cases (show u=Value.ref b from ry)
  obtain ⟨z,hd,xs,rel,dd⟩:=dt_rd I.hok e
  obtain ⟨w',hw,rw'⟩:=RelO.some_of (v:=v) (o:=(atKey xs k).map (·.2)) (by rw [l]; exact rel.val k)
  obtain ⟨p,hp,hp2⟩:=Option.map_eq_some_iff.mp hw
  refine wpAny_getItem_heap (tupleKind_room_in1 hu) (key_of I.hok eb) dd hp ?_
  rw [hp2]
  exact h w' _ (I.tok _) rw'
theorem d_in {Q:Value→Shared→Prop} (hu:A.units+1<cLine) (I:Inv X pins σ H s) (g:DGet H a y o) (ry:RelV y u) (h:∀ s',Inv X pins σ H s'→Q (.bool o.isSome) s') :
  wpAny (model X.prog X.w) A (compareOp .In u (.ref a)) Q E s:=by
 rcases g with ⟨kvs,k,e,ey,l⟩ | ⟨kvs,k,b,e,ey,eb,l⟩
 ·subst ey
  obtain ⟨z,hd,vs,rel,dd⟩:=dk_rd I.hok e
  refine wpAny_in_of (kV_is ry) hd dd.mapOf ?_
  rw [← (rel.val k).isSome_eq,← l]
  exact h _ (I.tok _)
 ·subst ey
  cases (show u=Value.ref b from ry)
  obtain ⟨z,hd,xs,rel,dd⟩:=dt_rd I.hok e
  refine wpAny_in_heap (tupleKind_room_in1 hu) (key_of I.hok eb) hd dd ?_
  have q:=(rel.val k).isSome_eq
  rw [Option.isSome_map] at q
  rw [← q,← l]
  exact h _ (I.tok _)
theorem d_notIn {Q:Value→Shared→Prop} (hu:A.units+1<cLine) (I:Inv X pins σ H s) (g:DGet H a y o) (ry:RelV y u) (h:∀ s',Inv X pins σ H s'→Q (.bool (!o.isSome)) s') :
  wpAny (model X.prog X.w) A (compareOp .NotIn u (.ref a)) Q E s:=by
 rcases g with ⟨kvs,k,e,ey,l⟩ | ⟨kvs,k,b,e,ey,eb,l⟩
 ·subst ey
  obtain ⟨z,hd,vs,rel,dd⟩:=dk_rd I.hok e
  refine wpAny_notIn_of (kV_is ry) hd dd.mapOf ?_
  rw [← (rel.val k).isSome_eq,← l]
  exact h _ (I.tok _)
 ·subst ey
  cases (show u=Value.ref b from ry)
  obtain ⟨z,hd,xs,rel,dd⟩:=dt_rd I.hok e
  refine wpAny_notIn_heap (tupleKind_room_in1 hu) (key_of I.hok eb) hd dd ?_
  have q:=(rel.val k).isSome_eq
  rw [Option.isSome_map] at q
  rw [← q,← l]
  exact h _ (I.tok _)
theorem d_write {h':Heap} {t':Nat} {ob:HO} (I:Inv X pins σ H s) (mu:Mut (H a)) (hs:Heap.SameBut a s.heap h') (he:∃ q,h'.get? a=some q) (new:ObjOk X.prog X.w (upd H a ob) h' a ob) :
  Inv X pins σ (upd H a ob) { s with heap:=h',toks:=t' } :=
 I.write (x:=a) (e:=a) mu (.inl rfl) (fun b q hb z=>(hs.2 b hb).trans z) he new
theorem dk_new {P:Program} {w:World} {H':Hp} {h':Heap} {kvs:List (Key×V)} {vs:List (Key×Value)} (z:kvs.length≤sizeLine) (hd:(a==sysModules)=false) (rel:KV kvs vs) (dd:h'.DictOf (mixKind P w) a vs) :
  ObjOk P w H' h' a (.dK kvs):=⟨z,hd,vs,rel,dd⟩
theorem d_setItem {H':Hp} {Q:Unit→Shared→Prop} (hu:A.units+1<cLine) (I:Inv X pins σ H s) (g:DPut H a y v H') (ry:RelV y u) (rv:RelV v r) (h:∀ s',Inv X pins σ H' s'→Q () s') :
  wpAny (model X.prog X.w) A (setItem (.ref a) u r) Q E s:=by
 rcases g with ⟨kvs,k,e,ey,l,eH⟩ | ⟨kvs,k,b,e,ey,eb,l,eH⟩
 ·subst ey eH
  obtain ⟨z,hd,vs,rel,dd⟩:=dk_of I.hok e
  have hz:vs.length≤sizeLine:=by rw [← rel.length]; exact z
  have hl:(putK kvs k v).length≤sizeLine:=by have:=length_putK kvs k v; omega
  refine wpAny_setItem_pairs (hsz:=hz) (kV_is ry) dd fun h' dd' hs=>h _ ?_
  have he:∃ q,h'.get? a=some q:=let ⟨q,_,_,hq,_⟩:=dd'; ⟨q,hq⟩
  exact d_write I (by rw [e]; exact True.intro) hs he (dk_new hl hd (rel.put k rv) dd')
 ·subst ey eH
  cases (show u=Value.ref b from ry)
  obtain ⟨z,hd,xs,rel,dd⟩:=dt_of I.hok e
  have hz:xs.length≤sizeLine:=by rw [← Paired.length rel]; exact z
  have hl:(putK kvs k v).length≤sizeLine:=by have:=length_putK kvs k v; omega
  refine wpAny_setItem_heap (hsz:=hz) (tupleKind_room_in1 hu) (key_of I.hok eb) dd fun h' dd' hs=>h _ ?_
  obtain ⟨q,es,ep,hq,h2,h3,h4,_,h5⟩:=dd'
  refine d_write I (by rw [e]; exact True.intro) hs ⟨q,hq⟩ ⟨hl,hd,_,(rel.put k eb rv).keeps fun c ys ec=>?_,q,es,ep,hq,h2,h3,h4,h5⟩
  rw [upd_ne (ne_of ec e (fun z=>nomatch z))]
  exact ec
end
section
variable {X:Cx} {pins:List (Addr×Obj)} {σ:St} {H:Hp} {s:Shared} {a:Addr} {kvs:List (Key×V)} {k:Key} {u:Value} {A:Around} {E:Value→Shared→Prop}
theorem d_pop {v:V} {more:List Value} {Q:Value→Shared→Prop} (I:Inv X pins σ H s) (e:H a=some (.dK kvs)) (ry:RelV (kV k) u) (l:valV kvs k=some v) (hm:more=[]∨∃ x,more=[x])
  (h:∀ w' s',Inv X pins σ (upd H a (.dK (dropK kvs k))) s'→RelV v w'→Q w' s'):wpAny (model X.prog X.w) A (call (.builtin "dict.pop") (.ref a::u::more)) Q E s:=by
 obtain ⟨z,hd,vs,rel,dd⟩:=dk_of I.hok e
 obtain ⟨w',hw,rw'⟩:=RelO.some_of (v:=v) (o:=valueAt vs k) (by rw [← l]; exact rel.val k)
 have hp:(keyPart u).isSome=true:=by
  cases k with
  | inl i => obtain ⟨t, q⟩ := (show ∃ t, u = Value.int i t from ry); subst q; rfl
  | inr x => obtain ⟨t, q⟩ := (show ∃ t, u = Value.str x t from ry); subst q; rfl
 have ha:argsOk "dict.pop" ⟨.ref a::u::more,[]⟩:=by
  rcases hm with q | ⟨x,q⟩
  ·subst q; exact PySem.F.args_dict_pop_2 _ _
  ·subst q; exact PySem.F.args_dict_pop_3 _ _ _
 refine call_meetsIn PySem.F.slot_dict_pop dd.typeIs PySem.F.entry_dict_pop ha (meets_dict_pop_there (mixKind X.prog X.w) a (kV_is ry) more hm hp)
  ⟨vs,w',dd,by rw [← rel.length]; exact z,hw,fun h' dd' hs=>h w' _ ?_ rw'⟩
 have he:∃ q,h'.get? a=some q:=let ⟨q,_,_,hq,_⟩:=dd'; ⟨q,hq⟩
 exact d_write I (by rw [e]; exact True.intro) hs he (dk_new (Nat.le_trans (dropK_le kvs k) z) hd (rel.drop k) dd')
end
def NoSl (i:Expr):Prop:=∀ ov iv,subscripted i false ov iv=operate [ov,iv] (getItem ov iv)
theorem subD_of {prog:Program} {w:World} {A:Around} {E:Value→Shared→Prop} {s:Shared} {env:Env} {value slice:Expr} {pos:Pos} {T id:String} {Q:Value→Shared→Prop}
  (hl:typeLookup (.type T) "__getitem__"=pure (some (.builtin id))) (hs:NoSl slice)
  (h:wpAny (model prog w) A (eval value env) (fun o s₁=>wpAny (model prog w) A (eval slice env) (fun i s₂=>s₂.TypeIs o T∧wpAny (model prog w) A (getItem o i) Q E s₂) E s₁) E s) :
  wpAny (model prog w) A (eval (.Subscript value slice pos) env) Q E s:=by
 refine Subscript_ (wpAny_mono h (fun o s₁ h₁=>wpAny_mono h₁ (fun i s₂ h₂=>?_) fun _ _ x=>x) fun _ _ x=>x)
 obtain ⟨hT,h₂⟩:=h₂
 unfold subscriptTail
 refine wpAny_bind ?_
 rw [getitemInPython_of_ne hT.not_modules]
 refine wpAny_bind (wpAny_specialOf hT hl ?_)
 have fin:wpAny (model prog w) A (subscripted slice false o i) (fun r s₃=>wpAny (model prog w) A (letTemporaryGo value o r >>= fun _=>pure r) Q E s₃) E s₂:=by
  rw [hs o i]
  exact wpAny_operating (wpAny_mono h₂ (fun r s₃ h₃=>wpAny_bind (wpAny_letTemporaryGo (wpAny_pure h₃))) fun _ _ x=>x)
 first
  | exact wpAny_pure (wpAny_bind fin)
  | exact wpAny_bind (wpAny_pure (wpAny_bind fin))
  | exact wpAny_bind fin
theorem dict_typeIs {X:Cx} {pins:List (Addr×Obj)} {σ:St} {H:Hp} {s:Shared} {a:Addr} {y:V} {o:Option V} (I:Inv X pins σ H s) (g:DGet H a y o):s.TypeIs (.ref a) "dict":=by
 rcases g with ⟨kvs,k,e,_,_⟩ | ⟨kvs,k,b,e,_,_,_⟩
 ·obtain ⟨_,_,vs,_,dd⟩:=dk_rd I.hok e
  exact dd.typeIs
 ·obtain ⟨_,_,xs,_,dd⟩:=dt_rd I.hok e
  exact dd.typeIs
def tDGet (td ty:TE):TE:=fun σ H Q=>td σ H fun x H1=>ty σ H1 fun y H2=>∃ a v,x=.ref a∧DGet H2 a y (some v)∧Q v H2
def tDIn (ty td:TE):TE:=fun σ H Q=>ty σ H fun y H1=>td σ H1 fun x H2=>∃ a o,x=.ref a∧DGet H2 a y o∧Q (.bl o.isSome) H2
def tDNotIn (ty td:TE):TE:=fun σ H Q=>ty σ H fun y H1=>td σ H1 fun x H2=>∃ a o,x=.ref a∧DGet H2 a y o∧Q (.bl (!o.isSome)) H2
def sDPut (td ty tv:TE):TS:=fun D σ H=>tv σ H fun v H1=>td σ H1 fun x H2=>ty σ H2 fun y H3=>∃ a H4,x=.ref a∧DPut H3 a y v H4∧D.nx σ H4
section
variable {X:Cx} {o i e value:Expr} {pos pos' tpos:Pos} {td ty tv:TE}
theorem pe_dget (hu:X.A.units+1<cLine) (ho:PE X o td) (hi:PE X i ty) (hs:NoSl i):PE X (.Subscript o i pos) (tDGet td ty):=by
 intro pins s σ H Q I h
 refine subD_of PySem.F.slot_dict_getitem.lookup hs (thn (ho pins s σ H _ I h) fun u s1 ⟨x,H1,I1,rx,q1⟩=>thn (hi pins s1 σ H1 _ I1 q1) fun iv s2 ⟨y,H2,I2,ry,a,v,ex,g,q2⟩=>?_)
 subst ex
 obtain rfl:u=Value.ref a:=rx
 exact ⟨dict_typeIs I2 g,d_getItem hu I2 g ry fun w' s3 I3 rw'=>⟨v,H2,I3,rw',q2⟩⟩
theorem pc_din (hu:X.A.units+1<cLine) (hi:PE X i ty) (ho:PE X o td):PC X .In i o (tDIn ty td):=by
 intro pins s σ H Q I h
 refine thn (hi pins s σ H _ I h) fun iv s1 ⟨y,H1,I1,ry,q1⟩=>thn (ho pins s1 σ H1 _ I1 q1) fun u s2 ⟨x,H2,I2,rx,a,ov,ex,g,q2⟩=>?_
 subst ex
 obtain rfl:u=Value.ref a:=rx
 exact d_in hu I2 g ry fun s3 I3=>⟨.bl ov.isSome,H2,I3,rfl,q2⟩
theorem pc_dnotin (hu:X.A.units+1<cLine) (hi:PE X i ty) (ho:PE X o td):PC X .NotIn i o (tDNotIn ty td):=by
 intro pins s σ H Q I h
 refine thn (hi pins s σ H _ I h) fun iv s1 ⟨y,H1,I1,ry,q1⟩=>thn (ho pins s1 σ H1 _ I1 q1) fun u s2 ⟨x,H2,I2,rx,a,ov,ex,g,q2⟩=>?_
 subst ex
 obtain rfl:u=Value.ref a:=rx
 exact d_notIn hu I2 g ry fun s3 I3=>⟨.bl (!ov.isSome),H2,I3,rfl,q2⟩
theorem ps_dput (hu:X.A.units+1<cLine) (ho:PE X o td) (hi:PE X i ty) (hv:PE X value tv) (hs:swapsWith value (some (.Subscript o i pos')) pos.line X.env=pure false) :
  PS X (.Assign [.Subscript o i pos'] value pos) (sDPut td ty tv):=by
 intro pins s σ H D I h
 refine wpAny_Assign_Subscript (thn (hv pins s σ H _ I h) fun r s1 ⟨v,H1,I1,rv,q1⟩=>thn (ho pins s1 σ H1 _ I1 q1) fun u s2 ⟨x,H2,I2,rx,q2⟩=>thn (hi pins s2 σ H2 _ I2 q2) fun iv s3 ⟨y,H3,I3,ry,a,H4,ex,g,q3⟩=>?_) hs
 subst ex
 obtain rfl:u=Value.ref a:=rx
 exact d_setItem hu I3 g ry rv fun s4 I4=>⟨σ,H4,I4,q3⟩
end
theorem dk_empty {P:Program} {w:World} {H:Hp} (h:Heap) (hb:sysModules<h.objs.size):ObjOk P w H (h.push { cls:=.type "dict",data:=.dict #[] }) h.objs.size (.dK []) :=
 ⟨Nat.zero_le _,beq_eq_false_iff_ne.mpr (Ne.symm (Nat.ne_of_lt hb)),[],.nil,Heap.DictOf.new h⟩
def tDNewK:TE:=fun _ H Q=>∀ p,H p=none→Q (.ref p) (upd H p (.dK []))
section
variable {X:Cx} {pos:Pos}
theorem pe_dnewK:PE X (.Dict [] [] pos) tDNewK:=fun pins s σ H Q I h =>
 wpAny_Dict_empty ⟨.ref s.heap.objs.size,_,I.laid (a:=s.heap.objs.size) (o:=.dK []) (t':=s.toks) (fun _ _ q=>Heap.get?_push_of_some _ q) (Nat.le_refl _) (dk_empty s.heap I.big),rfl,h _ (I.hok.fresh (Nat.le_refl _))⟩
end
def tPairs:List (TE×TE)→St→Hp→(List (V×V)→Hp→Prop)→Prop
 | [],_,H,Q=>Q [] H
 | (tk,tv)::r,σ,H,Q=>tk σ H fun x H1=>tv σ H1 fun y H2=>tPairs r σ H2 fun ps H3=>Q ((x,y)::ps) H3
abbrev VV:List (V×V)→List (Value×Value)→Prop:=Paired fun p q=>RelV p.1 q.1∧RelV p.2 q.2
def PPs (X:Cx) (pos:Pos) (keys:List (Option Expr)) (values:List Expr) (trs:List (TE×TE)):Prop :=
 ∀ (pins:List (Addr×Obj)) (s:Shared) (σ:St) (H:Hp) (Q:List (V×V)→Hp→Prop),Inv X pins σ H s→tPairs trs σ H Q →
  wpAny (model X.prog X.w) X.A (evalPairs (pairTrees keys values X.env pos)) (fun vs s'=>∃ ps H',Inv X pins σ H' s'∧VV ps vs∧Q ps H') X.xe s
theorem pps_nil {X:Cx} {pos:Pos}:PPs X pos [] [] []:=fun pins s σ H Q I h=>pairTrees_nil_walk ⟨[],H,I,.nil,h⟩
theorem pps_cons {X:Cx} {pos:Pos} {k v:Expr} {ks:List (Option Expr)} {vs:List Expr} {tk tv:TE} {trs:List (TE×TE)} (hk:PE X k tk) (hv:PE X v tv) (hr:PPs X pos ks vs trs) :
  PPs X pos (some k::ks) (v::vs) ((tk,tv)::trs):=fun pins s σ H Q I h =>
 pairTrees_cons_walk (thn (hk pins s σ H _ I h) fun u s1 ⟨x,H1,I1,rx,q1⟩=>thn (hv pins s1 σ H1 _ I1 q1) fun w2 s2 ⟨y,H2,I2,ry,q2⟩ =>
  thn (hr pins s2 σ H2 _ I2 q2) fun ws s3 ⟨ps,H3,I3,rel,q3⟩=>⟨(x,y)::ps,H3,I3,.cons ⟨rx,ry⟩ rel,q3⟩)
def mergeK (kvs more:List (Key×V)):List (Key×V):=more.foldl (fun acc kv=>putK acc kv.1 kv.2) kvs
theorem KV.merge:∀ {more:List (Key×V)} {rs:List (Key×Value)} {kvs:List (Key×V)} {vs:List (Key×Value)},KV more rs→KV kvs vs→KV (mergeK kvs more) (merged vs rs):=by
 intro more rs kvs vs r
 unfold KV at r
 induction r generalizing kvs vs with
 | nil=>intro q; exact q
 | @cons p q ps qs h t ih =>
  intro r0
  have e:KV (putK kvs p.1 p.2) (stored vs q.1 q.2):=by
   have:=r0.put p.1 h.2
   rw [← h.1]; exact this
  exact ih e
theorem length_mergeK:∀ (more kvs:List (Key×V)),(mergeK kvs more).length≤kvs.length+more.length
 | [],kvs=>by show kvs.length≤kvs.length+0; omega
 | p::r,kvs=>by
  have h1:=length_mergeK r (putK kvs p.1 p.2)
  have h2:=length_putK kvs p.1 p.2
  show (mergeK (putK kvs p.1 p.2) r).length≤_
  rw [List.length_cons]; omega
theorem carries_of {P:Program} {w:World}:∀ {kvs:List (Key×V)} {ws:List (Value×Value)},VV (kvs.map fun kv=>(kV kv.1,kv.2)) ws→∃ rs,Carries (mixKind P w) ws rs∧KV kvs rs
 | [],_,r=>by rw [List.map_nil] at r; cases r; exact ⟨[],True.intro,.nil⟩
 | p::kvs,_,r=>by
  rw [List.map_cons] at r
  cases r with
  | @cons a b as bs h t =>
   obtain ⟨rs,c,q⟩:=carries_of (P:=P) (w:=w) t
   obtain ⟨b1,b2⟩:=b
   exact ⟨(p.1,b2)::rs,⟨kV_is h.1,rfl,c⟩,.cons ⟨rfl,h.2⟩ q⟩
def tDisp (trs:List (TE×TE)):TE:=fun σ H Q=>∀ p,H p=none→tPairs trs σ (upd H p (.dK [])) fun ps H2=>H2 p=some (.dK [])∧∃ kvs:List (Key×V),ps=kvs.map (fun kv=>(kV kv.1,kv.2))∧kvs.length≤15∧Q (.ref p) (upd H2 p (.dK (mergeK [] kvs)))
theorem pe_disp {X:Cx} {pos:Pos} {keys:List (Option Expr)} {values:List Expr} {trs:List (TE×TE)} (h:PPs X pos keys values trs) (hall:keys.all (·.isSome)=true) (hl:keys.length=values.length) (h0:keys≠[])
  (h15:keys.length≤15):PE X (.Dict keys values pos) (tDisp trs):=by
 intro pins s σ H Q I q
 have hn:=I.hok.fresh (Nat.le_refl s.heap.objs.size)
 have I1:=I.laid (a:=s.heap.objs.size) (o:=.dK []) (h':=s.heap.push { cls:=.type "dict",data:=.dict #[] }) (t':=s.toks) (fun _ _ q=>Heap.get?_push_of_some _ q) (Nat.le_refl _) (dk_empty s.heap I.big)
 refine wpAny_Dict_walk (knd:=mixKind X.prog X.w) hall hl h0 h15 (thn (h pins _ σ _ _ I1 (q _ hn)) fun ws s2 ⟨ps,H2,I2,rel,e,kvs,ep,lk,q2⟩=>?_)
 subst ep
 obtain ⟨rs,c,rk⟩:=carries_of (P:=X.prog) (w:=X.w) rel
 obtain ⟨z,hd,vs0,r0,dd⟩:=dk_of I2.hok e
 cases r0
 refine ⟨rs,c,dd,fun h' dd' hs=>⟨.ref s.heap.objs.size,_,?_,rfl,q2⟩⟩
 have hz:(mergeK [] kvs).length≤sizeLine:=by
  have h1:=length_mergeK kvs []
  rw [List.length_nil] at h1
  rw [sizeLine_eq]; omega
 have he:∃ q,h'.get? s.heap.objs.size=some q:=let ⟨q,_,_,hq,_⟩:=dd'; ⟨q,hq⟩
 exact d_write I2 (by rw [e]; exact True.intro) hs he (dk_new hz hd (rk.merge .nil) dd')
structure M1 (X:Cx) (o:Expr) (m:Str) (apos:Pos) (e:Expr) (cpos:Pos):Prop where
 base:attributeBase o m X.env (eval o X.env)=eval o X.env
 few:((backTo cpos (starEach [e] X.env)).all (fun x=>!x.1)&&(backToKw cpos (keywordEach [] X.env)).all (fun x=>x.1.isSome)
  && decide (([e]:List Expr).length+([]:List Keyword).length+(if ([]:List Keyword).isEmpty then 0 else 1)<30))=true
 line:(apos.endLine==cpos.line)=true
 trees:backTo cpos (starEach [e] X.env)=[(false,eval e X.env)]
def IsD (H:Hp) (a:Addr):Prop:=(∃ kvs,Rd H a (.dK kvs))∨∃ kvs,Rd H a (.dT kvs)
theorem isD_at {X:Cx} {pins:List (Addr×Obj)} {σ:St} {H:Hp} {s:Shared} {a:Addr} (I:Inv X pins σ H s) (d:IsD H a) :
  s.TypeIs (.ref a) "dict"∧(∀ b,Value.ref a=.ref b→∃ ob,s.heap.get? b=some ob∧ob.dict=none)∧(a==sysModules)=false:=by
 rcases d with ⟨kvs,e⟩ | ⟨kvs,e⟩
 ·obtain ⟨_,hd,vs,_,dd⟩:=dk_rd I.hok e
  refine ⟨dd.typeIs,fun b q=>?_,hd⟩
  cases q
  obtain ⟨ob,_,_,h1,h2,_⟩:=dd
  exact ⟨ob,h1,h2.2.1⟩
 ·obtain ⟨_,hd,xs,_,dd⟩:=dt_rd I.hok e
  refine ⟨dd.typeIs,fun b q=>?_,hd⟩
  cases q
  obtain ⟨ob,_,_,h1,h2,_⟩:=dd
  exact ⟨ob,h1,h2.2.1⟩
section
variable {X:Cx} {pins:List (Addr×Obj)} {σ:St} {H:Hp} {s:Shared} {a:Addr} {y d:V} {u r:Value} {o:Option V} {A:Around} {E:Value→Shared→Prop}
end
def tDPop1 (td ty:TE):TE:=fun σ H Q=>td σ H fun x H1=>∃ a,x=.ref a∧IsD H1 a∧ty σ H1 fun y H2=>∃ kvs k v,H2 a=some (.dK kvs)∧y=kV k∧valV kvs k=some v∧Q v (upd H2 a (.dK (dropK kvs k)))
section
variable {X:Cx} {o e f:Expr} {apos cpos:Pos} {td ty tx:TE}
theorem pe_dpop1 (ho:PE X o td) (he:PE X e ty) (m:M1 X o "pop" apos e cpos):PE X (.Call (.Attribute o "pop" apos) [e] [] cpos) (tDPop1 td ty):=by
 intro pins s σ H Q I h
 refine wpAny_Call_method m.base m.few m.line PySem.F.plainAttrs_dict PySem.F.slot_dict_pop PySem.F.type_dict_pop (thn (ho pins s σ H _ I h) fun u s1 ⟨x,H1,I1,rx,a,ex,d,q1⟩=>?_)
 subst ex
 obtain rfl:u=Value.ref a:=rx
 obtain ⟨t1,t2,_⟩:=isD_at I1 d
 refine ⟨t1,t2,?_⟩
 rw [m.trees]
 refine Calls.callWith_builtin rfl (Calls.evalArgs_plain (Calls.spliced_cons (thn (he pins s1 σ H1 _ I1 q1) fun iv s2 ⟨y,H2,I2,ry,kvs,k,v,ea,ey,l,q2⟩=>Calls.spliced_nil ?_)))
 subst ey
 exact d_pop I2 ea ry l (.inl rfl) fun w' s3 I3 rw'=>⟨v,_,I3,rw',q2⟩
end
section
variable {X:Cx} {pins:List (Addr×Obj)} {σ:St} {H:Hp} {s:Shared} {a:Addr} {kvs:List (Key×V)} {A:Around} {E:Value→Shared→Prop}
end
section
variable {X:Cx} {pins:List (Addr×Obj)} {σ:St} {H:Hp} {s:Shared} {a:Addr} {y:V} {u:Value} {A:Around} {E:Value→Shared→Prop}
end
end L2
set_option Elab.async false
set_option linter.all false
set_option maxRecDepth 100000
set_option maxHeartbeats 4000000
namespace L2
open PySem PySem.Spec PyProof.Rows
section
variable {X:Cx} {tg:Expr}
end
theorem rd_dput {td ty tv:TE} {D:Ends} {σ:St} {H:Hp} (h:tv σ H fun v H1=>td σ H1 fun x H2=>ty σ H2 fun y H3=>∃ a H4,x=.ref a∧DPut H3 a y v H4∧D.nx σ H4):sDPut td ty tv D σ H:=h
theorem rd_din {ty td:TE} {σ:St} {H:Hp} {Q:VK} (h:ty σ H fun y H1=>td σ H1 fun x H2=>∃ a o,x=.ref a∧DGet H2 a y o∧Q (.bl o.isSome) H2):tDIn ty td σ H Q:=h
theorem rd_dnotin {ty td:TE} {σ:St} {H:Hp} {Q:VK} (h:ty σ H fun y H1=>td σ H1 fun x H2=>∃ a o,x=.ref a∧DGet H2 a y o∧Q (.bl (!o.isSome)) H2):tDNotIn ty td σ H Q:=h
end L2
set_option Elab.async false
set_option linter.all false
set_option maxRecDepth 100000
namespace L2
open PySem PySem.Spec PyProof.Rows
section
variable {X:Cx} {pins:List (Addr×Obj)} {σ:St} {H:Hp} {s:Shared} {fp:List Addr} {scope:Scope} {N:List Str} {cap:List (Option Nat)}
end
section
variable {X:Cx} {elt tg iter:Expr} {ifs:List Expr} {scope:Scope} {pos:Pos} {N:List Str} {cap:List (Option Nat)} {wi:TI} {g:TG} {tt:TT} {te:TE}
end
end L2
set_option Elab.async false
set_option linter.all false
set_option maxRecDepth 100000
set_option maxHeartbeats 4000000
namespace L2
open PySem PySem.Spec PyProof.Rows
section
variable {prog:Program} {w:World} {A:Around} {E:Value→Shared→Prop} {s:Shared} {R:Result→Shared→Prop} {I:Addr} {fp wr:List Addr} {G:Array GenState→Array GenState→Prop} {n:Nat} {P:Nat→Value→Prop} {St:Nat→Shared→Prop}
end
section
variable {X:Cx}
end
end L2
set_option linter.all false
set_option Elab.async false
set_option maxHeartbeats 4000000
namespace Ts
open PySem PyProof.Rows
def Le (lt:Keyed→Keyed→Bool) (x y:Keyed):Prop:=lt y x=false
section
variable {M:Model} {A:Around} {E:Value→Shared→Prop} {s:Shared}
end
end Ts
set_option linter.all false
set_option Elab.async false
set_option maxHeartbeats 4000000
namespace Ts
open PySem PyProof.Rows
section
variable {M:Model} {A:Around} {E:Value→Shared→Prop} {s:Shared}
end
end Ts
set_option linter.all false
set_option Elab.async false
set_option maxHeartbeats 4000000
namespace Ts
open PySem PyProof.Rows
section
variable {M:Model} {A:Around} {E:Value→Shared→Prop} {s:Shared}
end
end Ts
set_option linter.all false
set_option Elab.async false
set_option maxHeartbeats 4000000
namespace Ts
open PySem PyProof.Rows
section
variable {M:Model} {A:Around} {E:Value→Shared→Prop} {s:Shared}
end
end Ts
set_option linter.all false
set_option Elab.async false
set_option maxHeartbeats 4000000
namespace Ts
open PySem PyProof.Rows
def seg (xs:Array Keyed) (i n:Nat):List Keyed:=(xs.toList.drop i).take n
section
variable {M:Model} {A:Around} {E:Value→Shared→Prop} {s:Shared}
end
end Ts
set_option linter.all false
set_option Elab.async false
set_option maxHeartbeats 4000000
namespace Ts
open PySem PyProof.Rows
def at' (xs:Array Keyed) (i:Nat):Keyed:=(xs[i]?).getD (.none,.none)
section
variable {M:Model} {A:Around} {E:Value→Shared→Prop} {s:Shared}
end
end Ts
set_option linter.all false
set_option Elab.async false
set_option maxHeartbeats 4000000
namespace Ts
open PySem PyProof.Rows
section
variable {M:Model} {A:Around} {E:Value→Shared→Prop} {s:Shared}
end
end Ts
set_option linter.all false
set_option Elab.async false
set_option maxHeartbeats 4000000
namespace Ts
open PySem PyProof.Rows
def Runs (lt:Keyed→Keyed→Bool) (xs:Array Keyed):Nat→List (Nat×Nat)→Nat→Prop
 | i,[],hi=>i=hi
 | i,(s,n)::ps,hi=>s=i∧1≤n∧(seg xs s n).Pairwise (Le lt)∧Runs lt xs (i+n) ps hi
def kys (p:Array (Nat×Nat×Nat)):List (Nat×Nat):=p.toList.map fun q=>(q.1,q.2.1)
section
variable {M:Model} {A:Around} {E:Value→Shared→Prop} {s:Shared}
structure Inv (κ:SortKind) (lt:Keyed→Keyed→Bool) (a0:Array Keyed) (st:SortSt) (lo:Nat):Prop where
 kind:kindOf st=κ
 failed:failedOf st=none
 perm:(arrOf st).Perm a0
 runs:Runs lt (arrOf st) 0 (kys (pendingOf st)) lo
end
end Ts
set_option linter.all false
set_option Elab.async false
set_option maxHeartbeats 4000000
set_option maxRecDepth 100000
namespace Ts
open PySem PyProof.Rows PySem.W
section
variable {prog:Program} {w:World} {A:Around} {E:Value→Shared→Prop} {s:Shared}
end
section
variable {prog:Program} {w:World} {s:Shared}
end
end Ts
set_option Elab.async false
set_option linter.all false
set_option maxRecDepth 100000
set_option maxHeartbeats 4000000
namespace L2
open PySem PySem.Spec PyProof.Rows
end L2
set_option linter.all false
set_option Elab.async false
set_option maxHeartbeats 4000000
namespace Sm
abbrev Pnt:=Int×Int
def fin:Pnt→Pnt→List Pnt→Pnt×Pnt
 | a,b,[]=>(a,b)
 | _,b,c::l=>fin b c l
section
variable {nb:Pnt→List Pnt}
end
end Sm
set_option linter.all false
set_option Elab.async false
set_option maxHeartbeats 4000000
namespace Sm
section
variable {nb:Pnt→List Pnt}
end
end Sm
set_option Elab.async false
set_option linter.all false
set_option maxRecDepth 100000
set_option maxHeartbeats 4000000
namespace Ts
open PySem PyProof.Rows PySem.W
section
variable {prog:Program} {w:World} {A:Around} {E:Value→Shared→Prop} {s:Shared}
end
end Ts
namespace L2
open PySem PySem.Spec PyProof.Rows
section
variable {K:PySem.W.Frag} {σ:St} {H:Hp} {Q:VK} {te:TE} {tt:TT} {cap:List (Option Nat)} {l:Addr}
end
end L2
set_option Elab.async false
set_option linter.all false
set_option maxRecDepth 100000
set_option maxHeartbeats 4000000
namespace L2
open PySem PySem.Spec PyProof.Rows PySem.W
section
variable {X:Cx} {pins:List (Addr×Obj)} {σ:St} {H H':Hp} {s:Shared} {h':Heap}
end
section
variable {X:Cx}
end
theorem kv_get {κ:Type}:∀ {kvs:List (κ×V)} {vs:List (κ×Value)} {i:Nat} {k:κ} {u:Value},KV kvs vs→vs[i]?=some (k,u)→∃ x,kvs[i]?=some (k,x)∧RelV x u
 | _,_,_,_,_,.nil,e=>by simp at e
 | _,_,0,k,u,.cons (a:=p) r t,e=>by
  (simp only [List.getElem?_cons_zero,Option.some.injEq] at e; subst e)
  exact ⟨p.2,congrArg some (Prod.ext r.1 rfl),r.2⟩
 | _,_,i+1,k,u,.cons r t,e=>by
  obtain ⟨x,h1,h2⟩:=kv_get (i:=i) t (by simpa using e)
  exact ⟨x,by simpa using h1,h2⟩
def rInD:R2:=fun x y H Q=>∃ (ds:List PyData) (d:PyData),Rep H (.list ds) y∧Rep H d x∧PyData.canLayAll0 ds=true∧d.canLay0=true∧d.depth≤60∧Q (.bl (ds.any fun y=>PyData.eqv y d)) H
theorem op_inD {X:Cx} (hu:X.A.units+64<cLine):OpR X (compareOp .In) rInD:=by
 intro pins s σ H x y v u Q I rx ry h
 obtain ⟨ds,d,h1,h2,s1,s2,s3,q⟩:=h
 obtain ⟨as,r1⟩:=h1.reads I ry
 obtain ⟨bs,r2⟩:=h2.reads I rx
 exact SeqAt.in_list_reads r1 r2 s1 s2 (by have:=Nat.min_le_right (PyData.depthAll ds) d.depth; omega) ⟨.bl _,H,I,rfl,q⟩
end L2
set_option Elab.async false
set_option linter.all false
set_option maxRecDepth 100000
set_option maxHeartbeats 4000000
namespace L2
open PySem PySem.Spec PyProof.Rows PySem.W
section
variable {prog:Program} {w:World} {A:Around} {E:Value→Shared→Prop} {s:Shared} {d it:Addr} {es:Array DictEntry} {ep i n:Nat}
end
end L2
set_option Elab.async false
set_option linter.all false
set_option maxRecDepth 100000
set_option maxHeartbeats 4000000
namespace L2
open PySem PySem.Spec PyProof.Rows PySem.W
end L2
set_option linter.all false
set_option Elab.async false
set_option maxHeartbeats 4000000
namespace Fm
abbrev Strip:=List L2.Key
abbrev Tie:=Strip×Strip×Int
inductive Con (F:List Tie):Strip→Strip→Prop
 | refl (a:Strip):Con F a a
 | fwd {a b c:Strip} {w:Int}:Con F a b→(b,c,w)∈F→Con F a c
 | bwd {a b c:Strip} {w:Int}:Con F a b→(c,b,w)∈F→Con F a c
section
variable {F:List Tie} {v:Strip→Int} {G:Strip→Strip×Int} {D:List Strip}
end
end Fm
set_option Elab.async false
set_option linter.all false
set_option maxRecDepth 100000
set_option maxHeartbeats 4000000
namespace L2
open PySem PySem.Spec PyProof.Rows PySem.W
def rDGet (x y:V) (H:Hp) (Q:VK):Prop:=∃ a v,x=.ref a∧DGet H a y (some v)∧Q v H
theorem rd_dget {td ty:TE} {σ:St} {H:Hp} {Q:VK} (h:td σ H fun x H1=>ty σ H1 fun y H2=>rDGet x y H2 Q):tDGet td ty σ H Q:=h
theorem rd_dnewK {σ:St} {H:Hp} {Q:VK} (h:∀ p,H p=none→Q (.ref p) (upd H p (.dK []))):tDNewK σ H Q:=h
def rIsD (x:V) (H:Hp) (q:Addr→Prop):Prop:=∃ a,x=.ref a∧IsD H a∧q a
theorem rd_dpop1 {td ty:TE} {σ:St} {H:Hp} {Q:VK} (h:td σ H fun x H1=>rIsD x H1 fun a=>ty σ H1 fun y H2=>∃ kvs k v,H2 a=some (.dK kvs)∧y=kV k∧valV kvs k=some v∧Q v (upd H2 a (.dK (dropK kvs k)))):tDPop1 td ty σ H Q:=h
def ButL (S:List Addr) (H H':Hp):Prop:=∀ b o,H b=some o→b∉S→H' b=some o
theorem ButL.refl (S:List Addr) (H:Hp):ButL S H H:=fun _ _ e _=>e
theorem Same.butL {H H':Hp} (s:Same H H') (S:List Addr):ButL S H H':=fun b o e _=>s b o e
theorem ButL.trans {S:List Addr} {H H1 H2:Hp} (a:ButL S H H1) (b:ButL S H1 H2):ButL S H H2:=fun c o e n=>b c o (a c o e n) n
theorem ButL.upd {S:List Addr} {H H1:Hp} {p:Addr} {o:HO} (a:ButL S H H1) (h:p∈S):ButL S H (L2.upd H1 p o):=fun c o' e n=>by
 rw [upd_ne (fun z=>n (by rw [z]; exact h))]; exact a c o' e n
theorem ButL.new {S:List Addr} {H H1:Hp} {p:Addr} {o:HO} (a:ButL S H H1) (h:H1 p=none):ButL S H (L2.upd H1 p o):=fun c o' e n=>Same.new h c o' (a c o' e n)
end L2
set_option Elab.async false
set_option linter.all false
set_option maxRecDepth 100000
set_option maxHeartbeats 4000000
namespace L2
open PySem PySem.Spec PyProof.Rows
theorem exm_no {K:PySem.W.Frag} {A S:Addr} (bs:PySem.W.subIn K (.ref S) (.type "BaseException")=some true) (mo:PySem.W.mroIn K S (.type "object")=some true) (ty:PySem.W.typeIn K (.ref S)=some (.type "type"))
  (sb:PySem.W.subIn K (.ref A) (.ref S)=some false):PySem.W.exmOne K (.ref A) (.ref S)=some false:=by
 obtain ⟨cd,hc,_⟩:=Option.bind_eq_some_iff.mp mo
 simp only [PySem.W.exmOne,PySem.W.kitCls]
 simp [bs,hc,ty,sb]
end L2
set_option Elab.async false
set_option linter.all false
set_option maxRecDepth 100000
set_option maxHeartbeats 4000000
namespace L2
open PySem PySem.Spec PyProof.Rows PySem.W
def FzAt (P:Program) (w:World) (d:Addr) (kvs:List (Key×V)) (vs:List (Key×Value)) (ep:Nat) (h:Heap):Prop:=kvs.length≤sizeLine∧(d==sysModules)=false∧KV kvs vs∧h.DictAt (mixKind P w) d vs ep
def FzO (P:Program) (w:World) (d:Addr) (kvs:List (Key×V)) (vs:List (Key×Value)) (ep:Nat):HO:=.ext (FzAt P w d kvs vs ep)
def IsFz (P:Program) (w:World) (d:Addr) (kvs:List (Key×V)) (F:HO):Prop:=∃ vs ep,F=FzO P w d kvs vs ep
section
variable {X:Cx} {pins:List (Addr×Obj)} {σ:St} {H:Hp} {s:Shared} {d:Addr} {kvs:List (Key×V)} {vs:List (Key×Value)} {ep:Nat}
theorem Inv.freeze (I:Inv X pins σ H s) (hd:H d=some (.dK kvs)):∃ vs ep,Inv X pins σ (upd H d (FzO X.prog X.w d kvs vs ep)) s∧s.heap.DictAt (mixKind X.prog X.w) d vs ep:=by
 obtain ⟨z,lo,vs,rel,dd⟩:=dk_of I.hok hd
 obtain ⟨ep,at'⟩:=dd.dictAt
 obtain ⟨o,es,ho,r⟩:=id at'
 exact ⟨vs,ep,I.write (e:=d) (t':=s.toks) (h':=s.heap) (by rw [hd]; trivial) (.inl rfl) (fun _ _ _ q=>q) ⟨o,ho⟩ ⟨⟨z,lo,rel,at'⟩,⟨o,ho⟩,fun h1 h2 ⟨a1,a2,a3,a4⟩ k=>⟨a1,a2,a3,a4.at' k⟩⟩,at'⟩
theorem Inv.thaw {F:HO} (I:Inv X pins σ H s) (hF:IsFz X.prog X.w d kvs F) (hd:H d=some F):Inv X pins σ (upd H d (.dK kvs)) s:=by
 obtain ⟨vs,ep,rfl⟩:=hF
 obtain ⟨⟨z,lo,rel,at'⟩,⟨o,ho⟩,_⟩:=(show ObjOk X.prog X.w H s.heap d (.ext (FzAt X.prog X.w d kvs vs ep)) from I.hok d _ hd)
 exact I.write (e:=d) (t':=s.toks) (h':=s.heap) (by rw [hd]; trivial) (.inl rfl) (fun _ _ _ q=>q) ⟨o,ho⟩ ⟨z,lo,vs,rel,at'.dictOf⟩
end
def Thaw (P:Program) (w:World) (H1 H2:Hp):Prop:=∃ d kvs F,IsFz P w d kvs F∧H1 d=some F∧H2=upd H1 d (.dK kvs)
def tThawS (P:Program) (w:World) (ts:TS):TS:=fun D σ H=>ts { D with nx:=fun σ1 H1=>∃ H2,Thaw P w H1 H2∧D.nx σ1 H2 } σ H
theorem ps_thaw {X:Cx} {st:Stmt} {ts:TS} (h:PS X st ts):PS X st (tThawS X.prog X.w ts):=by
 intro pins s σ H D I q
 refine wpAny_mono (h pins s σ H _ I q) (fun f s1 q1=>?_) fun _ _ z=>z
 cases f with
 | next =>
  obtain ⟨σ',H',I',H2,⟨d,kvs,F,hF,hd,rfl⟩,q2⟩:=q1
  exact ⟨σ',_,I'.thaw hF hd,q2⟩
 | brk=>exact q1
 | cont=>exact q1
 | ret u=>exact q1
theorem rd_thawS {P:Program} {w:World} {ts:TS} {D:Ends} {σ:St} {H:Hp} (h:ts { D with nx:=fun σ1 H1=>∃ H2,Thaw P w H1 H2∧D.nx σ1 H2 } σ H):tThawS P w ts D σ H:=h
end L2
namespace L2
open PySem PySem.Spec PyProof.Rows PySem.W
end L2
namespace L2
open PySem PySem.Spec PyProof.Rows PySem.W
section
variable {K:PySem.W.Frag} {H:Hp} {Q:VK}
theorem rd_slS {a:Addr} {xs:List V} {lo hi:Option Int} (h:H a=some (.lst xs)) (q:∀ p H1,Same H H1→H p=none→H1 p=some (.lst (cutV xs lo hi))→Q (.ref p) H1):rSlL K (.ref a) lo hi H Q:=rd_slL h fun p n=>q p _ (Same.new n) n upd_same
theorem rd_catS {a b:Addr} {xs zs:List V} (ha:H a=some (.lst xs)) (hb:H b=some (.lst zs)) (z:xs.length+zs.length≤sizeLine) (q:∀ p H1,Same H H1→H p=none→H1 p=some (.lst (xs++zs))→Q (.ref p) H1):rCat (.ref a) (.ref b) H Q:=rd_cat ha hb z fun p n=>q p _ (Same.new n) n upd_same
end
end L2
set_option Elab.async false
set_option linter.all false
set_option maxRecDepth 100000
set_option maxHeartbeats 4000000
namespace L2
open PySem PySem.Spec PyProof.Rows PySem.W
section
variable {K:PySem.W.Frag} {σ:St} {H:Hp} {Q:VK} {te:TE} {tt:TT} {cap:List (Option Nat)} {l:Addr}
theorem compW_listL {a:Addr} {xs:List V} (ys:List V) (hy:ys.length=xs.length) (hs:SqL K H a xs) (hz:xs.length≤1000) (hl:H l=none)
  (step:∀ (i:Nat) x y o H' (Q':VK),xs[i]?=some x→ys[i]?=some y→Same H H'→(∀ H5,Same H' H5→Q' y H5)→te (((capS (none::cap) σ).set 0 o).set 0 (some x)) H' Q')
  (fin:∀ H',Same H H'→H' l=some (.lst ys)→Q (.ref l) H'):CompW (Itl K a) (gName 0) tTrue te (none::cap) l σ H Q:=by
 refine ⟨xs.length,fun i zs σ' H'=>zs=ys.take i∧(∃ o,σ'=(capS (none::cap) σ).set 0 o)∧Same H H'∧H' l=some (.lst zs),⟨rfl,⟨none,rfl⟩,Same.new hl,upd_same⟩,?_,?_⟩
 ·rintro i zs σ' H' hi ⟨rfl,⟨o,rfl⟩,s,e⟩
  refine ⟨⟨xs,xs[i],s.seq hs,by simp [hi]⟩,fun x H2 y=>?_⟩
  obtain ⟨e2,y⟩:=y
  subst e2
  have hx:=y xs (s.seq hs)
  have hyi:i<ys.length:=by omega
  refine rd_name (rd_true (iteT ?_))
  refine step i x ys[i] o H2 _ hx (List.getElem?_eq_getElem hyi) s fun H5 s5=>⟨s5 _ _ e,?_,?_⟩
  ·rw [List.length_take]
   exact small1000 (by omega)
  ·exact ⟨List.take_append_getElem hyi,⟨_,List.set_set ..⟩,(s.trans s5).later hl,upd_same⟩
 ·rintro zs σ' H' ⟨rfl,_,s,e⟩
  rw [List.take_of_length_le (by omega)] at e
  exact ⟨⟨xs,s.seq hs,Nat.le_refl _⟩,fin H' s e⟩
end
end L2
namespace L2
open PySem PySem.Spec PyProof.Rows PySem.W
theorem rd_repS {H:Hp} {Q:VK} {l:Addr} {k:Int} {xs:List V} (h:H l=some (.lst xs)) (h0:-(2 ^ 63)≤k) (h1:k<2 ^ 63) (hz:xs.length*k.toNat≤sizeLine) (q:∀ p H1,Same H H1→H p=none→H1 p=some (.lst (List.replicate k.toNat xs).flatten)→Q (.ref p) H1):rRep (.ref l) (.int k) H Q :=
 ⟨l,k,xs,rfl,rfl,h,h0,h1,hz,fun p n=>q p _ (Same.new n) n upd_same⟩
end L2
set_option Elab.async false
set_option linter.all false
set_option maxRecDepth 100000
set_option maxHeartbeats 4000000
namespace L2
open PySem PySem.Spec PyProof.Rows PySem.W
end L2
set_option Elab.async false
set_option linter.all false
set_option maxRecDepth 100000
set_option maxHeartbeats 4000000
namespace PySem
end PySem
set_option Elab.async false
set_option linter.all false
set_option maxRecDepth 100000
set_option maxHeartbeats 4000000
namespace PyProof.Rows
open PySem PySem.Spec
section
variable {prog:Program} {w:World} {A:Around} {R:Result→Shared→Prop} {I:Addr} {fp wr:List Addr} {G:Array GenState→Array GenState→Prop} {n:Nat} {P:Nat→Value→Prop} {St:Nat→Shared→Prop} {K:Type} [DecidableEq K] {knd:PySem.KeyKind prog w K}
end
end PyProof.Rows
set_option Elab.async false
set_option linter.all false
set_option maxRecDepth 100000
set_option maxHeartbeats 4000000
namespace PySem
open PySem.Spec PyProof.Rows
section
variable {prog:Program} {w:World} {K:Type} [DecidableEq K] {knd:KeyKind prog w K} {A:Around} {E:Value→Shared→Prop} {s:Shared}
end
end PySem
set_option Elab.async false
set_option linter.all false
set_option maxRecDepth 100000
set_option maxHeartbeats 4000000
namespace L2
open PySem PySem.Spec PyProof.Rows PySem.W
section
variable {X:Cx} {pins:List (Addr×Obj)} {σ:St} {H:Hp} {s:Shared}
end
end L2
set_option Elab.async false
set_option linter.all false
set_option maxRecDepth 100000
set_option maxHeartbeats 4000000
namespace L2
open PySem PySem.Spec PyProof.Rows
end L2
set_option Elab.async false
set_option linter.all false
set_option maxRecDepth 100000
namespace L2
open PySem PySem.Spec PyProof.Rows
section
variable {K:PySem.W.Frag} {x qual:Str} {st:Stmt} {f:Addr} {fd:FuncData}
theorem Fun.b1 {p0:Str} (F:Fun K x qual st f fd) (h:∀ (kV doc pm:Value) (an:Option Addr) (cdv ct a0:Value),bindArgs (PySem.W.fnOf x qual (defArgs st) (defBody st) (defScope st) .none kV doc pm an cdv ct) ⟨[a0],[]⟩=pure [(p0,a0)]):Binds K fd [p0] [] :=
 F.binds fun kV doc pm an cdv ct us hl=>by obtain ⟨a0,rfl⟩:=len1 hl; exact h kV doc pm an cdv ct a0
theorem Fun.b2 {p0 p1:Str} (F:Fun K x qual st f fd) (h:∀ (kV doc pm:Value) (an:Option Addr) (cdv ct a0 a1:Value),bindArgs (PySem.W.fnOf x qual (defArgs st) (defBody st) (defScope st) .none kV doc pm an cdv ct) ⟨[a0,a1],[]⟩=pure [(p0,a0),(p1,a1)]):Binds K fd [p0,p1] [] :=
 F.binds fun kV doc pm an cdv ct us hl=>by obtain ⟨a0,a1,rfl⟩:=len2 hl; exact h kV doc pm an cdv ct a0 a1
theorem Fun.b3 {p0 p1 p2:Str} (F:Fun K x qual st f fd) (h:∀ (kV doc pm:Value) (an:Option Addr) (cdv ct a0 a1 a2:Value),bindArgs (PySem.W.fnOf x qual (defArgs st) (defBody st) (defScope st) .none kV doc pm an cdv ct) ⟨[a0,a1,a2],[]⟩=pure [(p0,a0),(p1,a1),(p2,a2)]):Binds K fd [p0,p1,p2] [] :=
 F.binds fun kV doc pm an cdv ct us hl=>by obtain ⟨a0,a1,a2,rfl⟩:=len3 hl; exact h kV doc pm an cdv ct a0 a1 a2
theorem Fun.b4 {p0 p1 p2 p3:Str} (F:Fun K x qual st f fd) (h:∀ (kV doc pm:Value) (an:Option Addr) (cdv ct a0 a1 a2 a3:Value),bindArgs (PySem.W.fnOf x qual (defArgs st) (defBody st) (defScope st) .none kV doc pm an cdv ct) ⟨[a0,a1,a2,a3],[]⟩=pure [(p0,a0),(p1,a1),(p2,a2),(p3,a3)]):Binds K fd [p0,p1,p2,p3] [] :=
 F.binds fun kV doc pm an cdv ct us hl=>by obtain ⟨a0,a1,a2,a3,rfl⟩:=len4 hl; exact h kV doc pm an cdv ct a0 a1 a2 a3
theorem Fun.b5 {p0 p1 p2 p3 p4:Str} (F:Fun K x qual st f fd) (h:∀ (kV doc pm:Value) (an:Option Addr) (cdv ct a0 a1 a2 a3 a4:Value),bindArgs (PySem.W.fnOf x qual (defArgs st) (defBody st) (defScope st) .none kV doc pm an cdv ct) ⟨[a0,a1,a2,a3,a4],[]⟩=pure [(p0,a0),(p1,a1),(p2,a2),(p3,a3),(p4,a4)]):Binds K fd [p0,p1,p2,p3,p4] [] :=
 F.binds fun kV doc pm an cdv ct us hl=>by obtain ⟨a0,a1,a2,a3,a4,rfl⟩:=len5 hl; exact h kV doc pm an cdv ct a0 a1 a2 a3 a4
theorem Fun.bl {p:Str} (F:Fun K x qual st f fd) (h:∀ (kV doc pm:Value) (an:Option Addr) (cdv ct a:Value),bindArgs (PySem.W.fnOf x qual (defArgs st) (defBody st) (defScope st) .none kV doc pm an cdv ct) ⟨[a],[]⟩=pure [(p,a)]) (s:Shared) (v:Value):BindsTo s fd ⟨[v],[]⟩ [(p,v)]:=by
 obtain ⟨_,_,kV,doc,pm,an,cdv,ct,_,rfl,_,_⟩:=F.ex
 exact .of_eq (h kV doc pm an cdv ct v)
end
theorem FnScope.by {N P:List Str} {sc:Scope} (h1:sc.kind=.function:=by rfl) (h2:sc.isCoroutine=false:=by rfl) (h3:sc.isGenerator=false:=by rfl) (h4:N.Nodup:=by decide +kernel) (h5:N.take P.length=P:=by rfl) (h6:∀ x∈P,sc.names.lookup x=some .local∨sc.names.lookup x=some .cell:=by decide +kernel) (h7:∀ y∈sc.names,y.2≠.free:=by decide +kernel):FnScope N P sc:=⟨h1,h2,h3,h4,h5,h6,h7⟩
end L2
set_option Elab.async false
set_option linter.all false
set_option maxRecDepth 100000
set_option maxHeartbeats 4000000
namespace L2
open PySem PySem.Spec PyProof.Rows PySem.W Builtin Builtin.ObjectAttr Builtin.Getset_descriptor
def exiK (K:PySem.W.Frag) (C:Addr) (line:List Value) (nid:String):Bool :=
 match K.lookup C with
 | some ⟨.type "type",_,.cls k,ss⟩ =>
  match k.mro,ss.toList with
  | .ref D :: up, [_, _, _, _, some (.builtin m), _] => (D == C) && (m == nid) && !k.hasDel && k.hasDict && tailIn K line up
  | _, _ => false
 | _=>false
theorem exi_of {K:PySem.W.Frag} {C:Addr} {line:List Value} {nid:String} (q:exiK K C line nid=true):∃ (nm qn:Str) (N:Addr) (bs up:List Value) (sn:List Str) (sub:List Value) (ab:Bool) (col:Option Bool) (dd:Option Addr) (k0 k1 k2 k3 k5:Option Value),
  K.lookup C=some (excClassObj nm qn C N bs up true sn sub ab col dd k0 k1 k2 k3 k5 nid)∧tailIn K line up=true:=by
 unfold exiK at q
 split at q
 case h_2=>cases q
 case h_1 dd k ss ho =>
  split at q
  case h_2=>cases q
  case h_1 D up k0 k1 k2 k3 m k5 hm hs =>
   simp only [Bool.and_eq_true,beq_iff_eq,Bool.not_eq_true'] at q
   obtain ⟨⟨⟨⟨e1,e2⟩,e3⟩,e4⟩,e5⟩:=q
   subst e1 e2
   obtain ⟨nm,bs,mro,ns,qn,hd,sn,sub,ab,col,del⟩:=k
   simp only at hm e3 e4
   subst hm e3 e4
   obtain ⟨l⟩:=ss
   simp only at hs
   subst hs
   exact ⟨nm,qn,ns,bs,up,sn,sub,ab,col,dd,k0,k1,k2,k3,k5,ho,e5⟩
section
variable {prog:Program} {w:World} {A:Around} {E:Value→Shared→Prop} {K:PySem.W.Frag} {h:Heap} {g:Array GenState} {d:Drawn} {t:Nat} {os:OsState} {C fI:Addr} {line:List Value} {B nid iid:String} {rest:List Value}
abbrev xObj (C t:Addr):Obj:={ cls:=.ref C,data:=.fields #[.ref t,.none,.none,.none,.bool false,.none] }
abbrev xTup (rest:List Value):Obj:={ cls:=.type "tuple",data:=.seq rest.toArray }
theorem xcall {Q:Value→Shared→Prop} (X:K.In h) (q:exiK K C line nid=true) (F:ExcBaseFacts B nid iid line) (hi:findIn K (.ref C) "__init__"=some (some (.ref fI))) (hf:typeIn K (.ref fI)=some (.type "function")) (hz:rest.length≤sizeLine)
  (k:∀ h' e,Heap.MadeExcOf h h' e (.ref C) rest→wpAny (model prog w) (A.under (.builtin "type.__call__" ⟨.ref C::rest,[]⟩)) (call (.ref fI) (.ref e::rest)) (fun r s'=>r=.none∧Q (.ref e) s') E ⟨h',g,d,t,os⟩) :
  wpAny (model prog w) A (call (.ref C) rest) Q E ⟨h,g,d,t,os⟩:=by
 obtain ⟨nm,qn,N,bs,up,sn,sub,ab,col,dd,k0,k1,k2,k3,k5,hl,tl⟩:=exi_of q
 have cl:=X _ _ hl
 have T:=tail_of_in X tl
 have c1:=tc_lookup
 have c2:=tc_bind (.ref C)
 have ty:(⟨h,g,d,t,os⟩:Shared).TypeIs (.ref C) "type":=⟨_,cl,rfl⟩
 refine wpAny_call (codeAny_of_tree ?_)
 show wpAny _ _ (callAny (.ref C) _) _ _ _
 repeat (any_goals (first | assumption | with_reducible refine wpAny_loadPart_at cl ?_ | wp_step))
 refine ⟨rfl,?_⟩
 refine codeAny_call_builtin_at (Code.quiet_builtin _ (by decide +kernel)) entry_typeCall (wpAny_check_type_call_sub cl ?_)
 show wpAny _ (A.under (.builtin "type.__call__" ⟨.ref C::rest,[]⟩)) (Builtin.«type.__call__» ⟨.ref C::rest,[]⟩) _ _ _
 repeat (first | with_reducible refine wpAny_loadPart_at cl ?_ | with_reducible refine wpAny_madeBy_exc cl ?_ | wp_step)
 refine codeAny_call_builtin_code (Code.quiet_builtin _ F.quiet) (wpAny_check_new_subT F T cl ?_)
 refine codeAny_exc_new_subT F T cl ?_ hz
 show wpAny _ _ _ _ _ _
 have kp:∀ b o,h.get? b=some o→((h.push (xTup rest)).push (xObj C h.objs.size)).get? b=some o:=fun b o e=>Heap.get?_push_of_some _ (Heap.get?_push_of_some _ e)
 have X1:K.In ((h.push (xTup rest)).push (xObj C h.objs.size)):=X.keeps kp
 have ge:((h.push (xTup rest)).push (xObj C h.objs.size)).get? (h.objs.size+1)=some (xObj C h.objs.size):=by
  have:=Heap.get?_push_size (h.push (xTup rest)) (o:=xObj C h.objs.size) rfl
  rwa [Heap.size_push] at this
 have gt:((h.push (xTup rest)).push (xObj C h.objs.size)).get? h.objs.size=some (xTup rest):=Heap.get?_push_of_some _ (Heap.get?_push_size h rfl)
 have own:(Value.ref C::up).contains (.ref C)=true:=by simp
 unfold isInstance
 have cl1:=kp _ _ cl
 repeat (first | with_reducible refine wpAny_loadPart_at ge ?_ | (with_reducible refine wpAny_isSubtype_exc cl1 ?_; rw [own]) | wp_step)
 show wpAny _ _ (typeLookup (.ref C) _) _ _ _
 refine (looks_findIn X1 hi).at ?_
 refine wpAny_holding (wpAny_bind ((bind_fn X1 (.ref (h.objs.size+1)) hf).at ?_))
 refine wpAny_bind (wpAny_mono (k _ (h.objs.size+1) ⟨kp,Heap.get?_none_of_le (Nat.le_succ _),h.objs.size,ge,Heap.get?_none_of_le (Nat.le_refl _),gt⟩) (fun r s' hr=>?_) fun _ _ z=>z)
 obtain ⟨rfl,hQ⟩:=hr
 wp_walk
 exact hQ
end
def ExcMAt (e C:Addr) (xo:Option Addr) (h:Heap):Prop:=∃ o a0,h.get? e=some o∧o.cls=.ref C∧o.data=.fields #[a0,.none,.none,.none,.bool false,.none]∧o.dict=xo
def ExcM (e C:Addr) (xo:Option Addr):HO:=.ext (ExcMAt e C xo)
def XdAt (d:Addr) (fs:List (Str×V)) (h:Heap):Prop:=∃ mA,h.Ns1 d mA∧(∀ f,RelO (fs.lookup f) (mA f))∧PySem.Within mA (fs.map (·.1))
def XdO (d:Addr) (fs:List (Str×V)):HO:=.ext (XdAt d fs)
theorem ExcMAt.stay {e C:Addr} {xo:Option Addr}:∀ h1 h2:Heap,ExcMAt e C xo h1→(∀ o,h1.get? e=some o→h2.get? e=some o)→ExcMAt e C xo h2:=fun _ _ ⟨o,a0,h1,h2⟩ k=>⟨o,a0,k o h1,h2⟩
theorem XdAt.stay {d:Addr} {fs:List (Str×V)}:∀ h1 h2:Heap,XdAt d fs h1→(∀ o,h1.get? d=some o→h2.get? d=some o)→XdAt d fs h2:=fun _ _ ⟨mA,⟨o,es,ep,ho,r⟩,q⟩ k=>⟨mA,⟨o,es,ep,k o ho,r⟩,q⟩
theorem ExcMAt.at {e C:Addr} {xo:Option Addr} {h:Heap} (p:ExcMAt e C xo h):ExcAt e C h:=let ⟨o,_,h1,h2,_⟩:=p; ⟨o,h1,h2⟩
theorem refuse_up {h:Heap} {line up:List Value} {self:Value} (T:OwnTail h line up) (p:refuseLoop self "__setattr__" line=pure ()):refuseLoop self "__setattr__" up=pure ():=by
 induction T with
 | base=>exact p
 | _=>rw [refuseLoop_ref]; assumption
structure ExI (K:PySem.W.Frag) (C:Addr):Prop where
 ex:exiK K C [.type "ValueError",.type "Exception",.type "BaseException",.type "object"] "ValueError.__new__"=true
 sa:findIn K (.ref C) "__setattr__"=some (some (.builtin "object.__setattr__"))
 mo:mroIn K C (.type "object")=some true
section
variable {prog:Program} {w:World} {A:Around} {E:Value→Shared→Prop} {K:PySem.W.Frag} {s:Shared} {C x:Addr} {name:Str} {v:Value}
theorem ExI.cls (e:ExI K C):∃ cd up,clsIn K C=some cd∧cd.mro=.ref C::up∧cd.hasDict=true∧tailIn K [.type "ValueError",.type "Exception",.type "BaseException",.type "object"] up=true:=by
 obtain ⟨nm,qn,N,bs,up,sn,sub,ab,col,dd,k0,k1,k2,k3,k5,hl,tl⟩:=exi_of e.ex
 have z:∃ cd,clsIn K C=some cd∧cd.mro=.ref C::up∧cd.hasDict=true:=by
  unfold clsIn
  rw [hl]
  exact ⟨_,rfl,rfl,rfl⟩
 obtain ⟨cd,z1,z2,z3⟩:=z
 exact ⟨cd,up,z1,z2,z3,tl⟩
theorem osx {R:Result→Shared→Prop} {tk:Tok} (X:K.In s.heap) (ei:ExI K C) (LT:Looks (model prog w) s.heap (typeOf (.ref x)) (.ref C)) (hn:findIn K (.ref C) name=some none)
  (h:wpAny (model prog w) A.in1 (storeInOwnDict (.ref x) (.ref C) (.str name tk) name v false) (fun fin s'=>match fin with | .done f=>R (.ok f) s' | .again c'=>c'.quiet=true∧codeAny (model prog w) A c' R s') (fun e s'=>R (.error e) s') s) :
  codeAny (model prog w) A (.call (.builtin "object.__setattr__") ⟨[.ref x,.str name tk,v],[]⟩) R s:=by
 have SF:=PySem.F.store_object
 obtain ⟨cd,up,hc,hm,hd,tl⟩:=ei.cls
 have sub:Looks (model prog w) s.heap (isInstance (.ref x) (.type "object")) true:=LT.andThen (looks_mroIn X ei.mo)
 have mr:Looks (model prog w) s.heap (mroOf (.ref C)) cd.mro:=(looks_clsIn X hc).andThen .now
 refine codeAny_call_builtin SF.slot.plain SF.entry (@check_slot (model prog w) _ _ s "object.__setattr__" "object" "__setattr__" (.ref x) [.str name tk,v] [] _ SF.kind SF.split sub (SF.args (.ref x) (.str name tk) v) ?_)
 rw [osa_eq,refuse_eq]
 refine wpAny_bind (wpAny_bind (LT.here (wpAny_bind (mr.here ?_))))
 rw [hm,refuseLoop_ref,refuse_up (tail_of_in X tl) (PySem.F.store_ValueError.passes (.ref x))]
 exact wpAny_pure (wpAny_bind (LT.here (wpAny_bind ((looks_findIn X hn).here (wpAny_bind (wpAny_pure h))))))
theorem setx {Q:Unit→Shared→Prop} (X:K.In s.heap) (ei:ExI K C) (LT:Looks (model prog w) s.heap (typeOf (.ref x)) (.ref C)) (hn:findIn K (.ref C) name=some none)
  (h:wpAny (model prog w) A.in1 (storeInOwnDict (.ref x) (.ref C) (.str name s.toks) name v false) (fun fin s'=>match fin with | .done (.ret _)=>Q () s' | _=>False) E { s with toks:=s.toks+1 }) :
  wpAny (model prog w) A (setAttr (.ref x) name v) Q E s:=by
 have c:=osx (A:=A) (R:=fun r s'=>match r with | .ok (.ret _)=>Q () s' | .ok _=>False | .error e=>E e s') (s:={ s with toks:=s.toks+1 }) (tk:=s.toks) (v:=v) X ei LT hn (wpAny_mono h (fun fin s' z=>by
  cases fin with
  | done f => cases f <;> exact z
  | again c => exact z.elim) fun _ _ z => z)
 refine wpAny_bind (wpAny_mkText (wpAny_bind (wpAny_bind (wpAny_bind (LT _ _ _ _ (fun _ _ e=>e) (looks_findIn X ei.sa _ _ _ _ (fun _ _ e=>e) (wpAny_holding ?_)))))))
 rw [PySem.F.store_object.slot.bind]
 refine wpAny_bind (wpAny_pure (wpAny_bind (wpAny_call (codeAny_mono c fun r s' z=>?_))))
 rcases r with e | (v | _ | _ | _)<;>first | exact z | exact wpAny_pure (wpAny_pure z)
end
section
variable {prog:Program} {w:World} {A:Around} {E:Value→Shared→Prop} {K:PySem.W.Frag} {s:Shared} {C x:Addr} {name:Str} {v:Value} {tk:Tok} {o:Obj} {vs:Array Value}
theorem storex_new {Q:Fin→Shared→Prop} (X:K.In s.heap) (ei:ExI K C) (hx:s.heap.get? x=some o) (hc:o.cls=.ref C) (hd:o.data=.fields vs) (hn:o.dict=none)
  (k:∀ h' t',h'.get? x=some { o with dict:=some s.heap.objs.size }→h'.Ns1 s.heap.objs.size (fun y=>if y=name then some v else none)→(∀ b u,b≠x→s.heap.get? b=some u→h'.get? b=some u)→Q (.done (.ret .none)) { s with heap:=h',toks:=t' }) :
  wpAny (model prog w) A (storeInOwnDict (.ref x) (.ref C) (.str name tk) name v false) Q E s:=by
 obtain ⟨cd,up,hcd,_,hh,_⟩:=ei.cls
 obtain ⟨oc,od,odt,osl⟩:=o
 dsimp only at hc hd hn
 subst hc hd hn
 have ne:s.heap.objs.size≠x:=Nat.ne_of_gt (Heap.lt_size hx)
 refine wpAny_bind (wpAny_pure (wpAny_bind (wpAny_bind (wpAny_loadPart hx (wpAny_bind ((looks_clsIn X hcd).here ?_))))))
 rw [hh]
 show wpAny _ _ (do let d ← alloc { cls:=.type "dict",data:=.dict #[] }; update x fun o=>{ o with dict:=some d }; dictMade (.ref C) x d) _ _ _
 refine wpAny_bind (wpAny_alloc' (wpAny_bind (wpAny_update' (Heap.get?_push_of_some _ hx) ?_)))
 refine wpAny_pure (a:=some s.heap.objs.size) (wpAny_bind (wpAny_pure (wpAny_bind ?_)))
 have gd:((s.heap.push { cls:=.type "dict",data:=.dict #[] }).update x fun o=>{ o with dict:=some s.heap.objs.size }).get? s.heap.objs.size=some { cls:=.type "dict",data:=.dict #[] }:=by
  rw [Heap.get?_update_other _ _ (Ne.symm ne)]
  exact Heap.get?_push_size s.heap rfl
 have nd:((s.heap.push { cls:=.type "dict",data:=.dict #[] }).update x fun o=>{ o with dict:=some s.heap.objs.size }).Ns s.heap.objs.size (fun _=>none):=⟨_,#[],_,gd,rfl,(fun e he=>absurd he (by simp)),fun _=>rfl⟩
 refine wpAny_nsSet1 (Heap.Ns1.of_empty nd) fun h' hn' hs=>?_
 obtain ⟨oD,esD,epD,hoD,hdD,hcD⟩:=hn'.count (PySem.Within.cons name v PySem.Within.nil)
 refine wpAny_bind (wpAny_lookBehind hoD (by rw [hdD]; exact pastItsLine_dict (Nat.le_trans hcD (by rw [List.length_cons,List.length_nil,sizeLine_eq]; omega))) ?_)
 refine wpAny_pure (k h' _ ?_ hn' fun b u hb hu=>?_)
 ·refine (hs.2 x (Ne.symm ne)).trans (Heap.get?_update_self _ (Heap.get?_push_of_some _ hx) rfl)
 ·exact (hs.2 b (Nat.ne_of_lt (Heap.lt_size hu))).trans ((Heap.get?_update_other _ _ (Ne.symm hb)).trans (Heap.get?_push_of_some _ hu))
theorem storex_more {Q:Fin→Shared→Prop} {dx:Addr} {mA:Str→Option Value} {ns:List Str} (X:K.In s.heap) (ei:ExI K C) (hx:s.heap.get? x=some o) (hc:o.cls=.ref C) (hd:o.data=.fields vs) (hn:o.dict=some dx) (hns:s.heap.Ns1 dx mA) (hw:PySem.Within mA ns) (hz:ns.length<1000)
  (k:∀ h' t',h'.Ns1 dx (fun y=>if y=name then some v else mA y)→(∀ b u,b≠dx→s.heap.get? b=some u→h'.get? b=some u)→Q (.done (.ret .none)) { s with heap:=h',toks:=t' }) :
  wpAny (model prog w) A (storeInOwnDict (.ref x) (.ref C) (.str name tk) name v false) Q E s:=by
 obtain ⟨cd,up,hcd,_,hh,_⟩:=ei.cls
 obtain ⟨oc,od,odt,osl⟩:=o
 dsimp only at hc hd hn
 subst hc hd hn
 refine wpAny_bind (wpAny_pure (wpAny_bind (wpAny_bind (wpAny_loadPart hx (wpAny_bind ((looks_clsIn X hcd).here ?_))))))
 rw [hh]
 refine wpAny_pure (a:=some dx) (wpAny_bind (wpAny_pure (wpAny_bind ?_)))
 refine wpAny_nsSet1 hns fun h' hn' hs=>?_
 obtain ⟨oD,esD,epD,hoD,hdD,hcD⟩:=hn'.count (PySem.Within.cons name v hw)
 refine wpAny_bind (wpAny_lookBehind hoD (by rw [hdD]; exact pastItsLine_dict (Nat.le_trans hcD (by rw [List.length_cons,sizeLine_eq]; omega))) ?_)
 exact wpAny_pure (k h' _ hn' fun b u hb hu=>(hs.2 b hb).trans hu)
end
section
variable {X:Cx} {pins:List (Addr×Obj)} {σ:St} {H:Hp} {s:Shared} {e C dx:Addr} {fs:List (Str×V)} {f:Str} {y:V} {u:Value} {A:Around} {E:Value→Shared→Prop} {Q:Unit→Shared→Prop}
theorem setx_new (I:Inv X pins σ H s) (he:H e=some (ExcM e C none)) (ei:ExI X.K C) (hn:findIn X.K (.ref C) f=some none) (ry:RelV y u)
  (k:∀ d s',H d=none→d≠e→Inv X pins σ (upd (upd H d (XdO d [(f,y)])) e (ExcM e C (some d))) s'→Q () s'):wpAny (model X.prog X.w) A (setAttr (.ref e) f u) Q E s:=by
 have p:ExcMAt e C none s.heap:=(show ObjOk X.prog X.w H s.heap e (.ext (ExcMAt e C none)) from I.hok e _ he).1
 obtain ⟨o,a0,hx,hc,hd,hdn⟩:=id p
 refine setx I.kIn ei (ExcAt.looks p.at) hn (storex_new (s:={ s with toks:=s.toks+1 }) I.kIn ei hx hc hd hdn fun h' t' g1 g2 g3=>?_)
 have ne:s.heap.objs.size≠e:=Nat.ne_of_gt (Heap.lt_size hx)
 refine k s.heap.objs.size _ (I.hok.fresh (Nat.le_refl _)) ne ?_
 have xd:XdAt s.heap.objs.size [(f,y)] h':=by
  refine ⟨_,g2,fun n=>?_,fun n hn=>?_⟩
  ·show RelO (List.lookup n [(f,y)]) (if n=f then some u else none)
   rw [List.lookup_cons]
   by_cases z:n=f
   ·subst z; simp only [beq_self_eq_true,if_true]; exact ry
   ·rw [if_neg z,show (n==f)=false from beq_eq_false_iff_ne.mpr z]; exact True.intro
  ·by_cases z:n=f
   ·subst z; simp
   ·exact absurd (if_neg z) hn
 obtain ⟨od,es,ep,hod,_⟩:=id g2
 have fr:od.isFreed=false:=(Heap.get?_some_iff.mp hod).2
 have gd:(s.heap.push od).get? s.heap.objs.size=some od:=Heap.get?_push_size s.heap fr
 have I1:Inv X pins σ (upd H s.heap.objs.size (XdO s.heap.objs.size [(f,y)])) { s with heap:=s.heap.push od,toks:=t' } :=
  I.laid (fun b v z=>Heap.get?_push_of_some _ z) (Nat.le_refl _) ⟨XdAt.stay _ _ xd fun o z=>by rw [hod] at z; cases z; exact gd,⟨_,gd⟩,XdAt.stay⟩
 refine I1.write (x:=e) (e:=e) (o:=ExcM e C (some s.heap.objs.size)) (h':=h') (t':=t') (by rw [upd_ne (Ne.symm ne),he]; exact True.intro) (.inl rfl) (fun b v hb z=>?_) ⟨_,g1⟩ ⟨⟨_,a0,g1,hc,hd,rfl⟩,⟨_,g1⟩,ExcMAt.stay⟩
 by_cases q:b=s.heap.objs.size
 ·subst q
  rw [show ({ s with heap:=s.heap.push od,toks:=t' }:Shared).heap=s.heap.push od from rfl,gd] at z
  cases z
  exact hod
 ·have z':(s.heap.push od).get? b=some v:=z
  rcases Heap.get?_push_cases z' with ⟨r,_⟩ | r
  ·exact absurd r q
  ·exact g3 b v hb r
theorem setx_more (I:Inv X pins σ H s) (he:H e=some (ExcM e C (some dx))) (hD:H dx=some (XdO dx fs)) (ei:ExI X.K C) (hn:findIn X.K (.ref C) f=some none) (hl:fs.length<1000) (ry:RelV y u)
  (k:∀ s',Inv X pins σ (upd H dx (XdO dx (putF f y fs))) s'→Q () s'):wpAny (model X.prog X.w) A (setAttr (.ref e) f u) Q E s:=by
 have p:ExcMAt e C (some dx) s.heap:=(show ObjOk X.prog X.w H s.heap e (.ext (ExcMAt e C (some dx))) from I.hok e _ he).1
 obtain ⟨o,a0,hx,hc,hd,hdn⟩:=id p
 obtain ⟨mA,ns,rel,wi⟩:XdAt dx fs s.heap:=(show ObjOk X.prog X.w H s.heap dx (.ext (XdAt dx fs)) from I.hok dx _ hD).1
 refine setx I.kIn ei (ExcAt.looks p.at) hn (storex_more (s:={ s with toks:=s.toks+1 }) I.kIn ei hx hc hd hdn ns wi (by rw [List.length_map]; exact hl) fun h' t' g2 g3=>?_)
 have hd':∃ o,h'.get? dx=some o:=let ⟨o,_,_,z,_⟩:=g2; ⟨o,z⟩
 refine k _ (I.write (x:=dx) (e:=dx) (by rw [hD]; exact True.intro) (.inl rfl) g3 hd' ⟨⟨_,g2,fun n=>?_,fun n hn=>?_⟩,hd',XdAt.stay⟩)
 ·show RelO ((putF f y fs).lookup n) (if n=f then some u else mA n)
  rw [lookup_putF]
  by_cases q:n=f
  ·rw [if_pos q,if_pos q]; exact ry
  ·rw [if_neg q,if_neg q]; exact rel n
 ·by_cases q:n=f
  ·rw [q]; exact (keys_putF f y fs).1
  ·refine (keys_putF f y fs).2 n (wi n fun z=>hn ?_)
   show (if n=f then some u else mA n)=none
   rw [if_neg q]; exact z
end
theorem upd_id {H:Hp} {a:Addr} {o:HO} (h:H a=some o):upd H a o=H:=by
 funext b
 unfold upd
 by_cases z:b=a
 ·rw [if_pos z,z,h]
 ·rw [if_neg z]
section
variable {X:Cx} {pins:List (Addr×Obj)} {σ:St} {H:Hp} {s:Shared} {e C:Addr} {xo:Option Addr} {u:Value} {A:Around} {E:Value→Shared→Prop} {Q:Value→Shared→Prop}
theorem xinit (I:Inv X pins σ H s) (he:H e=some (ExcM e C xo)) (ei:ExI X.K C)
  (k:∀ s',Inv X pins σ H s'→Q .none s'):wpAny (model X.prog X.w) A (call (.builtin "ValueError.__init__") [.ref e,u]) Q E s:=by
 have p:ExcMAt e C xo s.heap:=(show ObjOk X.prog X.w H s.heap e (.ext (ExcMAt e C xo)) from I.hok e _ he).1
 obtain ⟨o,a0,hx,hc,hd,hdn⟩:=id p
 obtain ⟨nm,qn,N,bs,up,sn,sub,ab,col,dd,k0,k1,k2,k3,k5,hl,tl⟩:=exi_of ei.ex
 have cl:=I.kIn _ _ hl
 have T:=tail_of_in I.kIn tl
 have F:=PySem.F.excBase_ValueError
 obtain ⟨hh,g,d,t,os⟩:=s
 refine wpAny_call (codeAny_call_builtin F.init.plain F.initEntry (wpAny_check_init_subT F T cl hx hc ?_))
 obtain ⟨oc,od,odt,osl⟩:=o
 dsimp only at hc hd hdn
 subst hc hd hdn
 wp_walk
 have fin:Q Value.none ⟨(hh.push { cls:=.type "tuple",data:=.seq #[u] }).update e (Obj.mapFields fun x=>x.setIfInBounds 0 (.ref hh.objs.size)),g,d,t,os⟩:=by
  have g1:=Heap.get?_update_self (Obj.mapFields fun x=>x.setIfInBounds 0 (.ref hh.objs.size)) (Heap.get?_push_of_some { cls:=.type "tuple",data:=.seq #[u] } hx) rfl
  refine k _ ?_
  have J:=I.write (x:=e) (e:=e) (o:=ExcM e C od) (h':=(hh.push { cls:=.type "tuple",data:=.seq #[u] }).update e (Obj.mapFields fun x=>x.setIfInBounds 0 (.ref hh.objs.size))) (t':=t) (by rw [he]; exact True.intro) (.inl rfl) (fun b v hb z=>?_) ⟨_,g1⟩ ⟨⟨_,.ref hh.objs.size,g1,rfl,rfl,rfl⟩,⟨_,g1⟩,ExcMAt.stay⟩
  ·rw [upd_id he] at J
   exact J
  ·rw [Heap.get?_update_other _ _ (Ne.symm hb)]
   exact Heap.get?_push_of_some _ z
 show wpAny _ _ (match a0 with | .ref a=>letGo [a0] | _=>pure ()) _ _ _
 cases a0<;>first | (refine wpAny_pure (wpAny_pure ?_); exact fin) | (wp_walk; exact fin)
end
structure BaseI (K:PySem.W.Frag) (S:Addr):Prop where
 ga:specialIn K (.ref S) "__getattribute__"=some (some (.builtin "type.__getattribute__"))
 rd:readsIn K S (.type "type")=true
 at_:findCls K (.ref S) (.type "type") "__init__"=some (.val (.builtin "ValueError.__init__"))
def tInitX (K:PySem.W.Frag) (t:TA):TE:=fun σ H Q=>t σ H fun vs H1=>∃ (e C:Addr) (xo:Option Addr) (y:V),vs=[.ref e,y]∧H1 e=some (ExcM e C xo)∧ExI K C∧Q .non H1
theorem rd_initX {K:PySem.W.Frag} {t:TA} {σ:St} {H:Hp} {Q:VK} (h:t σ H fun vs H1=>∃ (e C:Addr) (xo:Option Addr) (y:V),vs=[.ref e,y]∧H1 e=some (ExcM e C xo)∧ExI K C∧Q .non H1):tInitX K t σ H Q:=h
section
variable {X:Cx} {S:Addr} {x:Str} {p pos apos:Pos} {e o:Expr} {es:List Expr} {t:TA}
theorem pe_initX {pl:Sem Bool} (hg:Gl X x) (hm:X.mg x=some (.ref S)) (c:BaseI X.K S) (ha:PA X (e::es) t)
  (hdb:(x==("__debug__":Str))=false:=by decide)
  (hst:starEach (e::es) X.env=(false,eval e X.env)::starEach es X.env:=by rfl) (hpl:(backTo pos (starEach es X.env)).any (·.1)=false:=by rfl)
  (ht:eval (.Call (.Attribute (.Name x p) "__init__" apos) (e::es) [] pos) X.env=(do
   let ov ← eval (.Name x p) X.env
   standAt apos.atName
   let (f,first) ← holding [ov] (getMethod ov "__init__" pl)
   callWith pos f first (backTo pos (starEach (e::es) X.env)) (backToKw pos (keywordEach [] X.env))):=by rfl) :
  PE X (.Call (.Attribute (.Name x p) "__init__" apos) (e::es) [] pos) (tInitX X.K t):=by
 intro pins s σ H Q I h
 refine PySem.W.methodCall_KW (pl:=pl) (thn ((pe_glob (v:=.ref S) hg hm rfl hdb) pins s σ H (fun x H1=>x=.ref S∧H1=H) I ⟨rfl,rfl⟩) fun u s1 ⟨x,H1,I1,rx,ex,eh⟩=>?_) ht
 subst ex; subst eh
 obtain rfl:u=Value.ref S:=rx
 refine PySem.W.method_cls I1.kIn c.ga (PySem.W.cls_value I1.kIn c.rd c.at_ rfl ?_)
 have I2:=I1.tok (s1.toks+1)
 have hA:=ha pos pins _ σ H1 _ I2 h
 rw [hst] at hA ⊢
 refine Calls.callWith_builtin (by show (false||(backTo pos (starEach es X.env)).any (·.1))=false; rw [hpl]<;>rfl) (Calls.evalArgs_plain ?_)
 refine thn hA fun us s2 ⟨vs,H2,I3,r,q2⟩=>?_
 obtain ⟨ee,C,xo,y,rfl,he,ei,q⟩:=q2
 obtain ⟨u1,u2,rfl,r1,r2⟩:=r.two
 cases (show u1=Value.ref ee from r1)
 exact xinit I3 he ei fun s' I'=>⟨.non,H2,I',rfl,q⟩
end
def sFldX (K:PySem.W.Frag) (ta tv:TE) (f:Str):TS:=fun D σ H=>tv σ H fun y H1=>ta σ H1 fun x H2=>∃ (e C:Addr),x=.ref e∧ExI K C∧findIn K (.ref C) f=some none ∧
  ((H2 e=some (ExcM e C none)∧∀ d,H2 d=none→d≠e→D.nx σ (upd (upd H2 d (XdO d [(f,y)])) e (ExcM e C (some d)))) ∨
   ∃ dx fs,H2 e=some (ExcM e C (some dx))∧H2 dx=some (XdO dx fs)∧fs.length<1000∧D.nx σ (upd H2 dx (XdO dx (putF f y fs))))
theorem rd_fldXs {K:PySem.W.Frag} {ta tv:TE} {f:Str} {D:Ends} {σ:St} {H:Hp} (h:tv σ H fun y H1=>ta σ H1 fun x H2=>∃ (e C:Addr),x=.ref e∧ExI K C∧findIn K (.ref C) f=some none ∧
  ((H2 e=some (ExcM e C none)∧∀ d,H2 d=none→d≠e→D.nx σ (upd (upd H2 d (XdO d [(f,y)])) e (ExcM e C (some d)))) ∨
   ∃ dx fs,H2 e=some (ExcM e C (some dx))∧H2 dx=some (XdO dx fs)∧fs.length<1000∧D.nx σ (upd H2 dx (XdO dx (putF f y fs))))):sFldX K ta tv f D σ H:=h
theorem ps_fldX {X:Cx} {ta tv:TE} {f:Str} {o value:Expr} {pos pos':Pos} (ha:PE X o ta) (hv:PE X value tv) (hs:swapsWith value (some (.Attribute o f pos')) pos.line X.env=pure false):PS X (.Assign [.Attribute o f pos'] value pos) (sFldX X.K ta tv f):=by
 intro pins s σ H D I h
 refine plainObj_wpAny_Assign_Attribute (thn (hv pins s σ H _ I h) fun u s1 ⟨y,H1,I1,ry,q⟩=>thn (ha pins s1 σ H1 _ I1 q) fun ov s2 ⟨x,H2,I2,rx,e,C,ex,ei,n,q2⟩=>?_) hs
 subst ex
 obtain rfl:ov=Value.ref e:=rx
 rcases q2 with ⟨he,k⟩ | ⟨dx,fs,he,hD,hl,k⟩
 ·exact setx_new I2 he ei n ry fun d s3 hd hne I3=>⟨σ,_,I3,k d hd hne⟩
 ·exact setx_more I2 he hD ei n hl ry fun s3 I3=>⟨σ,_,I3,k⟩
section
variable {prog:Program} {w:World} {A:Around} {E:Value→Shared→Prop} {s:Shared} {K:PySem.W.Frag} {x C:Addr} {name:Str} {v:Value}
end
def del (H:Hp) (e:Addr):Hp:=fun b=>if b=e then none else H b
theorem del_ne {H:Hp} {e b:Addr} (h:b≠e):del H e b=H b:=by unfold del; rw [if_neg h]
theorem del_same {H:Hp} {e:Addr}:del H e e=none:=by unfold del; rw [if_pos rfl]
theorem Inv.untrack {X:Cx} {pins:List (Addr×Obj)} {σ:St} {H:Hp} {s:Shared} {e:Addr} {φ:Heap→Prop} (I:Inv X pins σ H s) (he:H e=some (.ext φ)):Inv X pins σ (del H e) s:=by
 have nt:∀ b u,H b=some u→(∀ ψ,u≠.ext ψ)→del H e b=some u:=fun b u z n=>by
  rw [del_ne (fun q=>by subst q; rw [he] at z; cases z; exact n φ rfl)]; exact z
 refine ⟨I.ok,I.os,I.bare,⟨I.base.keep,I.base.slot,fun b o z n hx=>?_,I.base.there,fun b xs z=>?_,fun b o u z=>?_,fun b ps z=>?_⟩,I.loc,I.cell,?_,fun x c z=>?_,fun p hp=>?_,fun b u z=>?_,I.len⟩
 ·by_cases q:b=e
  ·rw [q,del_same]
  ·rw [del_ne q]; exact I.base.free b o z n hx
 ·exact nt b _ (I.base.tups b xs z) (by intro ψ q; cases q)
 ·exact nt b _ (I.base.frzs b o u z) (by intro ψ q; cases q)
 ·obtain ⟨m,q⟩:=I.base.tbls b ps z
  exact ⟨m,nt b _ q (by intro ψ q; cases q)⟩
 ·by_cases q:X.env.locals=e
  ·rw [q,del_same]
  ·rw [del_ne q]; exact I.free
 ·by_cases q:c=e
  ·rw [q,del_same]
  ·rw [del_ne q]; exact I.freeC x c z
 ·obtain ⟨a,n,r⟩:=I.pin p hp
  refine ⟨a,?_,r⟩
  by_cases q:p.1=e
  ·rw [q,del_same]
  ·rw [del_ne q]; exact n
 ·have hb:b≠e:=fun q=>by rw [q,del_same] at z; cases z
  rw [del_ne hb] at z
  exact (I.hok b u z).stay (fun _ _ _ w=>w) (fun c w=>nt c _ w (by intro ψ q; cases q)) fun c xs w=>nt c _ w (by intro ψ q; cases q)
section
variable {M:Model} {A:Around} {E:Value→Shared→Prop} {env:Env} {K:PySem.W.Frag} {C:Addr}
theorem raise_x {s:Shared} {x:Sem Value} {Q:Flow→Shared→Prop} (ei:ExI K C) (hh:A.handled=none)
  (h:wpAny M A x (fun v s₁=>∃ e oe a0,v=.ref e∧K.In s₁.heap∧s₁.heap.get? e=some oe∧oe.cls=.ref C∧oe.data=.fields #[a0,.none,.none,.none,.bool false,.none]∧E (.ref e) s₁) E s):wpAny M A (raiseStmt env (some x) none) Q E s:=by
 obtain ⟨nm,qn,N,bs,up,sn,sub,ab,col,dd,k0,k1,k2,k3,k5,hl,tl⟩:=exi_of ei.ex
 unfold raiseStmt
 refine wpAny_bind (wpAny_mono h (fun v s₁ h₁=>?_) fun _ _ x=>x)
 obtain ⟨e,oe,a0,rfl,X,he,hc,hd,hE⟩:=h₁
 have cl:=X _ _ hl
 have hb:(Value.ref C::up).contains (.type "BaseException")=true:=by rw [List.contains_cons,(tail_of_in X tl).hasType PySem.F.excBase_ValueError.hasBase,Bool.or_true]
 obtain ⟨oc,od,odt,osl⟩:=oe
 dsimp only at hc hd
 subst hc hd
 obtain ⟨hp,g,d,tk,os⟩:=s₁
 repeat (first | with_reducible refine wpAny_loadPart_at he ?_ | with_reducible refine wpAny_loadPart_at cl ?_ | (with_reducible refine wpAny_isSubtype_exc cl ?_; rw [hb]) | wp_step)
 exact wpAny_raiseNew_none hh hE
end
structure MkX (K:PySem.W.Frag) (C f:Addr):Prop where
 ei:ExI K C
 init:findIn K (.ref C) "__init__"=some (some (.ref f))
 fn:typeIn K (.ref f)=some (.type "function")
 kp:keepIn K (.ref C)=true
def tRaiseI (C:Addr) (sp:Sp) (E:XK) (t:TA):TS:=fun _ σ H=>t σ H fun vs H1=>vs.length≤sizeLine∧∀ e,H1 e=none →
 sp (.ref e::vs) (upd H1 e (ExcM e C none)) (fun v H2=>v=.non∧∃ xo,H2 e=some (ExcM e C xo)∧E (.ref C) xo (del H2 e)) E0
theorem rd_raiseI {C:Addr} {sp:Sp} {E:XK} {t:TA} {D:Ends} {σ:St} {H:Hp} (h:t σ H fun vs H1=>vs.length≤sizeLine∧∀ e,H1 e=none →
 sp (.ref e::vs) (upd H1 e (ExcM e C none)) (fun v H2=>v=.non∧∃ xo,H2 e=some (ExcM e C xo)∧E (.ref C) xo (del H2 e)) E0):tRaiseI C sp E t D σ H:=h
theorem ps_raiseI {X:Cx} {E:XK} {x:Str} {C f:Addr} {fd:FuncData} {ps:List Str} {sp:Sp} {k:Nat} {np cpos pos:Pos} {e:Expr} {es:List Expr} {t:TA} (M:MkX X.K C f) (F:FnOk X.prog X.w X.K X.mg X.base CX0 k f fd ps sp) (hr:Room (k+1) X.A)
  (hg:Gl X x) (hm:X.mg x=some (.ref C)) (hb:Binds X.K fd ps []) (hc:X.calm=true) (hex:X.ex=[])
  (hx:∀ (pins:List (Addr×Obj)) (σ:St) (H:Hp) (s:Shared) (e:Addr) (xo:Option Addr) (oe:Obj) (vs:Array Value),Inv X pins σ H s→s.heap.get? e=some oe→oe.cls=.ref C→oe.data=.fields vs→vs[1]?=some .none→X.s₀.heap.get? e=none→H e=none→(∀ dx,xo=some dx→oe.dict=some dx)→E (.ref C) xo H→X.xe (.ref e) s)
  (ha:PA X (e::es) t) (hd:(x==("__debug__":Str))=false:=by decide) (he:starEach (e::es) X.env=(false,eval e X.env)::starEach es X.env:=by rfl) (hpl:(backTo cpos (starEach es X.env)).any (·.1)=false:=by rfl) :
  PS X (.Raise (some (.Call (.Name x np) (e::es) [] cpos)) none pos) (tRaiseI C sp E t):=by
 intro pins s σ H D I h
 rw [arm_exec_Raise]
 refine wpAny_bind (wpAny_standAt (raise_x (K:=X.K) (C:=C) M.ei (I.ok.hd hc) (wpAny_bind (wpAny_mono (wpAny_Call_Name_kw (ld_glob I hg hm ?_ hd)) (fun v s3 h3=>wpAny_bind (wpAny_standAt (wpAny_pure h3))) fun _ _ z=>z))))
 refine PySem.W.callWith_K (h₀:=X.base) I.ok.mod.kin M.kp (thn (ha cpos pins s σ H _ I h) fun us s1 ⟨vs,H1,I1,r,hz,q⟩=>⟨I1.kIn,?_⟩) he hpl
 obtain ⟨h1,g1,d1,t1,os1⟩:=s1
 rw [List.nil_append]
 refine xcall I1.kIn M.ei.ex PySem.F.excBase_ValueError M.init M.fn (by rw [← r.length]; exact hz) fun h' a mk=>?_
 have nH:H1 a=none:=I1.hok.none_of mk.new
 have n0:X.s₀.heap.get? a=none:=by
  cases z:X.s₀.heap.get? a with
  | none => rfl
  | some o => obtain ⟨o', z'⟩ := I1.base.there a o z (by rw [hex]; intro q; cases q); rw [show h1.get? a = none from mk.new] at z'; cases z'
 obtain ⟨tp,ga,_,_⟩:=mk.there
 have I2:Inv X pins σ (upd H1 a (ExcM a C none)) ⟨h',g1,d1,t1,os1⟩:=by
  refine (I1.kept (t':=t1) mk.keeps).track nH n0 (fun p hp z=>?_) ⟨_,_,ga,rfl⟩ ⟨_,_,ga,rfl,rfl,rfl⟩ ExcMAt.stay
  have hp':=(I1.pin p hp).1
  rw [z,show h1.get? a=none from mk.new] at hp'
  cases hp'
 have hq:=q a nH
 have r2:Vals (V.ref a::vs) (Value.ref a::us):=.cons rfl r
 have hl:(Value.ref a::us++[]).length=ps.length:=by
  rw [List.append_nil]
  have e:=r2.length
  rw [F.len _ _ _ _ hq] at e
  exact e.symm
 refine wpAny_call (codeAny_mono (F.run _ X.stack _ _ ⟨Value.ref a::us,[]⟩ (Value.ref a::us) _ _ E0 (hr.make C us []) (I2.env0.make C us []) (by have:=hb _ (Value.ref a::us) I2.kIn hl; rw [List.append_nil] at this; exact this) r2 hq) fun r s' hq'=>?_)
 cases r with
 | error e=>exact False.elim hq'
 | ok fl =>
  cases fl with
  | ret u =>
   obtain ⟨v,H',I3,rv,ev,xo,hM,hE⟩:=I2.after hq'
   subst ev
   refine ⟨rv,?_⟩
   obtain ⟨o,a0,y1,y2,y3,y4⟩:ExcMAt a C xo s'.heap:=(show ObjOk X.prog X.w H' s'.heap a (.ext (ExcMAt a C xo)) from I3.hok a _ hM).1
   exact ⟨a,o,a0,rfl,I3.kIn,y1,y2,y3,hx pins σ _ s' a xo o _ (I3.untrack hM) y1 y2 y3 rfl n0 del_same (fun dx z=>y4.trans z) hE⟩
  | next => exact False.elim hq'
  | brk => exact False.elim hq'
  | cont => exact False.elim hq'
def tFmt (ta:TE):TE:=fun σ H Q=>ta σ H fun v H1=>∃ n:Nat,v=.int (n:Int)∧n<100∧∀ x:Str,x.length≤100→Q (.str x) H1
theorem rd_fmt {ta:TE} {σ:St} {H:Hp} {Q:VK} (h:ta σ H fun v H1=>∃ n:Nat,v=.int (n:Int)∧n<100∧∀ x:Str,x.length≤100→Q (.str x) H1):tFmt ta σ H Q:=h
theorem text_small:∀ n:Fin 100,((toString ((n.val:Nat):Int):String):Str).length≤100:=by decide +kernel
theorem log_small:∀ n:Fin 100,(((n.val:Nat):Int)).natAbs.log2<1920:=by decide +kernel
theorem pe_fmt {X:Cx} {e:Expr} {ta:TE} {pos:Pos} (h:PE X e ta):PE X (.FormattedValue e (-1) none pos) (tFmt ta):=by
 intro pins s σ H Q I q
 refine FormattedValue_plain (thn (h pins s σ H _ I q) fun u s1 ⟨v,H1,I1,r,n,ev,hn,k⟩=>?_)
 subst ev
 obtain ⟨t,rfl⟩:=r
 exact formatField_int_small (log_small ⟨n,hn⟩) ⟨.str (toString ((n:Nat):Int):String),H1,I1.tok _,⟨_,rfl⟩,k _ (text_small ⟨n,hn⟩)⟩
def tFs:List TE→Nat→St→Hp→(Hp→Prop)→Prop
 | [],_,_,H,R=>R H
 | t::ts,k,σ,H,R=>t σ H fun v H1=>∃ x:Str,v=.str x∧x.length≤100∧tFs ts k σ H1 R
def tFstr (ts:List TE):TE:=fun σ H Q=>tFs ts 0 σ H fun H1=>∀ x:Str,Q (.str x) H1
inductive PEs (X:Cx):List Expr→List TE→Prop
 | nil:PEs X [] []
 | cons {e:Expr} {es:List Expr} {t:TE} {ts:List TE}:PE X e t→PEs X es ts→PEs X (e::es) (t::ts)
theorem join_ok {X:Cx} {pins:List (Addr×Obj)} {σ:St} {Q:VK} {k:Nat}:∀ {es:List Expr} {ts:List TE} {s:Shared} {H:Hp} {out:Str},PEs X es ts→out.length+100*es.length≤sizeLine→Inv X pins σ H s →
  tFs ts k σ H (fun H1=>∀ x:Str,Q (.str x) H1)→wpAny (model X.prog X.w) X.A (joinParts out (evalEach es X.env)) (EP X pins σ Q) X.xe s
 | [],_,s,H,out,.nil,hz,I,h=>joinParts_nil ⟨.str out,H,I.tok _,⟨_,rfl⟩,h _⟩ (by simpa using hz)
 | e::es,t::ts,s,H,out,.cons he hs,hz,I,h=>by
  rw [List.length_cons] at hz
  show wpAny _ _ (joinParts out (eval e X.env::evalEach es X.env)) _ _ _
  refine joinParts_cons (thn (he pins s σ H _ I h) fun u s1 ⟨v,H1,I1,r,x,ev,hx,q⟩=>?_)
  subst ev
  obtain ⟨t,rfl⟩:=r
  have hl:(out++x).length=out.length+x.length:=strLen_append _ _
  exact ⟨by rw [hl]; omega,join_ok hs (by rw [hl]; omega) I1 q⟩
theorem pe_fstr {X:Cx} {e1 e2:Expr} {es:List Expr} {ts:List TE} {pos:Pos} (h:PEs X (e1::e2::es) ts) (hz:es.length≤20):PE X (.JoinedStr (e1::e2::es) pos) (tFstr ts):=fun pins s σ H Q I q =>
 JoinedStr_many (join_ok (k:=0) (out:=Str.empty) h (by have:(Str.empty).length=0:=rfl; rw [this,List.length_cons,List.length_cons,sizeLine_eq]; omega) I q)
theorem rd_fstr {ts:List TE} {σ:St} {H:Hp} {Q:VK} (h:tFs ts 0 σ H fun H1=>∀ x:Str,Q (.str x) H1):tFstr ts σ H Q:=h
end L2
set_option Elab.async false
set_option linter.all false
set_option maxRecDepth 100000
set_option maxHeartbeats 4000000
namespace L2
open PySem PySem.Spec PyProof.Rows PySem.W
theorem exi_mk {K:PySem.W.Frag} {C S:Addr} {line:List Value} {nid:String} {dd:Option Addr} {k:ClassData} {ss:Array (Option Value)} {k0 k1 k2 k3 k5:Option Value}
  (hl:K.lookup C=some ⟨.type "type",dd,.cls k,ss⟩) (hm:k.mro=.ref C::.ref S::line) (hs:ss.toList=[k0,k1,k2,k3,some (.builtin nid),k5]) (hdel:k.hasDel=false) (hd:k.hasDict=true) (xs:excIn K S line nid=true):exiK K C line nid=true:=by
 have tl:tailIn K line (.ref S::line)=true:=by
  have tt:tailIn K line line=true:=by
   cases line with
   | nil=>rfl
   | cons v r=>unfold tailIn; rw [show ((v::r)==(v::r))=true from beq_self_eq_true _]; rfl
  unfold tailIn
  unfold excIn at xs
  split at xs
  case h_2=>cases xs
  case h_1 dd' cd sl ho =>
   split at xs
   case h_2=>cases xs
   case h_1 =>
    simp only [Bool.and_eq_true] at xs
    dsimp only
    rw [ho]
    simp only [Bool.or_eq_true,Bool.and_eq_true]
    exact .inr ⟨⟨xs.1.2,xs.2⟩,tt⟩
 unfold exiK
 simp only [hl,hm,hs]
 simp only [hdel,hd,tl,beq_self_eq_true,Bool.not_false,Bool.and_self]
theorem del_made {H:Hp} {e d C:Addr} {fs:List (Str×V)} {o1 o2:HO} (he:H e=none) (ne:d≠e):del (upd (upd (upd H e o1) d (XdO d fs)) e o2) e=upd H d (XdO d fs):=by
 funext b
 unfold del upd
 by_cases q:b=e
 ·subst q
  rw [if_pos rfl,if_neg (Ne.symm ne),he]
 ·rw [if_neg q,if_neg q]
  by_cases r:b=d
  ·rw [if_pos r,if_pos r]
  ·rw [if_neg r,if_neg r,if_neg q]
theorem pe_bmK {X:Cx} (K:PySem.W.Frag) (hK:X.K=K) {T:String} {name:Str} {id:String} {r:V→List V→Hp→VK→Prop} {o e:Expr} {es:List Expr} {to:TE} {t:TA} {apos cpos:Pos} (pa:PlainAttrs T) (slot:Slot T name id) (hty:typeOf (.builtin id)=pure (.type "method_descriptor")) (hm:MtR X id r) (ho:PE X o to) (ha:PA X (e::es) t)
  (hbase:attributeBase o name X.env (eval o X.env)=eval o X.env:=by rfl)
  (hfew:((backTo cpos (starEach (e::es) X.env)).all (fun x=>!x.1)&&(backToKw cpos (keywordEach [] X.env)).all (fun x=>x.1.isSome)
   && decide ((e::es).length+([]:List Keyword).length+(if ([]:List Keyword).isEmpty then 0 else 1)<30))=true:=by rfl)
  (hline:(apos.endLine==cpos.line)=true:=by rfl) (hs:starEach (e::es) X.env=(false,eval e X.env)::starEach es X.env:=by rfl) (hplain:(backTo cpos (starEach es X.env)).any (·.1)=false:=by rfl) :
  PE X (.Call (.Attribute o name apos) (e::es) [] cpos) (tBM K T r to t):=hK ▸ pe_bm pa slot hty hm ho ha hbase hfew hline hs hplain
end L2
set_option Elab.async false
set_option linter.all false
set_option maxRecDepth 100000
set_option maxHeartbeats 4000000
namespace L2
open PySem PySem.Spec PyProof.Rows
end L2
set_option Elab.async false
set_option linter.all false
set_option maxRecDepth 100000
set_option maxHeartbeats 4000000
namespace Fc
def it:Nat→Nat→Nat
 | 0,x=>x
 | n+1,x=>it n (5*x+1)
end Fc
set_option Elab.async false
set_option linter.all false
set_option maxRecDepth 100000
set_option maxHeartbeats 4000000
namespace Fc
open PySem PySem.SetTable
def st (mask:Nat) (q:Nat×Nat):Probe:={ j:=q.1,more:=runEnd mask q.1 - q.1,i:=q.1,perturb:=q.2,dummy:=none }
end Fc
set_option Elab.async false
set_option linter.all false
set_option maxRecDepth 100000
set_option maxHeartbeats 4000000
namespace Fc
open PySem PySem.SetTable PyProof.Rows
section
variable {prog:Program} {w:World} {A:Around} {E:Value→Shared→Prop} {s:Shared}
abbrev TK (prog:Program) (w:World) (h:Heap) (q:List Int) (b:Addr):Prop:=IsTupleKey (intKind prog w) h q b
end
end Fc
set_option Elab.async false
set_option linter.all false
set_option maxRecDepth 100000
set_option maxHeartbeats 4000000
namespace Fc
open PySem PySem.SetTable PyProof.Rows
section
variable {prog:Program} {w:World} {A:Around} {E:Value→Shared→Prop} {s:Shared}
def Els (prog:Program) (w:World) (h:Heap) (es:Array (Int×Value)) (ks:List (List Int)):Prop:=∀ e∈es.toList,∃ q∈ks,∃ b,e.2=.ref b∧TK prog w h q b
end
end Fc
set_option Elab.async false
set_option linter.all false
set_option maxRecDepth 100000
set_option maxHeartbeats 4000000
namespace Fc
open PySem PySem.SetTable PyProof.Rows
end Fc
set_option Elab.async false
set_option linter.all false
set_option maxRecDepth 100000
set_option maxHeartbeats 4000000
namespace Fc
open PySem PySem.SetTable PyProof.Rows
section
variable {prog:Program} {w:World} {A:Around} {E:Value→Shared→Prop} {s:Shared}
def TSet (prog:Program) (w:World) (h:Heap) (a:Addr) (ks:List (List Int)):Prop:=∃ o es ep t k,h.get? a=some o∧o.ExactSet∧o.data=.set es ep t∧t.mask+1=2 ^ k∧3≤k∧k≤13∧t.dummies=#[]∧t.place.size=es.size∧es.size=ks.length∧es.size*5<t.mask*3∧Els prog w h es ks
end
end Fc
set_option Elab.async false
set_option linter.all false
set_option maxRecDepth 100000
set_option maxHeartbeats 4000000
namespace Fc
open PySem PySem.SetTable PyProof.Rows
section
variable {prog:Program} {w:World} {A:Around} {R:Result→Shared→Prop} {E:Value→Shared→Prop}
variable {I S:Addr} {fp wr:List Addr} {G:Array GenState→Array GenState→Prop} {n:Nat} {P:Nat→Value→Prop} {St:Nat→Shared→Prop}
end
section
variable {prog:Program} {w:World} {A:Around} {E:Value→Shared→Prop} {s:Shared}
end
end Fc
set_option Elab.async false
set_option linter.all false
set_option maxRecDepth 100000
set_option maxHeartbeats 4000000
namespace L2
open PySem PySem.Spec PyProof.Rows PySem.W
end L2
set_option Elab.async false
set_option linter.all false
set_option maxRecDepth 100000
set_option maxHeartbeats 4000000
namespace L2
open PySem PySem.Spec PyProof.Rows PySem.W
end L2
set_option Elab.async false
set_option linter.all false
set_option maxRecDepth 100000
set_option maxHeartbeats 4000000
namespace L2
open PySem PySem.Spec PyProof.Rows PySem.W
def sgn (c:Nat):Str:=⟨#[c]⟩
def Itx (x:Str):It:=⟨fun i _=>i<x.cps.size,fun i H v H'=>H'=H∧∃ c,x.cps[i]?=some c∧v=.str (sgn c),fun i _=>x.cps.size≤i⟩
theorem turn_text {P:Program} {w:World} {K:PySem.W.Frag} {tg:Expr} {ty:String} (it:Addr) (x:Str) (t:Tok) (hty:ty="str_ascii_iterator"∨ty="str_iterator"):Turn P w K tg (Itx x) [it] it (fun i h=>h.IsStrIter it ty x t i) where
  mem:=by simp
  obj:=fun i h st b hb=>by
    have e:b=it:=by simpa using hb
    subst e
    obtain ⟨o,e,c,d⟩:=st
    exact ⟨o,e,fun v z=>by rw [d] at z; cases z⟩
  keep:=fun i h h' st k=>let ⟨o,ho,r⟩:=st; ⟨o,k it (by simp) o ho,r⟩
  item:=by
    intro X hP hw hK hc i pins s σ H E I hf st hg
    subst hP hw hK
    have hg:i<x.cps.size:=hg
    obtain ⟨f0,f1,f2,f3,f4,f5⟩:=hf it (by simp)
    have key:∀ h':Heap,h'.IsStrIter it ty x t (i+1)→Heap.SameBut it s.heap h' →
        ∃ u,some (Value.str ⟨#[x.cps[i]]⟩ s.toks)=some u∧wpAny (model X.prog X.w) X.A (letOwnedTupleGo tg (.ref it) u) (fun _ s2=>∃ x_1 H',Inv X pins σ H' s2∧RelV x_1 u∧(Itx x).yld i H x_1 H'∧s2.heap.IsStrIter it ty x t (i+1)∧∀ b∈[it],H' b=none) E { s with heap:=h',toks:=s.toks+1 }:=fun h' st' sb=>by
      have I1:Inv X pins σ H { s with heap:=h',toks:=s.toks+1 }:=I.turned (fun b o hb e=>(sb.2 b hb).trans e) f0 f1 f3 f4 f5
      obtain ⟨o,e,c,d⟩:=id st'
      exact ⟨_,rfl,go_of (s:={ s with heap:=h',toks:=s.toks+1 }) e c d (by rcases hty with z | z<;>rw [z]<;>decide) ⟨.str (sgn x.cps[i]),H,I1,⟨_,rfl⟩,⟨rfl,_,by simp [hg],rfl⟩,st',fun b hb=>(hf b hb).1⟩⟩
    rcases hty with z | z
    · subst z
      exact wpAny_pyNext_ascii_item st (c:=x.cps[i]) (by simp [hg]) key
    · subst z
      exact wpAny_pyNext_wide_item st (c:=x.cps[i]) (by simp [hg]) key
  done:=by
    intro X hP hw hK hc i pins s σ H E I hf st hg
    subst hP hw hK
    have hg:x.cps.size≤i:=hg
    obtain ⟨f0,f1,f2,f3,f4,f5⟩:=hf it (by simp)
    have key:∀ h':Heap,Heap.ExtBut it s.heap h'→(none:Option Value)=none∧Inv X pins σ H { s with heap:=h' }:=fun h' eb=>⟨rfl,I.turned (t':=s.toks) (fun b o hb e=>eb b o hb e) f0 f1 f3 f4 f5⟩
    rcases hty with z | z
    · subst z
      exact wpAny_pyNext_ascii_end (I.ok.hd hc) st (by simp; omega) key
    · subst z
      exact wpAny_pyNext_wide_end (I.ok.hd hc) st (by simp; omega) key
  self:=fun A i s Q E st h=>by
    rcases hty with z | z
    · subst z; exact wpAny_pyIter_striter_ascii st h
    · subst z; exact wpAny_pyIter_striter_wide st h
def iText (tl:TE):TI:=fun σ H R=>tl σ H fun v H1=>∃ x:Str,v=.str x∧R (Itx x) H1
theorem rd_itext {tl:TE} {σ:St} {H:Hp} {R:It→Hp→Prop} (h:tl σ H fun v H1=>∃ x:Str,v=.str x∧R (Itx x) H1):iText tl σ H R:=h
theorem pi_text {X:Cx} {tg l:Expr} {tl:TE} (hl:PE X l tl):PI X tg l (iText tl):=by
 intro pins s σ H R I h
 refine thn (hl pins s σ H _ I h) fun v s1 ⟨x,H1,I1,r1,q1⟩=>?_
 obtain ⟨x,rfl,q⟩:=q1
 obtain ⟨t,rfl⟩:=r1
 have fin:∀ (ty:String),(ty="str_ascii_iterator"∨ty="str_iterator")→PIE X pins σ tg R (.ref s1.heap.objs.size) { s1 with heap:=s1.heap.push { cls:=.type ty,data:=.fields #[.str x t,.int 0 0] } }:=fun ty hty=>by
  refine ⟨s1.heap.objs.size,[s1.heap.objs.size],_,_,H1,rfl,I1.kept (t':=s1.toks) fun b o e=>Heap.get?_push_of_some _ e,turn_text _ x t hty,⟨_,Heap.get?_push_size _ rfl,rfl,rfl⟩,fun b hb=>?_,q⟩
  have e:b=s1.heap.objs.size:=by simpa using hb
  subst e
  exact I1.fpOk (Nat.le_refl _) (I1.hok.fresh (Nat.le_refl _))
 cases ha:x.cps.all (·<128)
 ·exact wpAny_pyIter_wide ha (fin _ (.inr rfl))
 ·exact wpAny_pyIter_ascii ha (fin _ (.inl rfl))
theorem compW_textL {σ:St} {H:Hp} {Q:VK} {te:TE} {cap:List (Option Nat)} {l:Addr} {x:Str} (ys:List V) (hy:ys.length=x.cps.size) (hz:x.cps.size≤1000) (hl:H l=none)
  (step:∀ (i:Nat) c y o H' (Q':VK),x.cps[i]?=some c→ys[i]?=some y→Same H H'→(∀ H5,Same H' H5→Q' y H5)→te (((capS (none::cap) σ).set 0 o).set 0 (some (.str (sgn c)))) H' Q')
  (fin:∀ H',Same H H'→H' l=some (.lst ys)→Q (.ref l) H'):CompW (Itx x) (gName 0) tTrue te (none::cap) l σ H Q:=by
 refine ⟨x.cps.size,fun i zs σ' H'=>zs=ys.take i∧(∃ o,σ'=(capS (none::cap) σ).set 0 o)∧Same H H'∧H' l=some (.lst zs),⟨rfl,⟨none,rfl⟩,Same.new hl,upd_same⟩,?_,?_⟩
 ·rintro i zs σ' H' hi ⟨rfl,⟨o,rfl⟩,s,e⟩
  refine ⟨hi,fun v H2 y=>?_⟩
  obtain ⟨e2,c,hc,rfl⟩:=y
  subst e2
  have hyi:i<ys.length:=by omega
  refine rd_name (rd_true (iteT ?_))
  refine step i c ys[i] o H2 _ hc (List.getElem?_eq_getElem hyi) s fun H5 s5=>⟨s5 _ _ e,?_,?_⟩
  ·rw [List.length_take]
   exact small1000 (by omega)
  ·exact ⟨List.take_append_getElem hyi,⟨_,List.set_set ..⟩,(s.trans s5).later hl,upd_same⟩
 ·rintro zs σ' H' ⟨rfl,_,s,e⟩
  rw [List.take_of_length_le (by omega)] at e
  exact ⟨Nat.le_refl _,fin H' s e⟩
theorem strs_rel:∀ {xs:List Str} {us:List Value},Vals (xs.map V.str) us→∃ l:List (Str×Tok),us=strValues l∧l.map (·.1)=xs
 | [],us,h=>by cases h; exact ⟨[],rfl,rfl⟩
 | x::xs,us,h=>by
  cases h with
  | cons h1 h2 =>
   obtain ⟨t,rfl⟩:=(show ∃ t,_=Value.str x t from h1)
   obtain ⟨l,rfl,rfl⟩:=strs_rel h2
   exact ⟨(x,t)::l,rfl,rfl⟩
def rJoin:V→List V→Hp→VK→Prop:=fun x ys H Q=>∃ (a:Str) (p:Addr) (ts:List Str),x=.str a∧ys=[.ref p]∧H p=some (.lst (ts.map V.str))∧JoinOk a ts=true∧Q (.str (Txt.join a ts)) H
theorem mt_join {X:Cx}:MtR X "str.join" rJoin:=by
 intro pins s σ H x ys v us Q I rx rv h
 obtain ⟨x,p,ts,rfl,rfl,hp,hok,q⟩:=h
 obtain ⟨t,rfl⟩:=rx
 obtain ⟨u,rfl,ru⟩:=rv.one
 cases ru
 obtain ⟨z,its,n,r,hl,e⟩:=I.lstM hp
 obtain ⟨l,rfl,ht⟩:=strs_rel r
 exact SC.join (l:=l) ⟨_,e,rfl,n,rfl⟩ ht hok fun t' k=>⟨.str _,H,I.tok _,⟨_,rfl⟩,q⟩
theorem sl_part {v:Value} {o:Option Int} (h:IsPart v o):∃ p:Option (Int×Tok),v=partValue p∧p.map (·.1)=o:=by
 cases h with
 | none=>exact ⟨none,rfl,rfl⟩
 | int i t=>exact ⟨some (i,t),rfl,rfl⟩
def rSlX:V→Option Int→Option Int→Hp→VK→Prop:=fun x lo hi H Q=>∃ a:Str,x=.str a∧a.length≤sizeLine∧Q (.str (Txt.slice a lo hi)) H
theorem sl_text {X:Cx}:SlR X rSlX:=by
 intro pins s σ H x v vl vu lo hi sl Q I rx hs pl pu h
 obtain ⟨a,rfl,hz,q⟩:=h
 obtain ⟨t,rfl⟩:=rx
 obtain ⟨l,rfl,rfl⟩:=sl_part pl
 obtain ⟨u,rfl,rfl⟩:=sl_part pu
 refine ⟨"str",_,F.slot_str_getitem.lookup,typeIs_str _ _ _,wpAny_getItem_str_slice (l:=l) (u:=u) (st:=none) hs rfl ?_⟩
 exact post_val_or_str ⟨Nat.le_trans (Txt.slice_le a _ _) hz,fun t' k=>⟨.str _,H,I.tok _,⟨_,rfl⟩,q⟩⟩
end L2
set_option Elab.async false
set_option linter.all false
set_option maxRecDepth 100000
set_option maxHeartbeats 4000000
namespace L2
open PySem PySem.Spec PyProof.Rows PySem.W
theorem rel_key {k:Key} {v:Value} (h:keyIs k v=true):RelV (kV k) v:=by
 rcases keyIs_shape h with ⟨i,t,rfl,rfl⟩ | ⟨x,t,rfl,rfl⟩
 ·exact ⟨t,rfl⟩
 ·exact ⟨t,rfl⟩
def rDictC:List V→Hp→VK→Prop:=fun xs H Q=>∃ (d:Addr) (kvs:List (Key×V)),xs=[.ref d]∧H d=some (.dK kvs)∧∀ p,H p=none→Q (.ref p) (upd H p (.dK kvs))
theorem cI_dictC {X:Cx}:CallR X (.type "dict") rDictC:=by
 intro pins s σ H xs us Q I r h
 obtain ⟨d,kvs,rfl,hd,q⟩:=h
 obtain ⟨u,rfl,rx⟩:=vals1 r
 cases rx
 obtain ⟨z,lo,vs,rel,dof⟩:=dk_of I.hok hd
 have hl:vs.length≤sizeLine:=by rw [← rel.length]; exact z
 refine kt_call_dict (knd:=mixKind X.prog X.w) lo dof hl fun h' dof' sb=>?_
 have big:=I.big
 refine ⟨.ref s.heap.objs.size,_,I.laid (a:=s.heap.objs.size) (o:=.dK kvs) (t':=s.toks) (fun b u hb=>(sb.2 b (Nat.ne_of_lt (Heap.lt_size hb))).trans (Heap.get?_push_of_some _ hb)) (Nat.le_refl _) ⟨z,?_,vs,rel,dof'⟩,rfl,q _ (I.hok.fresh (Nat.le_refl _))⟩
 rw [beq_eq_false_iff_ne]
 exact Nat.ne_of_gt big
theorem vals_of:∀ {xs:List V} {us:List Value},xs.length=us.length→(∀ (i:Nat) x u,xs[i]?=some x→us[i]?=some u→RelV x u)→Vals xs us
 | [],[],_,_=>.nil
 | [],_::_,h,_=>by simp at h
 | _::_,[],h,_=>by simp at h
 | x::xs,u::us,h,k=>.cons (k 0 x u rfl rfl) (vals_of (by simpa using h) fun i a b ha hb=>k (i+1) a b (by simpa using ha) (by simpa using hb))
def rListK:List V→Hp→VK→Prop:=fun xs H Q=>∃ (d:Addr) (kvs:List (Key×V)),xs=[.ref d]∧H d=some (.dK kvs)∧∀ l,H l=none→Q (.ref l) (upd H l (.lst (kvs.map fun p=>kV p.1)))
theorem cI_listK' {X:Cx} (hc:X.calm=true):CallR X (.type "list") rListK:=by
 intro pins s σ H xs us Q I r h
 obtain ⟨d,kvs,rfl,hd,q⟩:=h
 obtain ⟨u,rfl,rx⟩:=vals1 r
 cases rx
 obtain ⟨z,lo,vs,rel,dof⟩:=dk_of I.hok hd
 obtain ⟨ep,at'⟩:=dof.dictAt
 have hl:kvs.length=vs.length:=rel.length
 refine kdl_call (kdl_dict (knd:=mixKind X.prog X.w) (kvs:=vs) (ep:=ep) lo) (I.ok.hd hc) at' (by rw [← hl]; exact z) fun h' tk acc c kp e it=>?_
 have la:acc.toList.length=kvs.length:=by rw [Array.length_toList,it.1,hl]
 have rr:Vals (kvs.map fun p=>kV p.1) acc.toList:=by
  refine vals_of (by rw [List.length_map,la]) fun i x v hx hv=>?_
  obtain ⟨k,u,h1,h2⟩:=it.2 i v (by rw [← Array.getElem?_toList]; exact hv)
  obtain ⟨w',h3,_⟩:=kv_get rel h1
  rw [List.getElem?_map,h3] at hx
  cases hx
  exact rel_key h2
 refine ⟨.ref s.heap.objs.size,_,I.laid (a:=s.heap.objs.size) (o:=.lst (kvs.map fun p=>kV p.1)) (t':=tk) kp (Nat.le_refl _) ⟨by rw [List.length_map]; exact z,_,c,rr,?_⟩,rfl,q _ (I.hok.fresh (Nat.le_refl _))⟩
 rw [e,Array.toArray_toList]
def Itk (d:Addr) (F:HO) (kvs:List (Key×V)):It :=
 ⟨fun i H=>H d=some F∧i<kvs.length,fun i H x H'=>H'=H∧∃ k v,kvs[i]?=some (k,v)∧x=kV k,fun i H=>H d=some F∧kvs.length≤i⟩
theorem turn_keys {P:Program} {w:World} {K:PySem.W.Frag} {tg:Expr} (d it:Addr) (kvs:List (Key×V)) (vs:List (Key×Value)) (ep:Nat) :
  Turn P w K tg (Itk d (FzO P w d kvs vs ep) kvs) [it] it (fun i h=>h.IsKeyIter it d i vs.length ep) where
 mem:=by simp
 obj:=fun i h st b hb=>by
  have e:b=it:=by simpa using hb
  subst e
  obtain ⟨o,e,c,d⟩:=st
  exact ⟨o,e,fun v z=>by rw [d] at z; cases z⟩
 keep:=fun i h h' st k=>st.at fun o e=>k it (by simp) o e
 item:=by
  intro X hP hw hK hc i pins s σ H E I hf st hg
  subst hP hw hK
  obtain ⟨hd,hi⟩:=hg
  obtain ⟨⟨z,lo,rel,at'⟩,_,_⟩:=(show ObjOk X.prog X.w H s.heap d (.ext (FzAt X.prog X.w d kvs vs ep)) from I.hok d _ hd)
  have hl:i<vs.length:=by rw [← rel.length]; exact hi
  obtain ⟨⟨k,u⟩,hu⟩:∃ q,vs[i]?=some q:=⟨_,List.getElem?_eq_getElem hl⟩
  obtain ⟨x,hx,ru⟩:=kv_get rel hu
  obtain ⟨f0,f1,f2,f3,f4,f5⟩:=hf it (by simp)
  refine wpAny_pyNext_dict_item st at' hu fun key h' hk st' sb=>?_
  have I1:Inv X pins σ H { s with heap:=h' }:=I.turned (t':=s.toks) (fun b o hb e=>(sb.2 b hb).trans e) f0 f1 f3 f4 f5
  obtain ⟨o,e,c,dd⟩:=id st'
  exact ⟨key,rfl,go_of (s:={ s with heap:=h' }) e c dd (by decide) ⟨kV k,H,I1,rel_key hk,⟨rfl,k,x,hx,rfl⟩,st',fun b hb=>(hf b hb).1⟩⟩
 done:=by
  intro X hP hw hK hc i pins s σ H E I hf st hg
  subst hP hw hK
  obtain ⟨hd,hi⟩:=hg
  obtain ⟨⟨z,lo,rel,at'⟩,_,_⟩:=(show ObjOk X.prog X.w H s.heap d (.ext (FzAt X.prog X.w d kvs vs ep)) from I.hok d _ hd)
  obtain ⟨f0,f1,f2,f3,f4,f5⟩:=hf it (by simp)
  exact wpAny_pyNext_dict_end (I.ok.hd hc) st at' (List.getElem?_eq_none (by rw [← rel.length]; exact hi)) fun h' eb=>⟨rfl,I.turned (t':=s.toks) (fun b o hb e=>eb b o hb e) f0 f1 f3 f4 f5⟩
 self:=fun _ _ _ _ _ st h=>wpAny_pyIter_keyiter st h
def iKeys (P:Program) (w:World) (tl:TE):TI:=fun σ H R=>tl σ H fun x H1=>∃ d kvs,x=.ref d∧H1 d=some (.dK kvs)∧∀ F,IsFz P w d kvs F→R (Itk d F kvs) (upd H1 d F)
theorem rd_ikeys {P:Program} {w:World} {tl:TE} {σ:St} {H:Hp} {R:It→Hp→Prop} (h:tl σ H fun x H1=>∃ d kvs,x=.ref d∧H1 d=some (.dK kvs)∧∀ F,IsFz P w d kvs F→R (Itk d F kvs) (upd H1 d F)):iKeys P w tl σ H R:=h
theorem pi_keys {X:Cx} {tg l:Expr} {tl:TE} (hl:PE X l tl):PI X tg l (iKeys X.prog X.w tl):=by
 intro pins s σ H R I h
 refine thn (hl pins s σ H _ I h) fun v s1 ⟨x,H1,I1,r1,q1⟩=>?_
 obtain ⟨d,kvs,e,hd,q⟩:=q1
 subst e
 cases r1
 obtain ⟨z,lo,_,_,_⟩:=dk_of I1.hok hd
 obtain ⟨vs,ep,I2,at'⟩:=I1.freeze hd
 refine wpAny_pyIter_dict lo at' ?_
 refine ⟨s1.heap.objs.size,[s1.heap.objs.size],_,_,_,rfl,I2.kept (t':=s1.toks) fun b o e=>Heap.get?_push_of_some _ e,turn_keys d _ kvs vs ep,⟨_,Heap.get?_push_size _ rfl,rfl,rfl⟩,fun b hb=>?_,q _ ⟨vs,ep,rfl⟩⟩
 have e:b=s1.heap.objs.size:=by simpa using hb
 subst e
 exact I2.fpOk (Nat.le_refl _) (I2.hok.fresh (Nat.le_refl _))
end L2
set_option Elab.async false
set_option linter.all false
set_option maxRecDepth 100000
set_option maxHeartbeats 4000000
namespace L2
open PySem PySem.Spec PyProof.Rows PySem.W
def rLeS:R2:=fun x y H Q=>∃ i j:Str,x=.str i∧y=.str j∧Q (.bl (!decide (j.cps.toList<i.cps.toList))) H
theorem op_leS {X:Cx}:OpR X (compareOp .LtE) rLeS:=by
 intro pins s σ H x y v u Q I rx ry h
 obtain ⟨i,j,rfl,rfl,q⟩:=h
 obtain ⟨t,rfl⟩:=rx
 obtain ⟨t',rfl⟩:=ry
 exact PySem.P.le_str (fin_bl I q rfl)
theorem rd_leS {H:Hp} {Q:VK} {i j:Str} (h:Q (.bl (!decide (j.cps.toList<i.cps.toList))) H):rLeS (.str i) (.str j) H Q:=⟨i,j,rfl,rfl,h⟩
def rLenX:List V→Hp→VK→Prop:=fun xs H Q=>∃ z:Str,xs=[.str z]∧z.length≤sizeLine∧Q (.int z.length) H
theorem cI_lenX {X:Cx}:CallR X (.builtin "len") rLenX:=call_len_str
theorem rd_lenX {H:Hp} {Q:VK} {z:Str} (h:z.length≤sizeLine) (q:Q (.int z.length) H):rLenX [.str z] H Q:=⟨z,rfl,h,q⟩
end L2
set_option Elab.async false
set_option linter.all false
set_option maxRecDepth 100000
set_option maxHeartbeats 4000000
namespace L2
open PySem PySem.Spec PyProof.Rows
open Builtin Builtin.Str
theorem catX (a b:Str):(a++b).cps.toList=a.cps.toList++b.cps.toList:=Array.toList_append
theorem pick_range {l:List Nat} {a:Nat}:∀ {m:Nat},a+m≤l.length→((List.range m).map fun k=>a+k).filterMap (l[·]?)=(l.drop a).take m
 | 0,_=>rfl
 | m+1,h=>by
  rw [List.range_succ,List.map_append,List.filterMap_append,pick_range (m:=m) (by omega),List.take_add_one,List.getElem?_drop,List.map_singleton]
  congr 1
theorem range_sl {a b:Nat} (h:a≤b):sliceRange (a:Int) (b:Int) 1=(List.range (b - a)).map fun k=>a+k:=by
 unfold sliceRange
 dsimp only
 rw [if_pos (by decide)]
 by_cases c:a<b
 ·rw [if_pos (by omega),show (((b:Int) - a+1 - 1) / 1).toNat=b - a by omega]
  exact List.map_congr_left fun k _=>by omega
 ·rw [if_neg (by omega),show b - a=0 by omega]; rfl
theorem slX_of {x:Str} {lo hi:Option Int} {a b:Nat} (e:strSliceIndices lo hi 1 x.length=sliceRange (a:Int) (b:Int) 1) (h1:a≤b) (h2:b≤x.cps.size):(Txt.slice x lo hi).cps.toList=(x.cps.toList.drop a).take (b - a):=by
 unfold Txt.slice
 rw [e,range_sl h1]
 have hl:x.cps.toList.length=x.cps.size:=Array.length_toList
 split
 ·next z =>
  rw [Bool.and_eq_true,beq_iff_eq,beq_iff_eq,List.length_map,List.length_range] at z
  have z:=z.2
  have:x.length=x.cps.size:=rfl
  rw [show a=0 by omega,List.drop_zero,List.take_of_length_le (by omega)]
 ·rw [List.toList_toArray,← pick_range (l:=x.cps.toList) (by omega)]
  congr 1
  funext k
  exact Array.getElem?_toList.symm
theorem slX_take {x:Str} {p:Nat} (h:p≤x.cps.size):(Txt.slice x none (some (p:Int))).cps.toList=x.cps.toList.take p:=by
 rw [slX_of (a:=0) (b:=p) ?_ (Nat.zero_le _) h,List.drop_zero]; rfl
 have:x.length=x.cps.size:=rfl
 unfold strSliceIndices
 dsimp only
 simp only [show (1:Int) > 0 by decide,if_true]
 rw [if_neg (show ¬ (p:Int)<0 by omega)]
 congr 1
 omega
theorem slX_drop {x:Str} {p:Nat} (h:p≤x.cps.size):(Txt.slice x (some (p:Int)) none).cps.toList=x.cps.toList.drop p:=by
 have hl:x.cps.toList.length=x.cps.size:=Array.length_toList
 rw [slX_of (a:=p) (b:=x.cps.size) ?_ h (Nat.le_refl _),List.take_of_length_le (by rw [List.length_drop]; omega)]
 have:x.length=x.cps.size:=rfl
 unfold strSliceIndices
 dsimp only
 simp only [show (1:Int) > 0 by decide,if_true]
 rw [if_neg (show ¬ (p:Int)<0 by omega),this]
 congr 1
 omega
theorem join_sgn:∀ cs:List Nat,(Txt.join "" (cs.map sgn)).cps.toList=cs:=by
 intro cs
 show (glued _ _).cps.toList=_
 rw [PySem.StrLaws.glued_eq_join]
 induction cs with
 | nil=>rfl
 | cons c r ih =>
  cases r with
  | nil => rfl
  | cons d r =>
   show ((sgn c++"")++Str.join "" ((d::r).map sgn)).cps.toList=_
   rw [catX,catX,ih]; rfl
theorem joinOk_sgn {cs:List Nat} (h:cs.length≤1000):JoinOk "" (cs.map sgn)=true:=by
 unfold JoinOk
 rw [List.foldl_toArray]
 have:∀ (cs:List Nat) (a:Nat),(cs.map sgn).foldl (fun x1 x2=>x1+x2.length+("":Str).length) a=a+cs.length:=by
  intro cs
  induction cs with
  | nil => intro a; rfl
  | cons c r ih =>
   intro a
   rw [List.map_cons,List.foldl_cons,ih]
   show a+1+0+r.length=a+(r.length+1)
   omega
 rw [this,Nat.zero_add]
 unfold tooLong
 have:(1000:Nat)≤sizeLine:=by decide
 simp only [Bool.not_eq_true',decide_eq_false_iff_not]
 omega
end L2
set_option Elab.async false
set_option linter.all false
set_option maxRecDepth 100000
set_option maxHeartbeats 4000000
namespace L2
open PySem PySem.Spec PyProof.Rows
section
variable {prog:Program} {w:World} {A:Around} {E:Value→Shared→Prop}
theorem drawnL {it l:Addr} {items:Array Value} (ne:l≠it):∀ (n i:Nat) (s:Shared) (Q:List Value→Shared→Prop),s.heap.IsListIter it l i→s.heap.IsList l items→i+n≤items.size →
  (∀ h',h'.IsListIter it l (i+n)→Heap.SameBut it s.heap h'→Q ((items.toList.drop i).take n) { s with heap:=h' })→wpAny (model prog w) A (draw (.ref it) n) Q E s
 | 0,i,s,Q,a,_,_,k=>by
  show wpAny _ _ (pure []) Q E s
  exact wpAny_pure (by simpa using k s.heap a (Heap.SameBut.refl ..))
 | n+1,i,s,Q,a,b,z,k=>by
  have lt:i<items.size:=by omega
  show wpAny _ _ (pyNext (.ref it) >>= _) Q E s
  refine wpAny_bind (wpAny_pyNext_list_item a b (x:=items[i]) (by simp [lt]) fun h1 a1 s1=>?_)
  refine wpAny_bind (wpAny_holding (drawnL ne n (i+1) _ _ a1 (by
   obtain ⟨o,ho,hr⟩:=id b
   exact ⟨o,(s1.2 l ne).trans ho,hr⟩) (by omega) fun h2 a2 s2=>wpAny_pure ?_))
  have e:items.toList.drop i=items[i]::items.toList.drop (i+1):=by simp [List.drop_eq_getElem_cons,lt]
  have r:=k h2 (by rw [show i+(n+1)=i+1+n by omega]; exact a2) (s1.trans s2)
  rw [e,List.take_succ_cons] at r
  exact r
theorem unpackedL {l:Addr} {items:Array Value} {s:Shared} {Q:List Value→Shared→Prop} (hh:A.handled=none) (hl:s.heap.IsList l items)
  (k:∀ h',Heap.ExtBut s.heap.objs.size s.heap h'→Q items.toList { s with heap:=h' }):wpAny (model prog w) A (unpackItems (.ref l) items.size none) Q E s:=by
 have ne:l≠s.heap.objs.size:=by obtain ⟨o,ho,_⟩:=hl; exact Nat.ne_of_lt (Heap.lt_size ho)
 unfold unpackItems
 refine wpAny_bind ?_
 unfold notIterableAtAll
 refine wpAny_bind (wpAny_specialOf hl.typeIs slot_list_iter.lookup ?_)
 refine wpAny_pure ?_
 simp only [Bool.false_eq_true,if_false]
 refine wpAny_bind (wpAny_holding (wpAny_pyIter_list hl ?_))
 have hp:(s.heap.push { cls:=.type "list_iterator",data:=.fields #[.ref l,.int 0 0] }).IsList l items:=by
  obtain ⟨o,ho,hr⟩:=hl
  exact ⟨o,Heap.get?_push_of_some _ ho,hr⟩
 refine wpAny_bind (wpAny_holding (drawnL ne items.size 0 _ _ ⟨_,Heap.get?_push_size _ rfl,rfl,rfl⟩ hp (by omega) fun h1 a1 s1=>?_))
 have e:List.take items.size (List.drop 0 items.toList)=items.toList:=by rw [List.drop_zero]; exact List.take_of_length_le (by simp)
 rw [e,if_neg (by simp)]
 refine wpAny_bind (wpAny_holding (wpAny_pyNext_list_end hh a1 (by
  obtain ⟨o,ho,hr⟩:=hp
  exact ⟨o,(s1.2 l ne).trans ho,hr⟩) (by simp) fun h2 x2=>?_))
 simp only [Option.isSome_none,Bool.false_eq_true,if_false]
 exact wpAny_pure (k h2 fun b o hb e=>x2 b o hb (s1.extBut b o hb (Heap.get?_push_of_some _ e)))
end
def gLst (K:PySem.W.Frag) (n:Nat) (t:TGs):TG:=fun v σ H Q=>∃ a xs,v=.ref a∧SqL K H a xs∧xs.length=n∧t xs σ H Q
theorem pg_lstK {X:Cx} (K:PySem.W.Frag) (hK:X.K=K) {es:List Expr} {k:Nat} {t:TGs} {n:Nat} {pos:Pos} (hc:X.calm=true) (h:PGs X es t)
  (hn:(assignEach es X.env).length=n:=by rfl) (hst:(assignEach es X.env).findIdx? (·.1)=none:=by rfl):PG X (.Tuple es k pos) (gLst K n t):=by
 subst hK
 intro pins s σ H v u Q I r hw
 obtain ⟨a,xs,e1,hq,hl,hw⟩:=hw
 subst e1
 cases r
 obtain ⟨its,rv,p,hz⟩:=I.list hq
 rw [assign_Tuple]
 refine wpAny_bind (wpAny_standAt ?_)
 unfold unpack
 rw [show (assignEach es X.env).length=its.toArray.size by simp [hn,← hl,rv.length],hst]
 refine wpAny_bind (wpAny_holding (unpackedL (I.ok.hd hc) p.isList fun h' hx=>?_))
 have I1:Inv X pins σ H { s with heap:=h' }:=I.kept (t':=s.toks) fun b o e=>hx b o (Nat.ne_of_lt (Heap.lt_size e)) e
 exact h pins _ σ H xs _ Q I1 (by simpa using rv) hw
end L2
set_option Elab.async false
set_option maxHeartbeats 4000000
set_option linter.all false
set_option maxRecDepth 100000
namespace My
open PySem PySem.Spec PyProof.Rows L2
def top (i:Nat):Stmt:=PySem.Challenge.pw_sashiko_k51_chest_deeds_refused.main.body.getD i (.Pass ⟨0,0,0,0⟩)
abbrev s_UnfitInit:Stmt:=(inClass (top 11) 0)
abbrev s_isnumber:Stmt:=(top 14)
abbrev s_isbelow:Stmt:=(top 15)
abbrev s_isbit:Stmt:=(top 16)
abbrev s_allbits:Stmt:=(top 17)
abbrev s_isside:Stmt:=(top 18)
abbrev s_needcell:Stmt:=(top 19)
abbrev s_BoardInit:Stmt:=(inClass (top 21) 0)
abbrev s_ClothInit:Stmt:=(inClass (top 22) 0)
abbrev s_Clothshade:Stmt:=(inClass (top 22) 1)
abbrev s_Clothwide:Stmt:=(inClass (top 21) 1)
abbrev s_Clothtall:Stmt:=(inClass (top 21) 2)
abbrev s_Clothcols:Stmt:=(inClass (top 21) 3)
abbrev s_Clothrows:Stmt:=(inClass (top 21) 4)
abbrev s_Clothbitsalong:Stmt:=(inClass (top 21) 5)
abbrev s_Clothbit:Stmt:=(inClass (top 21) 6)
abbrev s_Clothcolour:Stmt:=(inClass (top 22) 2)
abbrev s_shifted:Stmt:=(top 24)
abbrev s_transposed:Stmt:=(top 25)
abbrev s_withbits:Stmt:=(top 26)
abbrev s_turned:Stmt:=(top 27)
abbrev s_put:Stmt:=(top 28)
abbrev s_cut:Stmt:=(top 30)
abbrev s_partedup:Stmt:=(top 32)
abbrev s_parted:Stmt:=(top 33)
abbrev s_sewnbeside:Stmt:=(top 34)
abbrev s_sewntogether:Stmt:=(top 35)
abbrev s_isname:Stmt:=(top 38)
abbrev s_ChestInit:Stmt:=(inClass (top 39) 0)
abbrev s_Chestnames:Stmt:=(inClass (top 39) 1)
abbrev s_Chestcloth:Stmt:=(inClass (top 39) 2)
abbrev s_Chestneedfree:Stmt:=(inClass (top 39) 3)
abbrev s_Chestbecome:Stmt:=(inClass (top 39) 4)
abbrev s_Chestbecomewith:Stmt:=(inClass (top 39) 5)
abbrev s_Chestlay:Stmt:=(inClass (top 39) 6)
abbrev s_Chestdrop:Stmt:=(inClass (top 39) 7)
abbrev s_Chestturn:Stmt:=(inClass (top 39) 8)
abbrev s_Chestput:Stmt:=(inClass (top 39) 9)
abbrev s_Chestcut:Stmt:=(inClass (top 39) 10)
abbrev s_Chestsew:Stmt:=(inClass (top 39) 11)
abbrev s_Chestpart:Stmt:=(inClass (top 39) 12)
abbrev s_Chestundo:Stmt:=(inClass (top 39) 13)
abbrev s_Chestredo:Stmt:=(inClass (top 39) 14)
abbrev s_Chestundoable:Stmt:=(inClass (top 39) 15)
abbrev s_Chestredoable:Stmt:=(inClass (top 39) 16)
abbrev s_Ldraws:Stmt:=(top 41)
abbrev s_Lnames:Stmt:=(top 42)
abbrev s_Lbits:Stmt:=(top 43)
abbrev s_Lrow:Stmt:=(top 44)
abbrev s_Lkind:Stmt:=(top 45)
abbrev s_Ldo:Stmt:=(top 46)
abbrev s_Lsame:Stmt:=(top 47)
abbrev s_Lclothkind:Stmt:=(top 48)
abbrev s_Ltold:Stmt:=(top 49)
abbrev s_Lbookfits:Stmt:=(top 50)
abbrev s_Lbad:Stmt:=(top 51)
abbrev s_law:Stmt:=(top 52)
theorem sc_UnfitInit:FnScope ["self","at"] ["self","at"] (defScope s_UnfitInit):=.by
theorem sc_isnumber:FnScope ["value"] ["value"] (defScope s_isnumber):=.by
theorem sc_isbelow:FnScope ["value","bound"] ["value","bound"] (defScope s_isbelow):=.by
theorem sc_isbit:FnScope ["value"] ["value"] (defScope s_isbit):=.by
theorem sc_allbits:FnScope ["values"] ["values"] (defScope s_allbits):=.by
theorem sc_isside:FnScope ["count"] ["count"] (defScope s_isside):=.by
theorem sc_needcell:FnScope ["board","x","y"] ["board","x","y"] (defScope s_needcell):=.by
theorem sc_BoardInit:FnScope ["self","wide","tall","cols","rows"] ["self","wide","tall","cols","rows"] (defScope s_BoardInit):=.by
theorem sc_ClothInit:FnScope ["self","shade","cols","rows"] ["self","shade","cols","rows"] (defScope s_ClothInit):=.by
theorem sc_Clothshade:FnScope ["self"] ["self"] (defScope s_Clothshade):=.by
theorem sc_Clothwide:FnScope ["self"] ["self"] (defScope s_Clothwide):=.by
theorem sc_Clothtall:FnScope ["self"] ["self"] (defScope s_Clothtall):=.by
theorem sc_Clothcols:FnScope ["self"] ["self"] (defScope s_Clothcols):=.by
theorem sc_Clothrows:FnScope ["self"] ["self"] (defScope s_Clothrows):=.by
theorem sc_Clothbitsalong:FnScope ["self","way"] ["self","way"] (defScope s_Clothbitsalong):=.by
theorem sc_Clothbit:FnScope ["self","way","k","bits"] ["self","way","k"] (defScope s_Clothbit):=.by
theorem sc_Clothcolour:FnScope ["self","x","y","stitches"] ["self","x","y"] (defScope s_Clothcolour):=.by
theorem sc_shifted:FnScope ["bits","steps"] ["bits","steps"] (defScope s_shifted):=.by
theorem sc_transposed:FnScope ["cloth"] ["cloth"] (defScope s_transposed):=.by
theorem sc_withbits:FnScope ["cloth","way","bits"] ["cloth","way","bits"] (defScope s_withbits):=.by
theorem sc_turned:FnScope ["cloth","way","k","other","bits"] ["cloth","way","k"] (defScope s_turned):=.by
theorem sc_put:FnScope ["cloth","way","k","bit","bits"] ["cloth","way","k","bit"] (defScope s_put):=.by
theorem sc_cut:FnScope ["cloth","way","k","bits"] ["cloth","way","k"] (defScope s_cut):=.by
theorem sc_partedup:FnScope ["cloth","k","behind","left","right"] ["cloth","k"] (defScope s_partedup):=.by
theorem sc_parted:FnScope ["cloth","way","k","parts"] ["cloth","way","k"] (defScope s_parted):=.by
theorem sc_sewnbeside:FnScope ["one","other","coming","k","bit","between"] ["one","other"] (defScope s_sewnbeside):=.by
theorem sc_sewntogether:FnScope ["one","other","way"] ["one","other","way"] (defScope s_sewntogether):=.by
theorem sc_isname:FnScope ["name"] ["name"] (defScope s_isname):=.by
theorem sc_ChestInit:FnScope ["self"] ["self"] (defScope s_ChestInit):=.by
theorem sc_Chestnames:FnScope ["self"] ["self"] (defScope s_Chestnames):=.by
theorem sc_Chestcloth:FnScope ["self","name"] ["self","name"] (defScope s_Chestcloth):=.by
theorem sc_Chestneedfree:FnScope ["self","name"] ["self","name"] (defScope s_Chestneedfree):=.by
theorem sc_Chestbecome:FnScope ["self","cloths"] ["self","cloths"] (defScope s_Chestbecome):=.by
theorem sc_Chestbecomewith:FnScope ["self","name","cloth","cloths"] ["self","name","cloth"] (defScope s_Chestbecomewith):=.by
theorem sc_Chestlay:FnScope ["self","name","cloth"] ["self","name","cloth"] (defScope s_Chestlay):=.by
theorem sc_Chestdrop:FnScope ["self","name","cloths"] ["self","name"] (defScope s_Chestdrop):=.by
theorem sc_Chestturn:FnScope ["self","name","way","k"] ["self","name","way","k"] (defScope s_Chestturn):=.by
theorem sc_Chestput:FnScope ["self","name","way","k","bit"] ["self","name","way","k","bit"] (defScope s_Chestput):=.by
theorem sc_Chestcut:FnScope ["self","name","way","k"] ["self","name","way","k"] (defScope s_Chestcut):=.by
theorem sc_Chestsew:FnScope ["self","name","one","other","way"] ["self","name","one","other","way"] (defScope s_Chestsew):=.by
theorem sc_Chestpart:FnScope ["self","name","way","k","other","whole","parts","cloths"] ["self","name","way","k","other"] (defScope s_Chestpart):=.by
theorem sc_Chestundo:FnScope ["self"] ["self"] (defScope s_Chestundo):=.by
theorem sc_Chestredo:FnScope ["self"] ["self"] (defScope s_Chestredo):=.by
theorem sc_Chestundoable:FnScope ["self"] ["self"] (defScope s_Chestundoable):=.by
theorem sc_Chestredoable:FnScope ["self"] ["self"] (defScope s_Chestredoable):=.by
theorem sc_Ldraws:FnScope ["_law_script","_law_many","_law_rows","_law_mix","_law_cell","_law_rest"] ["_law_script","_law_many"] (defScope s_Ldraws):=.by
theorem sc_Lnames:FnScope ["_law_some","_law_many","_law_letters","_law_found","_law_at","_law_raw","_law_size","_law_first","_law_by","_law_word","_law_place","_law_step","_law_sign"] ["_law_some","_law_many"] (defScope s_Lnames):=.by
theorem sc_Lbits:FnScope ["_law_number","_law_many","_law_row_here","_law_k"] ["_law_number","_law_many"] (defScope s_Lbits):=.by
theorem sc_Lrow:FnScope ["_law_some","_law_many","_law_raw","_law_row_here"] ["_law_some","_law_many"] (defScope s_Lrow):=.by
theorem sc_Lkind:FnScope ["_law_e","_law_found"] ["_law_e"] (defScope s_Lkind):=.by
theorem sc_Ldo:FnScope ["_law_chest","_law_deed","_law_told_here","_law_plan","_law_e"] ["_law_chest","_law_deed"] (defScope s_Ldo):=.by
theorem sc_Lsame:FnScope ["_law_told_here","_law_due"] ["_law_told_here","_law_due"] (defScope s_Lsame):=.by
theorem sc_Lclothkind:FnScope ["_law_chest","_law_name","_law_e"] ["_law_chest","_law_name"] (defScope s_Lclothkind):=.by
theorem sc_Ltold:FnScope ["_law_cloth"] ["_law_cloth"] (defScope s_Ltold):=.by
theorem sc_Lbookfits:FnScope ["_law_chest","_law_book","_law_name"] ["_law_chest","_law_book"] (defScope s_Lbookfits):=.by
theorem sc_Lbad:FnScope ["_law_names_here","_law_none","_law_wide","_law_tall","_law_one","_law_two","_law_free","_law_bad_here"] ["_law_names_here","_law_none","_law_wide","_law_tall"] (defScope s_Lbad):=.by
theorem sc_law:FnScope ["_law_script","_law_some","_law_names_here","_law_wide","_law_tall","_law_plan","_law_beside","_law_chest","_law_name","_law_one","_law_none","_law_book","_law_bad_here","_law_word","_law_deed","_law_due"] ["_law_script"] (defScope s_law):=.by
set_option genInjectivity false in
set_option genSizeOf false in
structure Ad where
 a_Board:Addr
 a_Chest:Addr
 a_Cloth:Addr
 f_UnfitInit:Addr
 d_UnfitInit:FuncData
 f_isnumber:Addr
 d_isnumber:FuncData
 f_isbelow:Addr
 d_isbelow:FuncData
 f_isbit:Addr
 d_isbit:FuncData
 f_allbits:Addr
 d_allbits:FuncData
 f_isside:Addr
 d_isside:FuncData
 f_needcell:Addr
 d_needcell:FuncData
 f_BoardInit:Addr
 d_BoardInit:FuncData
 f_ClothInit:Addr
 d_ClothInit:FuncData
 f_Clothshade:Addr
 d_Clothshade:FuncData
 f_Clothwide:Addr
 d_Clothwide:FuncData
 f_Clothtall:Addr
 d_Clothtall:FuncData
 f_Clothcols:Addr
 d_Clothcols:FuncData
 f_Clothrows:Addr
 d_Clothrows:FuncData
 f_Clothbitsalong:Addr
 d_Clothbitsalong:FuncData
 f_Clothbit:Addr
 d_Clothbit:FuncData
 f_Clothcolour:Addr
 d_Clothcolour:FuncData
 f_shifted:Addr
 d_shifted:FuncData
 f_transposed:Addr
 d_transposed:FuncData
 f_withbits:Addr
 d_withbits:FuncData
 f_turned:Addr
 d_turned:FuncData
 f_put:Addr
 d_put:FuncData
 f_cut:Addr
 d_cut:FuncData
 f_partedup:Addr
 d_partedup:FuncData
 f_parted:Addr
 d_parted:FuncData
 f_sewnbeside:Addr
 d_sewnbeside:FuncData
 f_sewntogether:Addr
 d_sewntogether:FuncData
 f_isname:Addr
 d_isname:FuncData
 f_ChestInit:Addr
 d_ChestInit:FuncData
 f_Chestnames:Addr
 d_Chestnames:FuncData
 f_Chestcloth:Addr
 d_Chestcloth:FuncData
 f_Chestneedfree:Addr
 d_Chestneedfree:FuncData
 f_Chestbecome:Addr
 d_Chestbecome:FuncData
 f_Chestbecomewith:Addr
 d_Chestbecomewith:FuncData
 f_Chestlay:Addr
 d_Chestlay:FuncData
 f_Chestdrop:Addr
 d_Chestdrop:FuncData
 f_Chestturn:Addr
 d_Chestturn:FuncData
 f_Chestput:Addr
 d_Chestput:FuncData
 f_Chestcut:Addr
 d_Chestcut:FuncData
 f_Chestsew:Addr
 d_Chestsew:FuncData
 f_Chestpart:Addr
 d_Chestpart:FuncData
 f_Chestundo:Addr
 d_Chestundo:FuncData
 f_Chestredo:Addr
 d_Chestredo:FuncData
 f_Chestundoable:Addr
 d_Chestundoable:FuncData
 f_Chestredoable:Addr
 d_Chestredoable:FuncData
 f_Ldraws:Addr
 d_Ldraws:FuncData
 f_Lnames:Addr
 d_Lnames:FuncData
 f_Lbits:Addr
 d_Lbits:FuncData
 f_Lrow:Addr
 d_Lrow:FuncData
 f_Lkind:Addr
 d_Lkind:FuncData
 f_Ldo:Addr
 d_Ldo:FuncData
 f_Lsame:Addr
 d_Lsame:FuncData
 f_Lclothkind:Addr
 d_Lclothkind:FuncData
 f_Ltold:Addr
 d_Ltold:FuncData
 f_Lbookfits:Addr
 d_Lbookfits:FuncData
 f_Lbad:Addr
 d_Lbad:FuncData
 f_law:Addr
 d_law:FuncData
 a_SewError:Addr
 a_Unfit:Addr
 a_BadSize:Addr
 a_BadBit:Addr
 a_NoCell:Addr
 a_NoLine:Addr
 a_BadName:Addr
 a_Taken:Addr
 a_NoCloth:Addr
 a_NothingLeft:Addr
 tk_LONGEST_SIDE:Tok
 tk_LONGEST_NAME:Tok
structure Txt (K:PySem.W.Frag) (mg:Str→Option Value) (t:Ad):Prop where
 mg_Board:mg "Board"=some (.ref t.a_Board)
 mg_Chest:mg "Chest"=some (.ref t.a_Chest)
 cl_Chest:Cls K t.a_Chest
 mk_Chest:Mk K t.a_Chest t.f_ChestInit
 naC_cloths:NoAttr K t.a_Chest "cloths"
 naC_ahead_of_deeds:NoAttr K t.a_Chest "ahead_of_deeds"
 naC_behind_undone:NoAttr K t.a_Chest "behind_undone"
 mg_Cloth:mg "Cloth"=some (.ref t.a_Cloth)
 cl_Cloth:Cls K t.a_Cloth
 mk_Cloth:Mk K t.a_Cloth t.f_ClothInit
 na_columns_count:NoAttr K t.a_Cloth "columns_count"
 na_rows_count:NoAttr K t.a_Cloth "rows_count"
 na_col_bits:NoAttr K t.a_Cloth "col_bits"
 na_row_bits:NoAttr K t.a_Cloth "row_bits"
 na_first_colour:NoAttr K t.a_Cloth "first_colour"
 F_UnfitInit:Fun K "__init__" "Unfit.__init__" s_UnfitInit t.f_UnfitInit t.d_UnfitInit
 b_UnfitInit:Binds K t.d_UnfitInit ["self","at"] []
 mx_Unfit:MkX K t.a_Unfit t.f_UnfitInit
 F_isnumber:Fun K "is_number" "is_number" s_isnumber t.f_isnumber t.d_isnumber
 b_isnumber:Binds K t.d_isnumber ["value"] []
 mg_isnumber:mg "is_number"=some (.ref t.f_isnumber)
 F_isbelow:Fun K "is_below" "is_below" s_isbelow t.f_isbelow t.d_isbelow
 b_isbelow:Binds K t.d_isbelow ["value","bound"] []
 mg_isbelow:mg "is_below"=some (.ref t.f_isbelow)
 F_isbit:Fun K "is_bit" "is_bit" s_isbit t.f_isbit t.d_isbit
 b_isbit:Binds K t.d_isbit ["value"] []
 mg_isbit:mg "is_bit"=some (.ref t.f_isbit)
 F_allbits:Fun K "all_bits" "all_bits" s_allbits t.f_allbits t.d_allbits
 b_allbits:Binds K t.d_allbits ["values"] []
 mg_allbits:mg "all_bits"=some (.ref t.f_allbits)
 F_isside:Fun K "is_side" "is_side" s_isside t.f_isside t.d_isside
 b_isside:Binds K t.d_isside ["count"] []
 mg_isside:mg "is_side"=some (.ref t.f_isside)
 F_needcell:Fun K "need_cell" "need_cell" s_needcell t.f_needcell t.d_needcell
 b_needcell:Binds K t.d_needcell ["board","x","y"] []
 mg_needcell:mg "need_cell"=some (.ref t.f_needcell)
 F_BoardInit:Fun K "__init__" "Board.__init__" s_BoardInit t.f_BoardInit t.d_BoardInit
 b_BoardInit:Binds K t.d_BoardInit ["self","wide","tall","cols","rows"] []
 cf_BoardInit:ClsFn K t.a_Board "__init__" t.f_BoardInit
 F_ClothInit:Fun K "__init__" "Cloth.__init__" s_ClothInit t.f_ClothInit t.d_ClothInit
 b_ClothInit:Binds K t.d_ClothInit ["self","shade","cols","rows"] []
 F_Clothshade:Fun K "shade" "Cloth.shade" s_Clothshade t.f_Clothshade t.d_Clothshade
 b_Clothshade:Binds K t.d_Clothshade ["self"] []
 m_Clothshade:Meth K t.a_Cloth "shade" t.f_Clothshade
 F_Clothwide:Fun K "wide" "Board.wide" s_Clothwide t.f_Clothwide t.d_Clothwide
 b_Clothwide:Binds K t.d_Clothwide ["self"] []
 m_Clothwide:Meth K t.a_Cloth "wide" t.f_Clothwide
 F_Clothtall:Fun K "tall" "Board.tall" s_Clothtall t.f_Clothtall t.d_Clothtall
 b_Clothtall:Binds K t.d_Clothtall ["self"] []
 m_Clothtall:Meth K t.a_Cloth "tall" t.f_Clothtall
 F_Clothcols:Fun K "cols" "Board.cols" s_Clothcols t.f_Clothcols t.d_Clothcols
 b_Clothcols:Binds K t.d_Clothcols ["self"] []
 m_Clothcols:Meth K t.a_Cloth "cols" t.f_Clothcols
 F_Clothrows:Fun K "rows" "Board.rows" s_Clothrows t.f_Clothrows t.d_Clothrows
 b_Clothrows:Binds K t.d_Clothrows ["self"] []
 m_Clothrows:Meth K t.a_Cloth "rows" t.f_Clothrows
 F_Clothbitsalong:Fun K "bits_along" "Board.bits_along" s_Clothbitsalong t.f_Clothbitsalong t.d_Clothbitsalong
 b_Clothbitsalong:Binds K t.d_Clothbitsalong ["self","way"] []
 m_Clothbitsalong:Meth K t.a_Cloth "bits_along" t.f_Clothbitsalong
 F_Clothbit:Fun K "bit" "Board.bit" s_Clothbit t.f_Clothbit t.d_Clothbit
 b_Clothbit:Binds K t.d_Clothbit ["self","way","k"] []
 m_Clothbit:Meth K t.a_Cloth "bit" t.f_Clothbit
 F_Clothcolour:Fun K "colour" "Cloth.colour" s_Clothcolour t.f_Clothcolour t.d_Clothcolour
 b_Clothcolour:Binds K t.d_Clothcolour ["self","x","y"] []
 m_Clothcolour:Meth K t.a_Cloth "colour" t.f_Clothcolour
 F_shifted:Fun K "shifted" "shifted" s_shifted t.f_shifted t.d_shifted
 b_shifted:Binds K t.d_shifted ["bits","steps"] []
 mg_shifted:mg "shifted"=some (.ref t.f_shifted)
 F_transposed:Fun K "transposed" "transposed" s_transposed t.f_transposed t.d_transposed
 b_transposed:Binds K t.d_transposed ["cloth"] []
 mg_transposed:mg "transposed"=some (.ref t.f_transposed)
 F_withbits:Fun K "with_bits" "with_bits" s_withbits t.f_withbits t.d_withbits
 b_withbits:Binds K t.d_withbits ["cloth","way","bits"] []
 mg_withbits:mg "with_bits"=some (.ref t.f_withbits)
 F_turned:Fun K "turned" "turned" s_turned t.f_turned t.d_turned
 b_turned:Binds K t.d_turned ["cloth","way","k"] []
 mg_turned:mg "turned"=some (.ref t.f_turned)
 F_put:Fun K "put" "put" s_put t.f_put t.d_put
 b_put:Binds K t.d_put ["cloth","way","k","bit"] []
 mg_putsew:mg "put_sew"=some (.ref t.f_put)
 mg_put:mg "put"=some (.ref t.f_put)
 F_cut:Fun K "cut" "cut" s_cut t.f_cut t.d_cut
 b_cut:Binds K t.d_cut ["cloth","way","k"] []
 mg_cutsew:mg "cut_sew"=some (.ref t.f_cut)
 mg_cut:mg "cut"=some (.ref t.f_cut)
 F_partedup:Fun K "parted_up" "parted_up" s_partedup t.f_partedup t.d_partedup
 b_partedup:Binds K t.d_partedup ["cloth","k"] []
 mg_partedup:mg "parted_up"=some (.ref t.f_partedup)
 F_parted:Fun K "parted" "parted" s_parted t.f_parted t.d_parted
 b_parted:Binds K t.d_parted ["cloth","way","k"] []
 mg_parted:mg "parted"=some (.ref t.f_parted)
 F_sewnbeside:Fun K "sewn_beside" "sewn_beside" s_sewnbeside t.f_sewnbeside t.d_sewnbeside
 b_sewnbeside:Binds K t.d_sewnbeside ["one","other"] []
 mg_sewnbeside:mg "sewn_beside"=some (.ref t.f_sewnbeside)
 F_sewntogether:Fun K "sewn_together" "sewn_together" s_sewntogether t.f_sewntogether t.d_sewntogether
 b_sewntogether:Binds K t.d_sewntogether ["one","other","way"] []
 mg_sewntogether:mg "sewn_together"=some (.ref t.f_sewntogether)
 F_isname:Fun K "is_name" "is_name" s_isname t.f_isname t.d_isname
 b_isname:Binds K t.d_isname ["name"] []
 mg_isname:mg "is_name"=some (.ref t.f_isname)
 F_ChestInit:Fun K "__init__" "Chest.__init__" s_ChestInit t.f_ChestInit t.d_ChestInit
 b_ChestInit:Binds K t.d_ChestInit ["self"] []
 F_Chestnames:Fun K "names" "Chest.names" s_Chestnames t.f_Chestnames t.d_Chestnames
 b_Chestnames:Binds K t.d_Chestnames ["self"] []
 m_Chestnames:Meth K t.a_Chest "names" t.f_Chestnames
 F_Chestcloth:Fun K "cloth" "Chest.cloth" s_Chestcloth t.f_Chestcloth t.d_Chestcloth
 b_Chestcloth:Binds K t.d_Chestcloth ["self","name"] []
 m_Chestcloth:Meth K t.a_Chest "cloth" t.f_Chestcloth
 F_Chestneedfree:Fun K "need_free" "Chest.need_free" s_Chestneedfree t.f_Chestneedfree t.d_Chestneedfree
 b_Chestneedfree:Binds K t.d_Chestneedfree ["self","name"] []
 m_Chestneedfree:Meth K t.a_Chest "need_free" t.f_Chestneedfree
 F_Chestbecome:Fun K "become" "Chest.become" s_Chestbecome t.f_Chestbecome t.d_Chestbecome
 b_Chestbecome:Binds K t.d_Chestbecome ["self","cloths"] []
 m_Chestbecome:Meth K t.a_Chest "become" t.f_Chestbecome
 F_Chestbecomewith:Fun K "become_with" "Chest.become_with" s_Chestbecomewith t.f_Chestbecomewith t.d_Chestbecomewith
 b_Chestbecomewith:Binds K t.d_Chestbecomewith ["self","name","cloth"] []
 m_Chestbecomewith:Meth K t.a_Chest "become_with" t.f_Chestbecomewith
 F_Chestlay:Fun K "lay" "Chest.lay" s_Chestlay t.f_Chestlay t.d_Chestlay
 b_Chestlay:Binds K t.d_Chestlay ["self","name","cloth"] []
 m_Chestlay:Meth K t.a_Chest "lay" t.f_Chestlay
 F_Chestdrop:Fun K "drop" "Chest.drop" s_Chestdrop t.f_Chestdrop t.d_Chestdrop
 b_Chestdrop:Binds K t.d_Chestdrop ["self","name"] []
 m_Chestdrop:Meth K t.a_Chest "drop" t.f_Chestdrop
 F_Chestturn:Fun K "turn" "Chest.turn" s_Chestturn t.f_Chestturn t.d_Chestturn
 b_Chestturn:Binds K t.d_Chestturn ["self","name","way","k"] []
 m_Chestturn:Meth K t.a_Chest "turn" t.f_Chestturn
 F_Chestput:Fun K "put" "Chest.put" s_Chestput t.f_Chestput t.d_Chestput
 b_Chestput:Binds K t.d_Chestput ["self","name","way","k","bit"] []
 m_Chestput:Meth K t.a_Chest "put" t.f_Chestput
 F_Chestcut:Fun K "cut" "Chest.cut" s_Chestcut t.f_Chestcut t.d_Chestcut
 b_Chestcut:Binds K t.d_Chestcut ["self","name","way","k"] []
 m_Chestcut:Meth K t.a_Chest "cut" t.f_Chestcut
 F_Chestsew:Fun K "sew" "Chest.sew" s_Chestsew t.f_Chestsew t.d_Chestsew
 b_Chestsew:Binds K t.d_Chestsew ["self","name","one","other","way"] []
 m_Chestsew:Meth K t.a_Chest "sew" t.f_Chestsew
 F_Chestpart:Fun K "part" "Chest.part" s_Chestpart t.f_Chestpart t.d_Chestpart
 b_Chestpart:Binds K t.d_Chestpart ["self","name","way","k","other"] []
 m_Chestpart:Meth K t.a_Chest "part" t.f_Chestpart
 F_Chestundo:Fun K "undo" "Chest.undo" s_Chestundo t.f_Chestundo t.d_Chestundo
 b_Chestundo:Binds K t.d_Chestundo ["self"] []
 m_Chestundo:Meth K t.a_Chest "undo" t.f_Chestundo
 F_Chestredo:Fun K "redo" "Chest.redo" s_Chestredo t.f_Chestredo t.d_Chestredo
 b_Chestredo:Binds K t.d_Chestredo ["self"] []
 m_Chestredo:Meth K t.a_Chest "redo" t.f_Chestredo
 F_Chestundoable:Fun K "undoable" "Chest.undoable" s_Chestundoable t.f_Chestundoable t.d_Chestundoable
 b_Chestundoable:Binds K t.d_Chestundoable ["self"] []
 m_Chestundoable:Meth K t.a_Chest "undoable" t.f_Chestundoable
 F_Chestredoable:Fun K "redoable" "Chest.redoable" s_Chestredoable t.f_Chestredoable t.d_Chestredoable
 b_Chestredoable:Binds K t.d_Chestredoable ["self"] []
 m_Chestredoable:Meth K t.a_Chest "redoable" t.f_Chestredoable
 F_Ldraws:Fun K "_law_draws" "_law_draws" s_Ldraws t.f_Ldraws t.d_Ldraws
 b_Ldraws:Binds K t.d_Ldraws ["_law_script","_law_many"] []
 mg_Ldraws:mg "_law_draws"=some (.ref t.f_Ldraws)
 F_Lnames:Fun K "_law_names" "_law_names" s_Lnames t.f_Lnames t.d_Lnames
 b_Lnames:Binds K t.d_Lnames ["_law_some","_law_many"] []
 mg_Lnames:mg "_law_names"=some (.ref t.f_Lnames)
 F_Lbits:Fun K "_law_bits" "_law_bits" s_Lbits t.f_Lbits t.d_Lbits
 b_Lbits:Binds K t.d_Lbits ["_law_number","_law_many"] []
 mg_Lbits:mg "_law_bits"=some (.ref t.f_Lbits)
 F_Lrow:Fun K "_law_row" "_law_row" s_Lrow t.f_Lrow t.d_Lrow
 b_Lrow:Binds K t.d_Lrow ["_law_some","_law_many"] []
 mg_Lrow:mg "_law_row"=some (.ref t.f_Lrow)
 F_Lkind:Fun K "_law_kind" "_law_kind" s_Lkind t.f_Lkind t.d_Lkind
 b_Lkind:Binds K t.d_Lkind ["_law_e"] []
 mg_Lkind:mg "_law_kind"=some (.ref t.f_Lkind)
 F_Ldo:Fun K "_law_do" "_law_do" s_Ldo t.f_Ldo t.d_Ldo
 b_Ldo:Binds K t.d_Ldo ["_law_chest","_law_deed"] []
 mg_Ldo:mg "_law_do"=some (.ref t.f_Ldo)
 F_Lsame:Fun K "_law_same" "_law_same" s_Lsame t.f_Lsame t.d_Lsame
 b_Lsame:Binds K t.d_Lsame ["_law_told_here","_law_due"] []
 mg_Lsame:mg "_law_same"=some (.ref t.f_Lsame)
 F_Lclothkind:Fun K "_law_cloth_kind" "_law_cloth_kind" s_Lclothkind t.f_Lclothkind t.d_Lclothkind
 b_Lclothkind:Binds K t.d_Lclothkind ["_law_chest","_law_name"] []
 mg_Lclothkind:mg "_law_cloth_kind"=some (.ref t.f_Lclothkind)
 F_Ltold:Fun K "_law_told" "_law_told" s_Ltold t.f_Ltold t.d_Ltold
 b_Ltold:Binds K t.d_Ltold ["_law_cloth"] []
 mg_Ltold:mg "_law_told"=some (.ref t.f_Ltold)
 F_Lbookfits:Fun K "_law_book_fits" "_law_book_fits" s_Lbookfits t.f_Lbookfits t.d_Lbookfits
 b_Lbookfits:Binds K t.d_Lbookfits ["_law_chest","_law_book"] []
 mg_Lbookfits:mg "_law_book_fits"=some (.ref t.f_Lbookfits)
 F_Lbad:Fun K "_law_bad" "_law_bad" s_Lbad t.f_Lbad t.d_Lbad
 b_Lbad:Binds K t.d_Lbad ["_law_names_here","_law_none","_law_wide","_law_tall"] []
 mg_Lbad:mg "_law_bad"=some (.ref t.f_Lbad)
 F_law:Fun K "law" "law" s_law t.f_law t.d_law
 b_law:Binds K t.d_law ["_law_script"] []
 mg_law:mg "law"=some (.ref t.f_law)
 mg_SewError:mg "SewError"=some (.ref t.a_SewError)
 mg_Unfit:mg "Unfit"=some (.ref t.a_Unfit)
 mg_BadSize:mg "BadSize"=some (.ref t.a_BadSize)
 mg_BadBit:mg "BadBit"=some (.ref t.a_BadBit)
 mg_NoCell:mg "NoCell"=some (.ref t.a_NoCell)
 mg_NoLine:mg "NoLine"=some (.ref t.a_NoLine)
 mg_BadName:mg "BadName"=some (.ref t.a_BadName)
 mg_Taken:mg "Taken"=some (.ref t.a_Taken)
 mg_NoCloth:mg "NoCloth"=some (.ref t.a_NoCloth)
 mg_NothingLeft:mg "NothingLeft"=some (.ref t.a_NothingLeft)
 x_BadSize:PySem.W.excIn K t.a_BadSize [.type "ValueError",.type "Exception",.type "BaseException",.type "object"] "ValueError.__new__"=true
 xi_BadSize:ExcIn K t.a_BadSize
 cat_BadSize:PySem.W.exmOne K (.ref t.a_BadSize) (.ref t.a_SewError)=some true
 nc_BadSize:PySem.W.exmOne K (.ref t.a_BadSize) (.ref t.a_Unfit)=some false
 kt_BadSize_BadName:PySem.W.kitOne K (.ref t.a_BadSize) (.ref t.a_BadName)=some false
 kt_BadSize_Taken:PySem.W.kitOne K (.ref t.a_BadSize) (.ref t.a_Taken)=some false
 kt_BadSize_NoCloth:PySem.W.kitOne K (.ref t.a_BadSize) (.ref t.a_NoCloth)=some false
 kt_BadSize_NoLine:PySem.W.kitOne K (.ref t.a_BadSize) (.ref t.a_NoLine)=some false
 kt_BadSize_BadBit:PySem.W.kitOne K (.ref t.a_BadSize) (.ref t.a_BadBit)=some false
 kt_BadSize_BadSize:PySem.W.kitOne K (.ref t.a_BadSize) (.ref t.a_BadSize)=some true
 kt_BadSize_NothingLeft:PySem.W.kitOne K (.ref t.a_BadSize) (.ref t.a_NothingLeft)=some false
 kt_BadSize_Unfit:PySem.W.kitOne K (.ref t.a_BadSize) (.ref t.a_Unfit)=some false
 kv_BadSize:PySem.W.kitOne K (.ref t.a_BadSize) (.type "ValueError")=some true
 x_BadBit:PySem.W.excIn K t.a_BadBit [.type "ValueError",.type "Exception",.type "BaseException",.type "object"] "ValueError.__new__"=true
 xi_BadBit:ExcIn K t.a_BadBit
 cat_BadBit:PySem.W.exmOne K (.ref t.a_BadBit) (.ref t.a_SewError)=some true
 nc_BadBit:PySem.W.exmOne K (.ref t.a_BadBit) (.ref t.a_Unfit)=some false
 kt_BadBit_BadName:PySem.W.kitOne K (.ref t.a_BadBit) (.ref t.a_BadName)=some false
 kt_BadBit_Taken:PySem.W.kitOne K (.ref t.a_BadBit) (.ref t.a_Taken)=some false
 kt_BadBit_NoCloth:PySem.W.kitOne K (.ref t.a_BadBit) (.ref t.a_NoCloth)=some false
 kt_BadBit_NoLine:PySem.W.kitOne K (.ref t.a_BadBit) (.ref t.a_NoLine)=some false
 kt_BadBit_BadBit:PySem.W.kitOne K (.ref t.a_BadBit) (.ref t.a_BadBit)=some true
 kt_BadBit_BadSize:PySem.W.kitOne K (.ref t.a_BadBit) (.ref t.a_BadSize)=some false
 kt_BadBit_NothingLeft:PySem.W.kitOne K (.ref t.a_BadBit) (.ref t.a_NothingLeft)=some false
 kt_BadBit_Unfit:PySem.W.kitOne K (.ref t.a_BadBit) (.ref t.a_Unfit)=some false
 kv_BadBit:PySem.W.kitOne K (.ref t.a_BadBit) (.type "ValueError")=some true
 x_NoCell:PySem.W.excIn K t.a_NoCell [.type "ValueError",.type "Exception",.type "BaseException",.type "object"] "ValueError.__new__"=true
 xi_NoCell:ExcIn K t.a_NoCell
 cat_NoCell:PySem.W.exmOne K (.ref t.a_NoCell) (.ref t.a_SewError)=some true
 x_NoLine:PySem.W.excIn K t.a_NoLine [.type "ValueError",.type "Exception",.type "BaseException",.type "object"] "ValueError.__new__"=true
 xi_NoLine:ExcIn K t.a_NoLine
 cat_NoLine:PySem.W.exmOne K (.ref t.a_NoLine) (.ref t.a_SewError)=some true
 nc_NoLine:PySem.W.exmOne K (.ref t.a_NoLine) (.ref t.a_Unfit)=some false
 kt_NoLine_BadName:PySem.W.kitOne K (.ref t.a_NoLine) (.ref t.a_BadName)=some false
 kt_NoLine_Taken:PySem.W.kitOne K (.ref t.a_NoLine) (.ref t.a_Taken)=some false
 kt_NoLine_NoCloth:PySem.W.kitOne K (.ref t.a_NoLine) (.ref t.a_NoCloth)=some false
 kt_NoLine_NoLine:PySem.W.kitOne K (.ref t.a_NoLine) (.ref t.a_NoLine)=some true
 kt_NoLine_BadBit:PySem.W.kitOne K (.ref t.a_NoLine) (.ref t.a_BadBit)=some false
 kt_NoLine_BadSize:PySem.W.kitOne K (.ref t.a_NoLine) (.ref t.a_BadSize)=some false
 kt_NoLine_NothingLeft:PySem.W.kitOne K (.ref t.a_NoLine) (.ref t.a_NothingLeft)=some false
 kt_NoLine_Unfit:PySem.W.kitOne K (.ref t.a_NoLine) (.ref t.a_Unfit)=some false
 kv_NoLine:PySem.W.kitOne K (.ref t.a_NoLine) (.type "ValueError")=some true
 x_BadName:PySem.W.excIn K t.a_BadName [.type "ValueError",.type "Exception",.type "BaseException",.type "object"] "ValueError.__new__"=true
 xi_BadName:ExcIn K t.a_BadName
 cat_BadName:PySem.W.exmOne K (.ref t.a_BadName) (.ref t.a_SewError)=some true
 nc_BadName:PySem.W.exmOne K (.ref t.a_BadName) (.ref t.a_Unfit)=some false
 kt_BadName_BadName:PySem.W.kitOne K (.ref t.a_BadName) (.ref t.a_BadName)=some true
 kt_BadName_Taken:PySem.W.kitOne K (.ref t.a_BadName) (.ref t.a_Taken)=some false
 kt_BadName_NoCloth:PySem.W.kitOne K (.ref t.a_BadName) (.ref t.a_NoCloth)=some false
 kt_BadName_NoLine:PySem.W.kitOne K (.ref t.a_BadName) (.ref t.a_NoLine)=some false
 kt_BadName_BadBit:PySem.W.kitOne K (.ref t.a_BadName) (.ref t.a_BadBit)=some false
 kt_BadName_BadSize:PySem.W.kitOne K (.ref t.a_BadName) (.ref t.a_BadSize)=some false
 kt_BadName_NothingLeft:PySem.W.kitOne K (.ref t.a_BadName) (.ref t.a_NothingLeft)=some false
 kt_BadName_Unfit:PySem.W.kitOne K (.ref t.a_BadName) (.ref t.a_Unfit)=some false
 kv_BadName:PySem.W.kitOne K (.ref t.a_BadName) (.type "ValueError")=some true
 x_Taken:PySem.W.excIn K t.a_Taken [.type "ValueError",.type "Exception",.type "BaseException",.type "object"] "ValueError.__new__"=true
 xi_Taken:ExcIn K t.a_Taken
 cat_Taken:PySem.W.exmOne K (.ref t.a_Taken) (.ref t.a_SewError)=some true
 nc_Taken:PySem.W.exmOne K (.ref t.a_Taken) (.ref t.a_Unfit)=some false
 kt_Taken_BadName:PySem.W.kitOne K (.ref t.a_Taken) (.ref t.a_BadName)=some false
 kt_Taken_Taken:PySem.W.kitOne K (.ref t.a_Taken) (.ref t.a_Taken)=some true
 kt_Taken_NoCloth:PySem.W.kitOne K (.ref t.a_Taken) (.ref t.a_NoCloth)=some false
 kt_Taken_NoLine:PySem.W.kitOne K (.ref t.a_Taken) (.ref t.a_NoLine)=some false
 kt_Taken_BadBit:PySem.W.kitOne K (.ref t.a_Taken) (.ref t.a_BadBit)=some false
 kt_Taken_BadSize:PySem.W.kitOne K (.ref t.a_Taken) (.ref t.a_BadSize)=some false
 kt_Taken_NothingLeft:PySem.W.kitOne K (.ref t.a_Taken) (.ref t.a_NothingLeft)=some false
 kt_Taken_Unfit:PySem.W.kitOne K (.ref t.a_Taken) (.ref t.a_Unfit)=some false
 kv_Taken:PySem.W.kitOne K (.ref t.a_Taken) (.type "ValueError")=some true
 x_NoCloth:PySem.W.excIn K t.a_NoCloth [.type "ValueError",.type "Exception",.type "BaseException",.type "object"] "ValueError.__new__"=true
 xi_NoCloth:ExcIn K t.a_NoCloth
 cat_NoCloth:PySem.W.exmOne K (.ref t.a_NoCloth) (.ref t.a_SewError)=some true
 nc_NoCloth:PySem.W.exmOne K (.ref t.a_NoCloth) (.ref t.a_Unfit)=some false
 kt_NoCloth_BadName:PySem.W.kitOne K (.ref t.a_NoCloth) (.ref t.a_BadName)=some false
 kt_NoCloth_Taken:PySem.W.kitOne K (.ref t.a_NoCloth) (.ref t.a_Taken)=some false
 kt_NoCloth_NoCloth:PySem.W.kitOne K (.ref t.a_NoCloth) (.ref t.a_NoCloth)=some true
 kt_NoCloth_NoLine:PySem.W.kitOne K (.ref t.a_NoCloth) (.ref t.a_NoLine)=some false
 kt_NoCloth_BadBit:PySem.W.kitOne K (.ref t.a_NoCloth) (.ref t.a_BadBit)=some false
 kt_NoCloth_BadSize:PySem.W.kitOne K (.ref t.a_NoCloth) (.ref t.a_BadSize)=some false
 kt_NoCloth_NothingLeft:PySem.W.kitOne K (.ref t.a_NoCloth) (.ref t.a_NothingLeft)=some false
 kt_NoCloth_Unfit:PySem.W.kitOne K (.ref t.a_NoCloth) (.ref t.a_Unfit)=some false
 kv_NoCloth:PySem.W.kitOne K (.ref t.a_NoCloth) (.type "ValueError")=some true
 x_NothingLeft:PySem.W.excIn K t.a_NothingLeft [.type "ValueError",.type "Exception",.type "BaseException",.type "object"] "ValueError.__new__"=true
 xi_NothingLeft:ExcIn K t.a_NothingLeft
 cat_NothingLeft:PySem.W.exmOne K (.ref t.a_NothingLeft) (.ref t.a_SewError)=some true
 nc_NothingLeft:PySem.W.exmOne K (.ref t.a_NothingLeft) (.ref t.a_Unfit)=some false
 kt_NothingLeft_BadName:PySem.W.kitOne K (.ref t.a_NothingLeft) (.ref t.a_BadName)=some false
 kt_NothingLeft_Taken:PySem.W.kitOne K (.ref t.a_NothingLeft) (.ref t.a_Taken)=some false
 kt_NothingLeft_NoCloth:PySem.W.kitOne K (.ref t.a_NothingLeft) (.ref t.a_NoCloth)=some false
 kt_NothingLeft_NoLine:PySem.W.kitOne K (.ref t.a_NothingLeft) (.ref t.a_NoLine)=some false
 kt_NothingLeft_BadBit:PySem.W.kitOne K (.ref t.a_NothingLeft) (.ref t.a_BadBit)=some false
 kt_NothingLeft_BadSize:PySem.W.kitOne K (.ref t.a_NothingLeft) (.ref t.a_BadSize)=some false
 kt_NothingLeft_NothingLeft:PySem.W.kitOne K (.ref t.a_NothingLeft) (.ref t.a_NothingLeft)=some true
 kt_NothingLeft_Unfit:PySem.W.kitOne K (.ref t.a_NothingLeft) (.ref t.a_Unfit)=some false
 kv_NothingLeft:PySem.W.kitOne K (.ref t.a_NothingLeft) (.type "ValueError")=some true
 bi_SewError:BaseI K t.a_SewError
 nx_Unfit_at:PySem.W.findIn K (.ref t.a_Unfit) "at"=some none
 xi_Unfit:ExcIn K t.a_Unfit
 cat_Unfit:PySem.W.exmOne K (.ref t.a_Unfit) (.ref t.a_SewError)=some true
 ct_Unfit:PySem.W.exmOne K (.ref t.a_Unfit) (.ref t.a_Unfit)=some true
 kt_Unfit_BadName:PySem.W.kitOne K (.ref t.a_Unfit) (.ref t.a_BadName)=some false
 kt_Unfit_Taken:PySem.W.kitOne K (.ref t.a_Unfit) (.ref t.a_Taken)=some false
 kt_Unfit_NoCloth:PySem.W.kitOne K (.ref t.a_Unfit) (.ref t.a_NoCloth)=some false
 kt_Unfit_NoLine:PySem.W.kitOne K (.ref t.a_Unfit) (.ref t.a_NoLine)=some false
 kt_Unfit_BadBit:PySem.W.kitOne K (.ref t.a_Unfit) (.ref t.a_BadBit)=some false
 kt_Unfit_BadSize:PySem.W.kitOne K (.ref t.a_Unfit) (.ref t.a_BadSize)=some false
 kt_Unfit_NothingLeft:PySem.W.kitOne K (.ref t.a_Unfit) (.ref t.a_NothingLeft)=some false
 kt_Unfit_Unfit:PySem.W.kitOne K (.ref t.a_Unfit) (.ref t.a_Unfit)=some true
 mg_LONGEST_SIDE:mg "LONGEST_SIDE"=some (.int 40 t.tk_LONGEST_SIDE)
 mg_LONGEST_NAME:mg "LONGEST_NAME"=some (.int 12 t.tk_LONGEST_NAME)
 no_isinstance:mg "isinstance"=none
 no_int:mg "int"=none
 no_bool:mg "bool"=none
 no_all:mg "all"=none
 no_len:mg "len"=none
 no_tuple:mg "tuple"=none
 no_list:mg "list"=none
 no_range:mg "range"=none
 no_abs:mg "abs"=none
 no_sum:mg "sum"=none
 no_min:mg "min"=none
 no_str:mg "str"=none
 no_zip:mg "zip"=none
 no_enumerate:mg "enumerate"=none
 no_ValueError:mg "ValueError"=none
 no_dict:mg "dict"=none
theorem txt_mk {K:PySem.W.Frag} {h:Heap} {mg:Str→Option Value} (X:K.In h) (G:h.Ns mainGlobals mg) {C_Board:Addr} {C_Chest:Addr} {C_Cloth:Addr} {f_UnfitInit:Addr} {d_UnfitInit:FuncData} {f_isnumber:Addr} {d_isnumber:FuncData} {f_isbelow:Addr} {d_isbelow:FuncData} {f_isbit:Addr} {d_isbit:FuncData} {f_allbits:Addr} {d_allbits:FuncData} {f_isside:Addr} {d_isside:FuncData} {f_needcell:Addr} {d_needcell:FuncData} {f_BoardInit:Addr} {d_BoardInit:FuncData} {f_ClothInit:Addr} {d_ClothInit:FuncData} {f_Clothshade:Addr} {d_Clothshade:FuncData} {f_Clothwide:Addr} {d_Clothwide:FuncData} {f_Clothtall:Addr} {d_Clothtall:FuncData} {f_Clothcols:Addr} {d_Clothcols:FuncData} {f_Clothrows:Addr} {d_Clothrows:FuncData} {f_Clothbitsalong:Addr} {d_Clothbitsalong:FuncData} {f_Clothbit:Addr} {d_Clothbit:FuncData} {f_Clothcolour:Addr} {d_Clothcolour:FuncData} {f_shifted:Addr} {d_shifted:FuncData} {f_transposed:Addr} {d_transposed:FuncData} {f_withbits:Addr} {d_withbits:FuncData} {f_turned:Addr} {d_turned:FuncData} {f_put:Addr} {d_put:FuncData} {f_cut:Addr} {d_cut:FuncData} {f_partedup:Addr} {d_partedup:FuncData} {f_parted:Addr} {d_parted:FuncData} {f_sewnbeside:Addr} {d_sewnbeside:FuncData} {f_sewntogether:Addr} {d_sewntogether:FuncData} {f_isname:Addr} {d_isname:FuncData} {f_ChestInit:Addr} {d_ChestInit:FuncData} {f_Chestnames:Addr} {d_Chestnames:FuncData} {f_Chestcloth:Addr} {d_Chestcloth:FuncData} {f_Chestneedfree:Addr} {d_Chestneedfree:FuncData} {f_Chestbecome:Addr} {d_Chestbecome:FuncData} {f_Chestbecomewith:Addr} {d_Chestbecomewith:FuncData} {f_Chestlay:Addr} {d_Chestlay:FuncData} {f_Chestdrop:Addr} {d_Chestdrop:FuncData} {f_Chestturn:Addr} {d_Chestturn:FuncData} {f_Chestput:Addr} {d_Chestput:FuncData} {f_Chestcut:Addr} {d_Chestcut:FuncData} {f_Chestsew:Addr} {d_Chestsew:FuncData} {f_Chestpart:Addr} {d_Chestpart:FuncData} {f_Chestundo:Addr} {d_Chestundo:FuncData} {f_Chestredo:Addr} {d_Chestredo:FuncData} {f_Chestundoable:Addr} {d_Chestundoable:FuncData} {f_Chestredoable:Addr} {d_Chestredoable:FuncData} {f_Ldraws:Addr} {d_Ldraws:FuncData} {f_Lnames:Addr} {d_Lnames:FuncData} {f_Lbits:Addr} {d_Lbits:FuncData} {f_Lrow:Addr} {d_Lrow:FuncData} {f_Lkind:Addr} {d_Lkind:FuncData} {f_Ldo:Addr} {d_Ldo:FuncData} {f_Lsame:Addr} {d_Lsame:FuncData} {f_Lclothkind:Addr} {d_Lclothkind:FuncData} {f_Ltold:Addr} {d_Ltold:FuncData} {f_Lbookfits:Addr} {d_Lbookfits:FuncData} {f_Lbad:Addr} {d_Lbad:FuncData} {f_law:Addr} {d_law:FuncData} {C_SewError:Addr} {C_Unfit:Addr} {C_BadSize:Addr} {C_BadBit:Addr} {C_NoCell:Addr} {C_NoLine:Addr} {C_BadName:Addr} {C_Taken:Addr} {C_NoCloth:Addr} {C_NothingLeft:Addr} {tk_LONGEST_SIDE:Tok} {tk_LONGEST_NAME:Tok}
  (aC_Board:PySem.W.nsIn K mainGlobals "Board"=some (some (.ref C_Board)))
  (ga_Board:PySem.W.specialIn K (.ref C_Board) "__getattribute__"=some (some (.builtin "type.__getattribute__")))
  (rd_Board:PySem.W.readsIn K C_Board (.type "type")=true)
  (aC_Chest:PySem.W.nsIn K mainGlobals "Chest"=some (some (.ref C_Chest)))
  (pg_Chest:PySem.W.plainGet K C_Chest Str.empty=true)
  (hd_Chest:PySem.W.hasDictIn K C_Chest=true)
  (po_Chest:PySem.W.plainOver K C_Chest=true)
  (sa_Chest:PySem.W.findIn K (.ref C_Chest) "__setattr__"=some (some (.builtin "object.__setattr__")))
  (mk_Chest:PySem.W.makesIn K C_Chest=true)
  (kc_Chest:PySem.W.keepIn K (.ref C_Chest)=true)
  (naC_cloths:PySem.W.findIn K (.ref C_Chest) "cloths"=some none)
  (naC_ahead_of_deeds:PySem.W.findIn K (.ref C_Chest) "ahead_of_deeds"=some none)
  (naC_behind_undone:PySem.W.findIn K (.ref C_Chest) "behind_undone"=some none)
  (aC_Cloth:PySem.W.nsIn K mainGlobals "Cloth"=some (some (.ref C_Cloth)))
  (pg_Cloth:PySem.W.plainGet K C_Cloth Str.empty=true)
  (hd_Cloth:PySem.W.hasDictIn K C_Cloth=true)
  (po_Cloth:PySem.W.plainOver K C_Cloth=true)
  (sa_Cloth:PySem.W.findIn K (.ref C_Cloth) "__setattr__"=some (some (.builtin "object.__setattr__")))
  (mk_Cloth:PySem.W.makesIn K C_Cloth=true)
  (kc_Cloth:PySem.W.keepIn K (.ref C_Cloth)=true)
  (na_columns_count:PySem.W.findIn K (.ref C_Cloth) "columns_count"=some none)
  (na_rows_count:PySem.W.findIn K (.ref C_Cloth) "rows_count"=some none)
  (na_col_bits:PySem.W.findIn K (.ref C_Cloth) "col_bits"=some none)
  (na_row_bits:PySem.W.findIn K (.ref C_Cloth) "row_bits"=some none)
  (na_first_colour:PySem.W.findIn K (.ref C_Cloth) "first_colour"=some none)
  (F_UnfitInit:Fun K "__init__" "Unfit.__init__" s_UnfitInit f_UnfitInit d_UnfitInit)
  (oi_Unfit:PySem.W.findIn K (.ref C_Unfit) "__init__"=some (some (.ref f_UnfitInit)))
  (of_Unfit:PySem.W.typeIn K (.ref f_UnfitInit)=some (.type "function"))
  (ok_Unfit:PySem.W.keepIn K (.ref C_Unfit)=true)
  (os_Unfit:PySem.W.findIn K (.ref C_Unfit) "__setattr__"=some (some (.builtin "object.__setattr__")))
  (om_Unfit:PySem.W.mroIn K C_Unfit (.type "object")=some true)
  (ox_Unfit:exiK K C_Unfit [.type "ValueError",.type "Exception",.type "BaseException",.type "object"] "ValueError.__new__"=true)
  (a_isnumber:PySem.W.nsIn K mainGlobals "is_number"=some (some (.ref f_isnumber)))
  (F_isnumber:Fun K "is_number" "is_number" s_isnumber f_isnumber d_isnumber)
  (a_isbelow:PySem.W.nsIn K mainGlobals "is_below"=some (some (.ref f_isbelow)))
  (F_isbelow:Fun K "is_below" "is_below" s_isbelow f_isbelow d_isbelow)
  (a_isbit:PySem.W.nsIn K mainGlobals "is_bit"=some (some (.ref f_isbit)))
  (F_isbit:Fun K "is_bit" "is_bit" s_isbit f_isbit d_isbit)
  (a_allbits:PySem.W.nsIn K mainGlobals "all_bits"=some (some (.ref f_allbits)))
  (F_allbits:Fun K "all_bits" "all_bits" s_allbits f_allbits d_allbits)
  (a_isside:PySem.W.nsIn K mainGlobals "is_side"=some (some (.ref f_isside)))
  (F_isside:Fun K "is_side" "is_side" s_isside f_isside d_isside)
  (a_needcell:PySem.W.nsIn K mainGlobals "need_cell"=some (some (.ref f_needcell)))
  (F_needcell:Fun K "need_cell" "need_cell" s_needcell f_needcell d_needcell)
  (fc_BoardInit:PySem.W.findCls K (.ref C_Board) (.type "type") "__init__"=some (.val (.ref f_BoardInit)))
  (F_BoardInit:Fun K "__init__" "Board.__init__" s_BoardInit f_BoardInit d_BoardInit)
  (a_ClothInit:PySem.W.findIn K (.ref C_Cloth) "__init__"=some (some (.ref f_ClothInit)))
  (i_ClothInit:PySem.W.isFn K (.ref f_ClothInit)=true)
  (F_ClothInit:Fun K "__init__" "Cloth.__init__" s_ClothInit f_ClothInit d_ClothInit)
  (a_Clothshade:PySem.W.findIn K (.ref C_Cloth) "shade"=some (some (.ref f_Clothshade)))
  (i_Clothshade:PySem.W.isFn K (.ref f_Clothshade)=true)
  (F_Clothshade:Fun K "shade" "Cloth.shade" s_Clothshade f_Clothshade d_Clothshade)
  (a_Clothwide:PySem.W.findIn K (.ref C_Cloth) "wide"=some (some (.ref f_Clothwide)))
  (i_Clothwide:PySem.W.isFn K (.ref f_Clothwide)=true)
  (F_Clothwide:Fun K "wide" "Board.wide" s_Clothwide f_Clothwide d_Clothwide)
  (a_Clothtall:PySem.W.findIn K (.ref C_Cloth) "tall"=some (some (.ref f_Clothtall)))
  (i_Clothtall:PySem.W.isFn K (.ref f_Clothtall)=true)
  (F_Clothtall:Fun K "tall" "Board.tall" s_Clothtall f_Clothtall d_Clothtall)
  (a_Clothcols:PySem.W.findIn K (.ref C_Cloth) "cols"=some (some (.ref f_Clothcols)))
  (i_Clothcols:PySem.W.isFn K (.ref f_Clothcols)=true)
  (F_Clothcols:Fun K "cols" "Board.cols" s_Clothcols f_Clothcols d_Clothcols)
  (a_Clothrows:PySem.W.findIn K (.ref C_Cloth) "rows"=some (some (.ref f_Clothrows)))
  (i_Clothrows:PySem.W.isFn K (.ref f_Clothrows)=true)
  (F_Clothrows:Fun K "rows" "Board.rows" s_Clothrows f_Clothrows d_Clothrows)
  (a_Clothbitsalong:PySem.W.findIn K (.ref C_Cloth) "bits_along"=some (some (.ref f_Clothbitsalong)))
  (i_Clothbitsalong:PySem.W.isFn K (.ref f_Clothbitsalong)=true)
  (F_Clothbitsalong:Fun K "bits_along" "Board.bits_along" s_Clothbitsalong f_Clothbitsalong d_Clothbitsalong)
  (a_Clothbit:PySem.W.findIn K (.ref C_Cloth) "bit"=some (some (.ref f_Clothbit)))
  (i_Clothbit:PySem.W.isFn K (.ref f_Clothbit)=true)
  (F_Clothbit:Fun K "bit" "Board.bit" s_Clothbit f_Clothbit d_Clothbit)
  (a_Clothcolour:PySem.W.findIn K (.ref C_Cloth) "colour"=some (some (.ref f_Clothcolour)))
  (i_Clothcolour:PySem.W.isFn K (.ref f_Clothcolour)=true)
  (F_Clothcolour:Fun K "colour" "Cloth.colour" s_Clothcolour f_Clothcolour d_Clothcolour)
  (a_shifted:PySem.W.nsIn K mainGlobals "shifted"=some (some (.ref f_shifted)))
  (F_shifted:Fun K "shifted" "shifted" s_shifted f_shifted d_shifted)
  (a_transposed:PySem.W.nsIn K mainGlobals "transposed"=some (some (.ref f_transposed)))
  (F_transposed:Fun K "transposed" "transposed" s_transposed f_transposed d_transposed)
  (a_withbits:PySem.W.nsIn K mainGlobals "with_bits"=some (some (.ref f_withbits)))
  (F_withbits:Fun K "with_bits" "with_bits" s_withbits f_withbits d_withbits)
  (a_turned:PySem.W.nsIn K mainGlobals "turned"=some (some (.ref f_turned)))
  (F_turned:Fun K "turned" "turned" s_turned f_turned d_turned)
  (a_put:PySem.W.nsIn K mainGlobals "put"=some (some (.ref f_put)))
  (F_put:Fun K "put" "put" s_put f_put d_put)
  (a_putsew:PySem.W.nsIn K mainGlobals "put_sew"=some (some (.ref f_put)))
  (a_cut:PySem.W.nsIn K mainGlobals "cut"=some (some (.ref f_cut)))
  (F_cut:Fun K "cut" "cut" s_cut f_cut d_cut)
  (a_cutsew:PySem.W.nsIn K mainGlobals "cut_sew"=some (some (.ref f_cut)))
  (a_partedup:PySem.W.nsIn K mainGlobals "parted_up"=some (some (.ref f_partedup)))
  (F_partedup:Fun K "parted_up" "parted_up" s_partedup f_partedup d_partedup)
  (a_parted:PySem.W.nsIn K mainGlobals "parted"=some (some (.ref f_parted)))
  (F_parted:Fun K "parted" "parted" s_parted f_parted d_parted)
  (a_sewnbeside:PySem.W.nsIn K mainGlobals "sewn_beside"=some (some (.ref f_sewnbeside)))
  (F_sewnbeside:Fun K "sewn_beside" "sewn_beside" s_sewnbeside f_sewnbeside d_sewnbeside)
  (a_sewntogether:PySem.W.nsIn K mainGlobals "sewn_together"=some (some (.ref f_sewntogether)))
  (F_sewntogether:Fun K "sewn_together" "sewn_together" s_sewntogether f_sewntogether d_sewntogether)
  (a_isname:PySem.W.nsIn K mainGlobals "is_name"=some (some (.ref f_isname)))
  (F_isname:Fun K "is_name" "is_name" s_isname f_isname d_isname)
  (a_ChestInit:PySem.W.findIn K (.ref C_Chest) "__init__"=some (some (.ref f_ChestInit)))
  (i_ChestInit:PySem.W.isFn K (.ref f_ChestInit)=true)
  (F_ChestInit:Fun K "__init__" "Chest.__init__" s_ChestInit f_ChestInit d_ChestInit)
  (a_Chestnames:PySem.W.findIn K (.ref C_Chest) "names"=some (some (.ref f_Chestnames)))
  (i_Chestnames:PySem.W.isFn K (.ref f_Chestnames)=true)
  (F_Chestnames:Fun K "names" "Chest.names" s_Chestnames f_Chestnames d_Chestnames)
  (a_Chestcloth:PySem.W.findIn K (.ref C_Chest) "cloth"=some (some (.ref f_Chestcloth)))
  (i_Chestcloth:PySem.W.isFn K (.ref f_Chestcloth)=true)
  (F_Chestcloth:Fun K "cloth" "Chest.cloth" s_Chestcloth f_Chestcloth d_Chestcloth)
  (a_Chestneedfree:PySem.W.findIn K (.ref C_Chest) "need_free"=some (some (.ref f_Chestneedfree)))
  (i_Chestneedfree:PySem.W.isFn K (.ref f_Chestneedfree)=true)
  (F_Chestneedfree:Fun K "need_free" "Chest.need_free" s_Chestneedfree f_Chestneedfree d_Chestneedfree)
  (a_Chestbecome:PySem.W.findIn K (.ref C_Chest) "become"=some (some (.ref f_Chestbecome)))
  (i_Chestbecome:PySem.W.isFn K (.ref f_Chestbecome)=true)
  (F_Chestbecome:Fun K "become" "Chest.become" s_Chestbecome f_Chestbecome d_Chestbecome)
  (a_Chestbecomewith:PySem.W.findIn K (.ref C_Chest) "become_with"=some (some (.ref f_Chestbecomewith)))
  (i_Chestbecomewith:PySem.W.isFn K (.ref f_Chestbecomewith)=true)
  (F_Chestbecomewith:Fun K "become_with" "Chest.become_with" s_Chestbecomewith f_Chestbecomewith d_Chestbecomewith)
  (a_Chestlay:PySem.W.findIn K (.ref C_Chest) "lay"=some (some (.ref f_Chestlay)))
  (i_Chestlay:PySem.W.isFn K (.ref f_Chestlay)=true)
  (F_Chestlay:Fun K "lay" "Chest.lay" s_Chestlay f_Chestlay d_Chestlay)
  (a_Chestdrop:PySem.W.findIn K (.ref C_Chest) "drop"=some (some (.ref f_Chestdrop)))
  (i_Chestdrop:PySem.W.isFn K (.ref f_Chestdrop)=true)
  (F_Chestdrop:Fun K "drop" "Chest.drop" s_Chestdrop f_Chestdrop d_Chestdrop)
  (a_Chestturn:PySem.W.findIn K (.ref C_Chest) "turn"=some (some (.ref f_Chestturn)))
  (i_Chestturn:PySem.W.isFn K (.ref f_Chestturn)=true)
  (F_Chestturn:Fun K "turn" "Chest.turn" s_Chestturn f_Chestturn d_Chestturn)
  (a_Chestput:PySem.W.findIn K (.ref C_Chest) "put"=some (some (.ref f_Chestput)))
  (i_Chestput:PySem.W.isFn K (.ref f_Chestput)=true)
  (F_Chestput:Fun K "put" "Chest.put" s_Chestput f_Chestput d_Chestput)
  (a_Chestcut:PySem.W.findIn K (.ref C_Chest) "cut"=some (some (.ref f_Chestcut)))
  (i_Chestcut:PySem.W.isFn K (.ref f_Chestcut)=true)
  (F_Chestcut:Fun K "cut" "Chest.cut" s_Chestcut f_Chestcut d_Chestcut)
  (a_Chestsew:PySem.W.findIn K (.ref C_Chest) "sew"=some (some (.ref f_Chestsew)))
  (i_Chestsew:PySem.W.isFn K (.ref f_Chestsew)=true)
  (F_Chestsew:Fun K "sew" "Chest.sew" s_Chestsew f_Chestsew d_Chestsew)
  (a_Chestpart:PySem.W.findIn K (.ref C_Chest) "part"=some (some (.ref f_Chestpart)))
  (i_Chestpart:PySem.W.isFn K (.ref f_Chestpart)=true)
  (F_Chestpart:Fun K "part" "Chest.part" s_Chestpart f_Chestpart d_Chestpart)
  (a_Chestundo:PySem.W.findIn K (.ref C_Chest) "undo"=some (some (.ref f_Chestundo)))
  (i_Chestundo:PySem.W.isFn K (.ref f_Chestundo)=true)
  (F_Chestundo:Fun K "undo" "Chest.undo" s_Chestundo f_Chestundo d_Chestundo)
  (a_Chestredo:PySem.W.findIn K (.ref C_Chest) "redo"=some (some (.ref f_Chestredo)))
  (i_Chestredo:PySem.W.isFn K (.ref f_Chestredo)=true)
  (F_Chestredo:Fun K "redo" "Chest.redo" s_Chestredo f_Chestredo d_Chestredo)
  (a_Chestundoable:PySem.W.findIn K (.ref C_Chest) "undoable"=some (some (.ref f_Chestundoable)))
  (i_Chestundoable:PySem.W.isFn K (.ref f_Chestundoable)=true)
  (F_Chestundoable:Fun K "undoable" "Chest.undoable" s_Chestundoable f_Chestundoable d_Chestundoable)
  (a_Chestredoable:PySem.W.findIn K (.ref C_Chest) "redoable"=some (some (.ref f_Chestredoable)))
  (i_Chestredoable:PySem.W.isFn K (.ref f_Chestredoable)=true)
  (F_Chestredoable:Fun K "redoable" "Chest.redoable" s_Chestredoable f_Chestredoable d_Chestredoable)
  (a_Ldraws:PySem.W.nsIn K mainGlobals "_law_draws"=some (some (.ref f_Ldraws)))
  (F_Ldraws:Fun K "_law_draws" "_law_draws" s_Ldraws f_Ldraws d_Ldraws)
  (a_Lnames:PySem.W.nsIn K mainGlobals "_law_names"=some (some (.ref f_Lnames)))
  (F_Lnames:Fun K "_law_names" "_law_names" s_Lnames f_Lnames d_Lnames)
  (a_Lbits:PySem.W.nsIn K mainGlobals "_law_bits"=some (some (.ref f_Lbits)))
  (F_Lbits:Fun K "_law_bits" "_law_bits" s_Lbits f_Lbits d_Lbits)
  (a_Lrow:PySem.W.nsIn K mainGlobals "_law_row"=some (some (.ref f_Lrow)))
  (F_Lrow:Fun K "_law_row" "_law_row" s_Lrow f_Lrow d_Lrow)
  (a_Lkind:PySem.W.nsIn K mainGlobals "_law_kind"=some (some (.ref f_Lkind)))
  (F_Lkind:Fun K "_law_kind" "_law_kind" s_Lkind f_Lkind d_Lkind)
  (a_Ldo:PySem.W.nsIn K mainGlobals "_law_do"=some (some (.ref f_Ldo)))
  (F_Ldo:Fun K "_law_do" "_law_do" s_Ldo f_Ldo d_Ldo)
  (a_Lsame:PySem.W.nsIn K mainGlobals "_law_same"=some (some (.ref f_Lsame)))
  (F_Lsame:Fun K "_law_same" "_law_same" s_Lsame f_Lsame d_Lsame)
  (a_Lclothkind:PySem.W.nsIn K mainGlobals "_law_cloth_kind"=some (some (.ref f_Lclothkind)))
  (F_Lclothkind:Fun K "_law_cloth_kind" "_law_cloth_kind" s_Lclothkind f_Lclothkind d_Lclothkind)
  (a_Ltold:PySem.W.nsIn K mainGlobals "_law_told"=some (some (.ref f_Ltold)))
  (F_Ltold:Fun K "_law_told" "_law_told" s_Ltold f_Ltold d_Ltold)
  (a_Lbookfits:PySem.W.nsIn K mainGlobals "_law_book_fits"=some (some (.ref f_Lbookfits)))
  (F_Lbookfits:Fun K "_law_book_fits" "_law_book_fits" s_Lbookfits f_Lbookfits d_Lbookfits)
  (a_Lbad:PySem.W.nsIn K mainGlobals "_law_bad"=some (some (.ref f_Lbad)))
  (F_Lbad:Fun K "_law_bad" "_law_bad" s_Lbad f_Lbad d_Lbad)
  (a_law:PySem.W.nsIn K mainGlobals "law"=some (some (.ref f_law)))
  (F_law:Fun K "law" "law" s_law f_law d_law)
  (aX_SewError:PySem.W.nsIn K mainGlobals "SewError"=some (some (.ref C_SewError)))
  (aX_Unfit:PySem.W.nsIn K mainGlobals "Unfit"=some (some (.ref C_Unfit)))
  (aX_BadSize:PySem.W.nsIn K mainGlobals "BadSize"=some (some (.ref C_BadSize)))
  (aX_BadBit:PySem.W.nsIn K mainGlobals "BadBit"=some (some (.ref C_BadBit)))
  (aX_NoCell:PySem.W.nsIn K mainGlobals "NoCell"=some (some (.ref C_NoCell)))
  (aX_NoLine:PySem.W.nsIn K mainGlobals "NoLine"=some (some (.ref C_NoLine)))
  (aX_BadName:PySem.W.nsIn K mainGlobals "BadName"=some (some (.ref C_BadName)))
  (aX_Taken:PySem.W.nsIn K mainGlobals "Taken"=some (some (.ref C_Taken)))
  (aX_NoCloth:PySem.W.nsIn K mainGlobals "NoCloth"=some (some (.ref C_NoCloth)))
  (aX_NothingLeft:PySem.W.nsIn K mainGlobals "NothingLeft"=some (some (.ref C_NothingLeft)))
  (bb:PySem.W.subIn K (.ref C_SewError) (.type "BaseException")=some true)
  (bm:PySem.W.mroIn K C_SewError (.type "object")=some true)
  (bt:PySem.W.typeIn K (.ref C_SewError)=some (.type "type"))
  (nb:PySem.W.subIn K (.ref C_Unfit) (.type "BaseException")=some true)
  (nm:PySem.W.mroIn K C_Unfit (.type "object")=some true)
  (nt:PySem.W.typeIn K (.ref C_Unfit)=some (.type "type"))
  (ogs:PySem.W.specialIn K (.builtin "object.__class__") "__get__"=some (some (.builtin "getset_descriptor.__get__")))
  (otk:PySem.W.takesIn K (.builtin "object.__class__")=some true)
  (x_BadSize:PySem.W.excIn K C_BadSize [.type "ValueError",.type "Exception",.type "BaseException",.type "object"] "ValueError.__new__"=true)
  (ga_BadSize:PySem.W.findIn K (.ref C_BadSize) "__getattribute__"=some (some (.builtin "BaseException.__getattribute__")))
  (gt_BadSize:PySem.W.findIn K (.ref C_BadSize) "__getattr__"=some none)
  (gc_BadSize:PySem.W.findIn K (.ref C_BadSize) "__class__"=some (some (.builtin "object.__class__")))
  (go_BadSize:PySem.W.mroIn K C_BadSize (.type "object")=some true)
  (gb_BadSize:PySem.W.mroIn K C_BadSize (.type "BaseException")=some true)
  (sb_BadSize:PySem.W.subIn K (.ref C_BadSize) (.ref C_SewError)=some true)
  (sn_BadSize:PySem.W.subIn K (.ref C_BadSize) (.ref C_Unfit)=some false)
  (kt_BadSize_BadName:PySem.W.kitOne K (.ref C_BadSize) (.ref C_BadName)=some false)
  (kt_BadSize_Taken:PySem.W.kitOne K (.ref C_BadSize) (.ref C_Taken)=some false)
  (kt_BadSize_NoCloth:PySem.W.kitOne K (.ref C_BadSize) (.ref C_NoCloth)=some false)
  (kt_BadSize_NoLine:PySem.W.kitOne K (.ref C_BadSize) (.ref C_NoLine)=some false)
  (kt_BadSize_BadBit:PySem.W.kitOne K (.ref C_BadSize) (.ref C_BadBit)=some false)
  (kt_BadSize_BadSize:PySem.W.kitOne K (.ref C_BadSize) (.ref C_BadSize)=some true)
  (kt_BadSize_NothingLeft:PySem.W.kitOne K (.ref C_BadSize) (.ref C_NothingLeft)=some false)
  (kt_BadSize_Unfit:PySem.W.kitOne K (.ref C_BadSize) (.ref C_Unfit)=some false)
  (kv_BadSize:PySem.W.kitOne K (.ref C_BadSize) (.type "ValueError")=some true)
  (x_BadBit:PySem.W.excIn K C_BadBit [.type "ValueError",.type "Exception",.type "BaseException",.type "object"] "ValueError.__new__"=true)
  (ga_BadBit:PySem.W.findIn K (.ref C_BadBit) "__getattribute__"=some (some (.builtin "BaseException.__getattribute__")))
  (gt_BadBit:PySem.W.findIn K (.ref C_BadBit) "__getattr__"=some none)
  (gc_BadBit:PySem.W.findIn K (.ref C_BadBit) "__class__"=some (some (.builtin "object.__class__")))
  (go_BadBit:PySem.W.mroIn K C_BadBit (.type "object")=some true)
  (gb_BadBit:PySem.W.mroIn K C_BadBit (.type "BaseException")=some true)
  (sb_BadBit:PySem.W.subIn K (.ref C_BadBit) (.ref C_SewError)=some true)
  (sn_BadBit:PySem.W.subIn K (.ref C_BadBit) (.ref C_Unfit)=some false)
  (kt_BadBit_BadName:PySem.W.kitOne K (.ref C_BadBit) (.ref C_BadName)=some false)
  (kt_BadBit_Taken:PySem.W.kitOne K (.ref C_BadBit) (.ref C_Taken)=some false)
  (kt_BadBit_NoCloth:PySem.W.kitOne K (.ref C_BadBit) (.ref C_NoCloth)=some false)
  (kt_BadBit_NoLine:PySem.W.kitOne K (.ref C_BadBit) (.ref C_NoLine)=some false)
  (kt_BadBit_BadBit:PySem.W.kitOne K (.ref C_BadBit) (.ref C_BadBit)=some true)
  (kt_BadBit_BadSize:PySem.W.kitOne K (.ref C_BadBit) (.ref C_BadSize)=some false)
  (kt_BadBit_NothingLeft:PySem.W.kitOne K (.ref C_BadBit) (.ref C_NothingLeft)=some false)
  (kt_BadBit_Unfit:PySem.W.kitOne K (.ref C_BadBit) (.ref C_Unfit)=some false)
  (kv_BadBit:PySem.W.kitOne K (.ref C_BadBit) (.type "ValueError")=some true)
  (x_NoCell:PySem.W.excIn K C_NoCell [.type "ValueError",.type "Exception",.type "BaseException",.type "object"] "ValueError.__new__"=true)
  (ga_NoCell:PySem.W.findIn K (.ref C_NoCell) "__getattribute__"=some (some (.builtin "BaseException.__getattribute__")))
  (gt_NoCell:PySem.W.findIn K (.ref C_NoCell) "__getattr__"=some none)
  (gc_NoCell:PySem.W.findIn K (.ref C_NoCell) "__class__"=some (some (.builtin "object.__class__")))
  (go_NoCell:PySem.W.mroIn K C_NoCell (.type "object")=some true)
  (gb_NoCell:PySem.W.mroIn K C_NoCell (.type "BaseException")=some true)
  (sb_NoCell:PySem.W.subIn K (.ref C_NoCell) (.ref C_SewError)=some true)
  (x_NoLine:PySem.W.excIn K C_NoLine [.type "ValueError",.type "Exception",.type "BaseException",.type "object"] "ValueError.__new__"=true)
  (ga_NoLine:PySem.W.findIn K (.ref C_NoLine) "__getattribute__"=some (some (.builtin "BaseException.__getattribute__")))
  (gt_NoLine:PySem.W.findIn K (.ref C_NoLine) "__getattr__"=some none)
  (gc_NoLine:PySem.W.findIn K (.ref C_NoLine) "__class__"=some (some (.builtin "object.__class__")))
  (go_NoLine:PySem.W.mroIn K C_NoLine (.type "object")=some true)
  (gb_NoLine:PySem.W.mroIn K C_NoLine (.type "BaseException")=some true)
  (sb_NoLine:PySem.W.subIn K (.ref C_NoLine) (.ref C_SewError)=some true)
  (sn_NoLine:PySem.W.subIn K (.ref C_NoLine) (.ref C_Unfit)=some false)
  (kt_NoLine_BadName:PySem.W.kitOne K (.ref C_NoLine) (.ref C_BadName)=some false)
  (kt_NoLine_Taken:PySem.W.kitOne K (.ref C_NoLine) (.ref C_Taken)=some false)
  (kt_NoLine_NoCloth:PySem.W.kitOne K (.ref C_NoLine) (.ref C_NoCloth)=some false)
  (kt_NoLine_NoLine:PySem.W.kitOne K (.ref C_NoLine) (.ref C_NoLine)=some true)
  (kt_NoLine_BadBit:PySem.W.kitOne K (.ref C_NoLine) (.ref C_BadBit)=some false)
  (kt_NoLine_BadSize:PySem.W.kitOne K (.ref C_NoLine) (.ref C_BadSize)=some false)
  (kt_NoLine_NothingLeft:PySem.W.kitOne K (.ref C_NoLine) (.ref C_NothingLeft)=some false)
  (kt_NoLine_Unfit:PySem.W.kitOne K (.ref C_NoLine) (.ref C_Unfit)=some false)
  (kv_NoLine:PySem.W.kitOne K (.ref C_NoLine) (.type "ValueError")=some true)
  (x_BadName:PySem.W.excIn K C_BadName [.type "ValueError",.type "Exception",.type "BaseException",.type "object"] "ValueError.__new__"=true)
  (ga_BadName:PySem.W.findIn K (.ref C_BadName) "__getattribute__"=some (some (.builtin "BaseException.__getattribute__")))
  (gt_BadName:PySem.W.findIn K (.ref C_BadName) "__getattr__"=some none)
  (gc_BadName:PySem.W.findIn K (.ref C_BadName) "__class__"=some (some (.builtin "object.__class__")))
  (go_BadName:PySem.W.mroIn K C_BadName (.type "object")=some true)
  (gb_BadName:PySem.W.mroIn K C_BadName (.type "BaseException")=some true)
  (sb_BadName:PySem.W.subIn K (.ref C_BadName) (.ref C_SewError)=some true)
  (sn_BadName:PySem.W.subIn K (.ref C_BadName) (.ref C_Unfit)=some false)
  (kt_BadName_BadName:PySem.W.kitOne K (.ref C_BadName) (.ref C_BadName)=some true)
  (kt_BadName_Taken:PySem.W.kitOne K (.ref C_BadName) (.ref C_Taken)=some false)
  (kt_BadName_NoCloth:PySem.W.kitOne K (.ref C_BadName) (.ref C_NoCloth)=some false)
  (kt_BadName_NoLine:PySem.W.kitOne K (.ref C_BadName) (.ref C_NoLine)=some false)
  (kt_BadName_BadBit:PySem.W.kitOne K (.ref C_BadName) (.ref C_BadBit)=some false)
  (kt_BadName_BadSize:PySem.W.kitOne K (.ref C_BadName) (.ref C_BadSize)=some false)
  (kt_BadName_NothingLeft:PySem.W.kitOne K (.ref C_BadName) (.ref C_NothingLeft)=some false)
  (kt_BadName_Unfit:PySem.W.kitOne K (.ref C_BadName) (.ref C_Unfit)=some false)
  (kv_BadName:PySem.W.kitOne K (.ref C_BadName) (.type "ValueError")=some true)
  (x_Taken:PySem.W.excIn K C_Taken [.type "ValueError",.type "Exception",.type "BaseException",.type "object"] "ValueError.__new__"=true)
  (ga_Taken:PySem.W.findIn K (.ref C_Taken) "__getattribute__"=some (some (.builtin "BaseException.__getattribute__")))
  (gt_Taken:PySem.W.findIn K (.ref C_Taken) "__getattr__"=some none)
  (gc_Taken:PySem.W.findIn K (.ref C_Taken) "__class__"=some (some (.builtin "object.__class__")))
  (go_Taken:PySem.W.mroIn K C_Taken (.type "object")=some true)
  (gb_Taken:PySem.W.mroIn K C_Taken (.type "BaseException")=some true)
  (sb_Taken:PySem.W.subIn K (.ref C_Taken) (.ref C_SewError)=some true)
  (sn_Taken:PySem.W.subIn K (.ref C_Taken) (.ref C_Unfit)=some false)
  (kt_Taken_BadName:PySem.W.kitOne K (.ref C_Taken) (.ref C_BadName)=some false)
  (kt_Taken_Taken:PySem.W.kitOne K (.ref C_Taken) (.ref C_Taken)=some true)
  (kt_Taken_NoCloth:PySem.W.kitOne K (.ref C_Taken) (.ref C_NoCloth)=some false)
  (kt_Taken_NoLine:PySem.W.kitOne K (.ref C_Taken) (.ref C_NoLine)=some false)
  (kt_Taken_BadBit:PySem.W.kitOne K (.ref C_Taken) (.ref C_BadBit)=some false)
  (kt_Taken_BadSize:PySem.W.kitOne K (.ref C_Taken) (.ref C_BadSize)=some false)
  (kt_Taken_NothingLeft:PySem.W.kitOne K (.ref C_Taken) (.ref C_NothingLeft)=some false)
  (kt_Taken_Unfit:PySem.W.kitOne K (.ref C_Taken) (.ref C_Unfit)=some false)
  (kv_Taken:PySem.W.kitOne K (.ref C_Taken) (.type "ValueError")=some true)
  (x_NoCloth:PySem.W.excIn K C_NoCloth [.type "ValueError",.type "Exception",.type "BaseException",.type "object"] "ValueError.__new__"=true)
  (ga_NoCloth:PySem.W.findIn K (.ref C_NoCloth) "__getattribute__"=some (some (.builtin "BaseException.__getattribute__")))
  (gt_NoCloth:PySem.W.findIn K (.ref C_NoCloth) "__getattr__"=some none)
  (gc_NoCloth:PySem.W.findIn K (.ref C_NoCloth) "__class__"=some (some (.builtin "object.__class__")))
  (go_NoCloth:PySem.W.mroIn K C_NoCloth (.type "object")=some true)
  (gb_NoCloth:PySem.W.mroIn K C_NoCloth (.type "BaseException")=some true)
  (sb_NoCloth:PySem.W.subIn K (.ref C_NoCloth) (.ref C_SewError)=some true)
  (sn_NoCloth:PySem.W.subIn K (.ref C_NoCloth) (.ref C_Unfit)=some false)
  (kt_NoCloth_BadName:PySem.W.kitOne K (.ref C_NoCloth) (.ref C_BadName)=some false)
  (kt_NoCloth_Taken:PySem.W.kitOne K (.ref C_NoCloth) (.ref C_Taken)=some false)
  (kt_NoCloth_NoCloth:PySem.W.kitOne K (.ref C_NoCloth) (.ref C_NoCloth)=some true)
  (kt_NoCloth_NoLine:PySem.W.kitOne K (.ref C_NoCloth) (.ref C_NoLine)=some false)
  (kt_NoCloth_BadBit:PySem.W.kitOne K (.ref C_NoCloth) (.ref C_BadBit)=some false)
  (kt_NoCloth_BadSize:PySem.W.kitOne K (.ref C_NoCloth) (.ref C_BadSize)=some false)
  (kt_NoCloth_NothingLeft:PySem.W.kitOne K (.ref C_NoCloth) (.ref C_NothingLeft)=some false)
  (kt_NoCloth_Unfit:PySem.W.kitOne K (.ref C_NoCloth) (.ref C_Unfit)=some false)
  (kv_NoCloth:PySem.W.kitOne K (.ref C_NoCloth) (.type "ValueError")=some true)
  (x_NothingLeft:PySem.W.excIn K C_NothingLeft [.type "ValueError",.type "Exception",.type "BaseException",.type "object"] "ValueError.__new__"=true)
  (ga_NothingLeft:PySem.W.findIn K (.ref C_NothingLeft) "__getattribute__"=some (some (.builtin "BaseException.__getattribute__")))
  (gt_NothingLeft:PySem.W.findIn K (.ref C_NothingLeft) "__getattr__"=some none)
  (gc_NothingLeft:PySem.W.findIn K (.ref C_NothingLeft) "__class__"=some (some (.builtin "object.__class__")))
  (go_NothingLeft:PySem.W.mroIn K C_NothingLeft (.type "object")=some true)
  (gb_NothingLeft:PySem.W.mroIn K C_NothingLeft (.type "BaseException")=some true)
  (sb_NothingLeft:PySem.W.subIn K (.ref C_NothingLeft) (.ref C_SewError)=some true)
  (sn_NothingLeft:PySem.W.subIn K (.ref C_NothingLeft) (.ref C_Unfit)=some false)
  (kt_NothingLeft_BadName:PySem.W.kitOne K (.ref C_NothingLeft) (.ref C_BadName)=some false)
  (kt_NothingLeft_Taken:PySem.W.kitOne K (.ref C_NothingLeft) (.ref C_Taken)=some false)
  (kt_NothingLeft_NoCloth:PySem.W.kitOne K (.ref C_NothingLeft) (.ref C_NoCloth)=some false)
  (kt_NothingLeft_NoLine:PySem.W.kitOne K (.ref C_NothingLeft) (.ref C_NoLine)=some false)
  (kt_NothingLeft_BadBit:PySem.W.kitOne K (.ref C_NothingLeft) (.ref C_BadBit)=some false)
  (kt_NothingLeft_BadSize:PySem.W.kitOne K (.ref C_NothingLeft) (.ref C_BadSize)=some false)
  (kt_NothingLeft_NothingLeft:PySem.W.kitOne K (.ref C_NothingLeft) (.ref C_NothingLeft)=some true)
  (kt_NothingLeft_Unfit:PySem.W.kitOne K (.ref C_NothingLeft) (.ref C_Unfit)=some false)
  (kv_NothingLeft:PySem.W.kitOne K (.ref C_NothingLeft) (.type "ValueError")=some true)
  (bg:PySem.W.specialIn K (.ref C_SewError) "__getattribute__"=some (some (.builtin "type.__getattribute__")))
  (br:PySem.W.readsIn K C_SewError (.type "type")=true)
  (ba:PySem.W.findCls K (.ref C_SewError) (.type "type") "__init__"=some (.val (.builtin "ValueError.__init__")))
  (nx_Unfit_at:PySem.W.findIn K (.ref C_Unfit) "at"=some none)
  (ga_Unfit:PySem.W.findIn K (.ref C_Unfit) "__getattribute__"=some (some (.builtin "BaseException.__getattribute__")))
  (gt_Unfit:PySem.W.findIn K (.ref C_Unfit) "__getattr__"=some none)
  (gc_Unfit:PySem.W.findIn K (.ref C_Unfit) "__class__"=some (some (.builtin "object.__class__")))
  (go_Unfit:PySem.W.mroIn K C_Unfit (.type "object")=some true)
  (gb_Unfit:PySem.W.mroIn K C_Unfit (.type "BaseException")=some true)
  (sb_Unfit:PySem.W.subIn K (.ref C_Unfit) (.ref C_SewError)=some true)
  (sc_Unfit:PySem.W.subIn K (.ref C_Unfit) (.ref C_Unfit)=some true)
  (kt_Unfit_BadName:PySem.W.kitOne K (.ref C_Unfit) (.ref C_BadName)=some false)
  (kt_Unfit_Taken:PySem.W.kitOne K (.ref C_Unfit) (.ref C_Taken)=some false)
  (kt_Unfit_NoCloth:PySem.W.kitOne K (.ref C_Unfit) (.ref C_NoCloth)=some false)
  (kt_Unfit_NoLine:PySem.W.kitOne K (.ref C_Unfit) (.ref C_NoLine)=some false)
  (kt_Unfit_BadBit:PySem.W.kitOne K (.ref C_Unfit) (.ref C_BadBit)=some false)
  (kt_Unfit_BadSize:PySem.W.kitOne K (.ref C_Unfit) (.ref C_BadSize)=some false)
  (kt_Unfit_NothingLeft:PySem.W.kitOne K (.ref C_Unfit) (.ref C_NothingLeft)=some false)
  (kt_Unfit_Unfit:PySem.W.kitOne K (.ref C_Unfit) (.ref C_Unfit)=some true)
  (v_LONGEST_SIDE:PySem.W.nsIn K mainGlobals "LONGEST_SIDE"=some (some (.int 40 tk_LONGEST_SIDE)))
  (v_LONGEST_NAME:PySem.W.nsIn K mainGlobals "LONGEST_NAME"=some (some (.int 12 tk_LONGEST_NAME)))
  (z_isinstance:PySem.W.nsIn K mainGlobals "isinstance"=some none)
  (z_int:PySem.W.nsIn K mainGlobals "int"=some none)
  (z_bool:PySem.W.nsIn K mainGlobals "bool"=some none)
  (z_all:PySem.W.nsIn K mainGlobals "all"=some none)
  (z_len:PySem.W.nsIn K mainGlobals "len"=some none)
  (z_tuple:PySem.W.nsIn K mainGlobals "tuple"=some none)
  (z_list:PySem.W.nsIn K mainGlobals "list"=some none)
  (z_range:PySem.W.nsIn K mainGlobals "range"=some none)
  (z_abs:PySem.W.nsIn K mainGlobals "abs"=some none)
  (z_sum:PySem.W.nsIn K mainGlobals "sum"=some none)
  (z_min:PySem.W.nsIn K mainGlobals "min"=some none)
  (z_str:PySem.W.nsIn K mainGlobals "str"=some none)
  (z_zip:PySem.W.nsIn K mainGlobals "zip"=some none)
  (z_enumerate:PySem.W.nsIn K mainGlobals "enumerate"=some none)
  (z_ValueError:PySem.W.nsIn K mainGlobals "ValueError"=some none)
  (z_dict:PySem.W.nsIn K mainGlobals "dict"=some none):∃ t:Ad,Txt K mg t :=
 ⟨{ a_Board:=C_Board,a_Chest:=C_Chest,a_Cloth:=C_Cloth,f_UnfitInit:=f_UnfitInit,d_UnfitInit:=d_UnfitInit,f_isnumber:=f_isnumber,d_isnumber:=d_isnumber,f_isbelow:=f_isbelow,d_isbelow:=d_isbelow,f_isbit:=f_isbit,d_isbit:=d_isbit,f_allbits:=f_allbits,d_allbits:=d_allbits,f_isside:=f_isside,d_isside:=d_isside,f_needcell:=f_needcell,d_needcell:=d_needcell,f_BoardInit:=f_BoardInit,d_BoardInit:=d_BoardInit,f_ClothInit:=f_ClothInit,d_ClothInit:=d_ClothInit,f_Clothshade:=f_Clothshade,d_Clothshade:=d_Clothshade,f_Clothwide:=f_Clothwide,d_Clothwide:=d_Clothwide,f_Clothtall:=f_Clothtall,d_Clothtall:=d_Clothtall,f_Clothcols:=f_Clothcols,d_Clothcols:=d_Clothcols,f_Clothrows:=f_Clothrows,d_Clothrows:=d_Clothrows,f_Clothbitsalong:=f_Clothbitsalong,d_Clothbitsalong:=d_Clothbitsalong,f_Clothbit:=f_Clothbit,d_Clothbit:=d_Clothbit,f_Clothcolour:=f_Clothcolour,d_Clothcolour:=d_Clothcolour,f_shifted:=f_shifted,d_shifted:=d_shifted,f_transposed:=f_transposed,d_transposed:=d_transposed,f_withbits:=f_withbits,d_withbits:=d_withbits,f_turned:=f_turned,d_turned:=d_turned,f_put:=f_put,d_put:=d_put,f_cut:=f_cut,d_cut:=d_cut,f_partedup:=f_partedup,d_partedup:=d_partedup,f_parted:=f_parted,d_parted:=d_parted,f_sewnbeside:=f_sewnbeside,d_sewnbeside:=d_sewnbeside,f_sewntogether:=f_sewntogether,d_sewntogether:=d_sewntogether,f_isname:=f_isname,d_isname:=d_isname,f_ChestInit:=f_ChestInit,d_ChestInit:=d_ChestInit,f_Chestnames:=f_Chestnames,d_Chestnames:=d_Chestnames,f_Chestcloth:=f_Chestcloth,d_Chestcloth:=d_Chestcloth,f_Chestneedfree:=f_Chestneedfree,d_Chestneedfree:=d_Chestneedfree,f_Chestbecome:=f_Chestbecome,d_Chestbecome:=d_Chestbecome,f_Chestbecomewith:=f_Chestbecomewith,d_Chestbecomewith:=d_Chestbecomewith,f_Chestlay:=f_Chestlay,d_Chestlay:=d_Chestlay,f_Chestdrop:=f_Chestdrop,d_Chestdrop:=d_Chestdrop,f_Chestturn:=f_Chestturn,d_Chestturn:=d_Chestturn,f_Chestput:=f_Chestput,d_Chestput:=d_Chestput,f_Chestcut:=f_Chestcut,d_Chestcut:=d_Chestcut,f_Chestsew:=f_Chestsew,d_Chestsew:=d_Chestsew,f_Chestpart:=f_Chestpart,d_Chestpart:=d_Chestpart,f_Chestundo:=f_Chestundo,d_Chestundo:=d_Chestundo,f_Chestredo:=f_Chestredo,d_Chestredo:=d_Chestredo,f_Chestundoable:=f_Chestundoable,d_Chestundoable:=d_Chestundoable,f_Chestredoable:=f_Chestredoable,d_Chestredoable:=d_Chestredoable,f_Ldraws:=f_Ldraws,d_Ldraws:=d_Ldraws,f_Lnames:=f_Lnames,d_Lnames:=d_Lnames,f_Lbits:=f_Lbits,d_Lbits:=d_Lbits,f_Lrow:=f_Lrow,d_Lrow:=d_Lrow,f_Lkind:=f_Lkind,d_Lkind:=d_Lkind,f_Ldo:=f_Ldo,d_Ldo:=d_Ldo,f_Lsame:=f_Lsame,d_Lsame:=d_Lsame,f_Lclothkind:=f_Lclothkind,d_Lclothkind:=d_Lclothkind,f_Ltold:=f_Ltold,d_Ltold:=d_Ltold,f_Lbookfits:=f_Lbookfits,d_Lbookfits:=d_Lbookfits,f_Lbad:=f_Lbad,d_Lbad:=d_Lbad,f_law:=f_law,d_law:=d_law,a_SewError:=C_SewError,a_Unfit:=C_Unfit,a_BadSize:=C_BadSize,a_BadBit:=C_BadBit,a_NoCell:=C_NoCell,a_NoLine:=C_NoLine,a_BadName:=C_BadName,a_Taken:=C_Taken,a_NoCloth:=C_NoCloth,a_NothingLeft:=C_NothingLeft,tk_LONGEST_SIDE:=tk_LONGEST_SIDE,tk_LONGEST_NAME:=tk_LONGEST_NAME },⟨PySem.W.mg_of X G aC_Board,PySem.W.mg_of X G aC_Chest,⟨pg_Chest,hd_Chest,po_Chest,sa_Chest⟩,⟨mk_Chest,a_ChestInit,i_ChestInit,kc_Chest⟩,naC_cloths,naC_ahead_of_deeds,naC_behind_undone,PySem.W.mg_of X G aC_Cloth,⟨pg_Cloth,hd_Cloth,po_Cloth,sa_Cloth⟩,⟨mk_Cloth,a_ClothInit,i_ClothInit,kc_Cloth⟩,na_columns_count,na_rows_count,na_col_bits,na_row_bits,na_first_colour,F_UnfitInit,F_UnfitInit.b2 fun _ _ _ _ _ _ _ _=>rfl,⟨⟨ox_Unfit,os_Unfit,om_Unfit⟩,oi_Unfit,of_Unfit,ok_Unfit⟩,F_isnumber,F_isnumber.b1 fun _ _ _ _ _ _ _=>rfl,PySem.W.mg_of X G a_isnumber,F_isbelow,F_isbelow.b2 fun _ _ _ _ _ _ _ _=>rfl,PySem.W.mg_of X G a_isbelow,F_isbit,F_isbit.b1 fun _ _ _ _ _ _ _=>rfl,PySem.W.mg_of X G a_isbit,F_allbits,F_allbits.b1 fun _ _ _ _ _ _ _=>rfl,PySem.W.mg_of X G a_allbits,F_isside,F_isside.b1 fun _ _ _ _ _ _ _=>rfl,PySem.W.mg_of X G a_isside,F_needcell,F_needcell.b3 fun _ _ _ _ _ _ _ _ _=>rfl,PySem.W.mg_of X G a_needcell,F_BoardInit,F_BoardInit.b5 fun _ _ _ _ _ _ _ _ _ _ _=>rfl,⟨ga_Board,rd_Board,fc_BoardInit,F_BoardInit.kp⟩,F_ClothInit,F_ClothInit.b4 fun _ _ _ _ _ _ _ _ _ _=>rfl,F_Clothshade,F_Clothshade.b1 fun _ _ _ _ _ _ _=>rfl,⟨a_Clothshade,i_Clothshade,F_Clothshade.kp⟩,F_Clothwide,F_Clothwide.b1 fun _ _ _ _ _ _ _=>rfl,⟨a_Clothwide,i_Clothwide,F_Clothwide.kp⟩,F_Clothtall,F_Clothtall.b1 fun _ _ _ _ _ _ _=>rfl,⟨a_Clothtall,i_Clothtall,F_Clothtall.kp⟩,F_Clothcols,F_Clothcols.b1 fun _ _ _ _ _ _ _=>rfl,⟨a_Clothcols,i_Clothcols,F_Clothcols.kp⟩,F_Clothrows,F_Clothrows.b1 fun _ _ _ _ _ _ _=>rfl,⟨a_Clothrows,i_Clothrows,F_Clothrows.kp⟩,F_Clothbitsalong,F_Clothbitsalong.b2 fun _ _ _ _ _ _ _ _=>rfl,⟨a_Clothbitsalong,i_Clothbitsalong,F_Clothbitsalong.kp⟩,F_Clothbit,F_Clothbit.b3 fun _ _ _ _ _ _ _ _ _=>rfl,⟨a_Clothbit,i_Clothbit,F_Clothbit.kp⟩,F_Clothcolour,F_Clothcolour.b3 fun _ _ _ _ _ _ _ _ _=>rfl,⟨a_Clothcolour,i_Clothcolour,F_Clothcolour.kp⟩,F_shifted,F_shifted.b2 fun _ _ _ _ _ _ _ _=>rfl,PySem.W.mg_of X G a_shifted,F_transposed,F_transposed.b1 fun _ _ _ _ _ _ _=>rfl,PySem.W.mg_of X G a_transposed,F_withbits,F_withbits.b3 fun _ _ _ _ _ _ _ _ _=>rfl,PySem.W.mg_of X G a_withbits,F_turned,F_turned.b3 fun _ _ _ _ _ _ _ _ _=>rfl,PySem.W.mg_of X G a_turned,F_put,F_put.b4 fun _ _ _ _ _ _ _ _ _ _=>rfl,PySem.W.mg_of X G a_putsew,PySem.W.mg_of X G a_put,F_cut,F_cut.b3 fun _ _ _ _ _ _ _ _ _=>rfl,PySem.W.mg_of X G a_cutsew,PySem.W.mg_of X G a_cut,F_partedup,F_partedup.b2 fun _ _ _ _ _ _ _ _=>rfl,PySem.W.mg_of X G a_partedup,F_parted,F_parted.b3 fun _ _ _ _ _ _ _ _ _=>rfl,PySem.W.mg_of X G a_parted,F_sewnbeside,F_sewnbeside.b2 fun _ _ _ _ _ _ _ _=>rfl,PySem.W.mg_of X G a_sewnbeside,F_sewntogether,F_sewntogether.b3 fun _ _ _ _ _ _ _ _ _=>rfl,PySem.W.mg_of X G a_sewntogether,F_isname,F_isname.b1 fun _ _ _ _ _ _ _=>rfl,PySem.W.mg_of X G a_isname,F_ChestInit,F_ChestInit.b1 fun _ _ _ _ _ _ _=>rfl,F_Chestnames,F_Chestnames.b1 fun _ _ _ _ _ _ _=>rfl,⟨a_Chestnames,i_Chestnames,F_Chestnames.kp⟩,F_Chestcloth,F_Chestcloth.b2 fun _ _ _ _ _ _ _ _=>rfl,⟨a_Chestcloth,i_Chestcloth,F_Chestcloth.kp⟩,F_Chestneedfree,F_Chestneedfree.b2 fun _ _ _ _ _ _ _ _=>rfl,⟨a_Chestneedfree,i_Chestneedfree,F_Chestneedfree.kp⟩,F_Chestbecome,F_Chestbecome.b2 fun _ _ _ _ _ _ _ _=>rfl,⟨a_Chestbecome,i_Chestbecome,F_Chestbecome.kp⟩,F_Chestbecomewith,F_Chestbecomewith.b3 fun _ _ _ _ _ _ _ _ _=>rfl,⟨a_Chestbecomewith,i_Chestbecomewith,F_Chestbecomewith.kp⟩,F_Chestlay,F_Chestlay.b3 fun _ _ _ _ _ _ _ _ _=>rfl,⟨a_Chestlay,i_Chestlay,F_Chestlay.kp⟩,F_Chestdrop,F_Chestdrop.b2 fun _ _ _ _ _ _ _ _=>rfl,⟨a_Chestdrop,i_Chestdrop,F_Chestdrop.kp⟩,F_Chestturn,F_Chestturn.b4 fun _ _ _ _ _ _ _ _ _ _=>rfl,⟨a_Chestturn,i_Chestturn,F_Chestturn.kp⟩,F_Chestput,F_Chestput.b5 fun _ _ _ _ _ _ _ _ _ _ _=>rfl,⟨a_Chestput,i_Chestput,F_Chestput.kp⟩,F_Chestcut,F_Chestcut.b4 fun _ _ _ _ _ _ _ _ _ _=>rfl,⟨a_Chestcut,i_Chestcut,F_Chestcut.kp⟩,F_Chestsew,F_Chestsew.b5 fun _ _ _ _ _ _ _ _ _ _ _=>rfl,⟨a_Chestsew,i_Chestsew,F_Chestsew.kp⟩,F_Chestpart,F_Chestpart.b5 fun _ _ _ _ _ _ _ _ _ _ _=>rfl,⟨a_Chestpart,i_Chestpart,F_Chestpart.kp⟩,F_Chestundo,F_Chestundo.b1 fun _ _ _ _ _ _ _=>rfl,⟨a_Chestundo,i_Chestundo,F_Chestundo.kp⟩,F_Chestredo,F_Chestredo.b1 fun _ _ _ _ _ _ _=>rfl,⟨a_Chestredo,i_Chestredo,F_Chestredo.kp⟩,F_Chestundoable,F_Chestundoable.b1 fun _ _ _ _ _ _ _=>rfl,⟨a_Chestundoable,i_Chestundoable,F_Chestundoable.kp⟩,F_Chestredoable,F_Chestredoable.b1 fun _ _ _ _ _ _ _=>rfl,⟨a_Chestredoable,i_Chestredoable,F_Chestredoable.kp⟩,F_Ldraws,F_Ldraws.b2 fun _ _ _ _ _ _ _ _=>rfl,PySem.W.mg_of X G a_Ldraws,F_Lnames,F_Lnames.b2 fun _ _ _ _ _ _ _ _=>rfl,PySem.W.mg_of X G a_Lnames,F_Lbits,F_Lbits.b2 fun _ _ _ _ _ _ _ _=>rfl,PySem.W.mg_of X G a_Lbits,F_Lrow,F_Lrow.b2 fun _ _ _ _ _ _ _ _=>rfl,PySem.W.mg_of X G a_Lrow,F_Lkind,F_Lkind.b1 fun _ _ _ _ _ _ _=>rfl,PySem.W.mg_of X G a_Lkind,F_Ldo,F_Ldo.b2 fun _ _ _ _ _ _ _ _=>rfl,PySem.W.mg_of X G a_Ldo,F_Lsame,F_Lsame.b2 fun _ _ _ _ _ _ _ _=>rfl,PySem.W.mg_of X G a_Lsame,F_Lclothkind,F_Lclothkind.b2 fun _ _ _ _ _ _ _ _=>rfl,PySem.W.mg_of X G a_Lclothkind,F_Ltold,F_Ltold.b1 fun _ _ _ _ _ _ _=>rfl,PySem.W.mg_of X G a_Ltold,F_Lbookfits,F_Lbookfits.b2 fun _ _ _ _ _ _ _ _=>rfl,PySem.W.mg_of X G a_Lbookfits,F_Lbad,F_Lbad.b4 fun _ _ _ _ _ _ _ _ _ _=>rfl,PySem.W.mg_of X G a_Lbad,F_law,F_law.b1 fun _ _ _ _ _ _ _=>rfl,PySem.W.mg_of X G a_law,PySem.W.mg_of X G aX_SewError,PySem.W.mg_of X G aX_Unfit,PySem.W.mg_of X G aX_BadSize,PySem.W.mg_of X G aX_BadBit,PySem.W.mg_of X G aX_NoCell,PySem.W.mg_of X G aX_NoLine,PySem.W.mg_of X G aX_BadName,PySem.W.mg_of X G aX_Taken,PySem.W.mg_of X G aX_NoCloth,PySem.W.mg_of X G aX_NothingLeft,x_BadSize,⟨ga_BadSize,gt_BadSize,gc_BadSize,ogs,otk,go_BadSize,gb_BadSize⟩,exm_of bb bm bt sb_BadSize,exm_no nb nm nt sn_BadSize,kt_BadSize_BadName,kt_BadSize_Taken,kt_BadSize_NoCloth,kt_BadSize_NoLine,kt_BadSize_BadBit,kt_BadSize_BadSize,kt_BadSize_NothingLeft,kt_BadSize_Unfit,kv_BadSize,x_BadBit,⟨ga_BadBit,gt_BadBit,gc_BadBit,ogs,otk,go_BadBit,gb_BadBit⟩,exm_of bb bm bt sb_BadBit,exm_no nb nm nt sn_BadBit,kt_BadBit_BadName,kt_BadBit_Taken,kt_BadBit_NoCloth,kt_BadBit_NoLine,kt_BadBit_BadBit,kt_BadBit_BadSize,kt_BadBit_NothingLeft,kt_BadBit_Unfit,kv_BadBit,x_NoCell,⟨ga_NoCell,gt_NoCell,gc_NoCell,ogs,otk,go_NoCell,gb_NoCell⟩,exm_of bb bm bt sb_NoCell,x_NoLine,⟨ga_NoLine,gt_NoLine,gc_NoLine,ogs,otk,go_NoLine,gb_NoLine⟩,exm_of bb bm bt sb_NoLine,exm_no nb nm nt sn_NoLine,kt_NoLine_BadName,kt_NoLine_Taken,kt_NoLine_NoCloth,kt_NoLine_NoLine,kt_NoLine_BadBit,kt_NoLine_BadSize,kt_NoLine_NothingLeft,kt_NoLine_Unfit,kv_NoLine,x_BadName,⟨ga_BadName,gt_BadName,gc_BadName,ogs,otk,go_BadName,gb_BadName⟩,exm_of bb bm bt sb_BadName,exm_no nb nm nt sn_BadName,kt_BadName_BadName,kt_BadName_Taken,kt_BadName_NoCloth,kt_BadName_NoLine,kt_BadName_BadBit,kt_BadName_BadSize,kt_BadName_NothingLeft,kt_BadName_Unfit,kv_BadName,x_Taken,⟨ga_Taken,gt_Taken,gc_Taken,ogs,otk,go_Taken,gb_Taken⟩,exm_of bb bm bt sb_Taken,exm_no nb nm nt sn_Taken,kt_Taken_BadName,kt_Taken_Taken,kt_Taken_NoCloth,kt_Taken_NoLine,kt_Taken_BadBit,kt_Taken_BadSize,kt_Taken_NothingLeft,kt_Taken_Unfit,kv_Taken,x_NoCloth,⟨ga_NoCloth,gt_NoCloth,gc_NoCloth,ogs,otk,go_NoCloth,gb_NoCloth⟩,exm_of bb bm bt sb_NoCloth,exm_no nb nm nt sn_NoCloth,kt_NoCloth_BadName,kt_NoCloth_Taken,kt_NoCloth_NoCloth,kt_NoCloth_NoLine,kt_NoCloth_BadBit,kt_NoCloth_BadSize,kt_NoCloth_NothingLeft,kt_NoCloth_Unfit,kv_NoCloth,x_NothingLeft,⟨ga_NothingLeft,gt_NothingLeft,gc_NothingLeft,ogs,otk,go_NothingLeft,gb_NothingLeft⟩,exm_of bb bm bt sb_NothingLeft,exm_no nb nm nt sn_NothingLeft,kt_NothingLeft_BadName,kt_NothingLeft_Taken,kt_NothingLeft_NoCloth,kt_NothingLeft_NoLine,kt_NothingLeft_BadBit,kt_NothingLeft_BadSize,kt_NothingLeft_NothingLeft,kt_NothingLeft_Unfit,kv_NothingLeft,⟨bg,br,ba⟩,nx_Unfit_at,⟨ga_Unfit,gt_Unfit,gc_Unfit,ogs,otk,go_Unfit,gb_Unfit⟩,exm_of bb bm bt sb_Unfit,exm_of nb nm nt sc_Unfit,kt_Unfit_BadName,kt_Unfit_Taken,kt_Unfit_NoCloth,kt_Unfit_NoLine,kt_Unfit_BadBit,kt_Unfit_BadSize,kt_Unfit_NothingLeft,kt_Unfit_Unfit,PySem.W.mg_of X G v_LONGEST_SIDE,PySem.W.mg_of X G v_LONGEST_NAME,PySem.W.mg_none_of X G z_isinstance,PySem.W.mg_none_of X G z_int,PySem.W.mg_none_of X G z_bool,PySem.W.mg_none_of X G z_all,PySem.W.mg_none_of X G z_len,PySem.W.mg_none_of X G z_tuple,PySem.W.mg_none_of X G z_list,PySem.W.mg_none_of X G z_range,PySem.W.mg_none_of X G z_abs,PySem.W.mg_none_of X G z_sum,PySem.W.mg_none_of X G z_min,PySem.W.mg_none_of X G z_str,PySem.W.mg_none_of X G z_zip,PySem.W.mg_none_of X G z_enumerate,PySem.W.mg_none_of X G z_ValueError,PySem.W.mg_none_of X G z_dict⟩⟩
local macro_rules | `(tactic| walk_at "rd1") => `(tactic| first
 | ((with_reducible refine' rd_var (v:=?kv) ?ke ?kh); (case ke=>exact rfl))
 | (with_reducible refine rd_seqA fun _ _=>?_) | (with_reducible refine rd_asg ?_) | (with_reducible refine rd_name ?_) | (with_reducible refine rd_ret ?_) | (with_reducible refine rd_retN ?_) | (with_reducible refine rd_drop ?_)
 | (with_reducible refine rd_ifS ?_) | (with_reducible refine rd_tB ?_) | (with_reducible refine rd_tTest ?_) | (with_reducible refine rd_exbl ?_) | (with_reducible refine rd_c ?_) | (with_reducible refine rd_op ?_) | (with_reducible refine rd_un ?_)
 | (with_reducible refine rd_andV ?_) | (with_reducible refine rd_orV ?_) | (with_reducible refine rd_notV ?_) | (with_reducible refine rd_and ?_) | (with_reducible refine rd_or ?_) | (with_reducible refine rd_not ?_) | (with_reducible refine rd_true ?_)
 | (with_reducible refine rd_I0 ?_) | (with_reducible refine rd_U ?_) | (with_reducible refine rd_eqI ?_) | (with_reducible refine rd_neI ?_) | (with_reducible refine rd_eqS ?_) | (with_reducible refine rd_eqB ?_) | (with_reducible refine rd_neB ?_)
 | (with_reducible refine rd_chain ?_) | (with_reducible refine rd_call ?_) | (with_reducible refine rd_nil ?_) | (with_reducible refine rd_cons ?_) | (with_reducible refine rd_CB ?_) | (with_reducible refine rd_tup ?_) | (with_reducible refine rd_lst ?_)
 | (with_reducible refine rd_next ?_) | (with_reducible refine rd_try2 ?_) | (with_reducible refine rd_thawE ?_) | (with_reducible refine rd_thawS ?_) | (with_reducible refine rd_itext ?_) | (with_reducible refine rd_ikeys ?_) | (with_reducible refine rd_leS ?_) | (with_reducible refine rd_ivals ?_) | (with_reducible refine rd_iitems ?_) | ((with_reducible refine' rd_aug (x:=?kv) ?ke ?kh); (case ke=>exact rfl)) | (with_reducible refine rd_ipI ?_) | (with_reducible refine rd_gcons ?_) | (with_reducible refine rd_gnil ?_) | (with_reducible refine rd_gsub ?_) | (with_reducible refine rd_sfld ?_) | (with_reducible refine rd_while ?_) | (with_reducible refine rd_comp ?_) | (with_reducible refine rd_fld ?_) | (with_reducible refine rd_meth ?_) | (with_reducible refine rd_make ?_) | (with_reducible refine rd_raise ?_) | (with_reducible refine rd_try ?_) | (with_reducible refine rd_callS ?_) | (with_reducible refine rd_methS ?_) | (with_reducible refine rd_makeS ?_) | (with_reducible refine rd_bm ?_) | (with_reducible refine rd_bm0 ?_) | (with_reducible refine rd_sl ?_) | (with_reducible refine rd_nopart ?_) | (with_reducible refine rd_part ?_) | (with_reducible refine rd_exint ?_) | (with_reducible refine rd_exref ?_)
 | (with_reducible refine rd_if ?_) | (with_reducible refine rd_augS ?_) | (with_reducible refine rd_dput ?_) | (with_reducible refine rd_din ?_) | (with_reducible refine rd_dnotin ?_) | (with_reducible refine rd_dnewT ?_) | (with_reducible refine rd_dnewK ?_) | (with_reducible refine rd_par ?_) | (with_reducible refine rd_dget ?_) | (with_reducible refine rd_disp1 ?_) | (with_reducible refine rd_dget1 ?_) | (with_reducible refine rd_dget2 ?_) | (with_reducible refine rd_dpop1 ?_) | (with_reducible refine rd_rng3 ?_) | (with_reducible refine rd_ienum ?_) | (with_reducible refine rd_abs ?_) | (with_reducible refine rd_min2 ?_) | (with_reducible refine rd_max2 ?_) | (with_reducible refine rd_intB ?_) | (with_reducible refine rd_for ?_) | (with_reducible refine rd_rng1 ?_) | (with_reducible refine rd_ilist ?_) | (with_reducible refine rd_itup ?_) | (with_reducible refine rd_izipS ?_) | (with_reducible refine iteT ?_) | (with_reducible refine iteF ?_) | (with_reducible refine if_true_do ?_) | (with_reducible refine iteNN ?_) | (with_reducible refine iteTA ?_) | (with_reducible refine iteFA ?_) | ((with_reducible refine' rd_cut (r:=?kr) ?ke ?kh); (case ke=>assumption)) | (dsimp only))
local macro_rules | `(tactic| walk_at "rd") => `(tactic| repeat walk_at "rd1")
section
variable {P:Program} {w:World} {K:PySem.W.Frag} {mg:Str→Option Value} {base:Heap} {t:Ad}
def isBit (i:Int):Bool:=decide (0≤i)&&decide (i<2)
def sp_isnumber:Sp:=fun vs H Q _=>∃ i,vs=[.int i]∧Q (.bl true) H
theorem ok_isnumber (T:Txt K mg t):FnOk P w K mg base CX0 1 t.f_isnumber t.d_isnumber ["value"] sp_isnumber:=by
 refine T.F_isnumber.ok sc_isnumber (fun vs H Q E h=>?_) (fun cdv A outer s H vs Q E hr h=>?_)
 ·obtain ⟨i,rfl,_⟩:=h; rfl
 ·obtain ⟨i,rfl,k⟩:=h
  refine ⟨_,(pss_one (ps_ret (pe_and (pe_callB (cI_isinstK K rfl) rfl T.no_isinstance (by rfl) (pa_cons (pv 0) (pa_cons (pe_bltn (v:=.ty "int") rfl T.no_int (by rfl:bootBuiltins "int"=some (.type "int")) rfl) pa_nil))) (pe_one (pe_not (pe_callB (cI_isinstK K rfl) rfl T.no_isinstance (by rfl) (pa_cons (pv 0) (pa_cons (pe_bltn (v:=.ty "bool") rfl T.no_bool (by rfl:bootBuiltins "bool"=some (.type "bool")) rfl) pa_nil)))))))),?_⟩
  walk_at "rd"
  refine rd_isi (.int i) kit_ii ?_
  walk_at "rd"
  refine rd_isi (.int i) kit_ib ?_
  walk_at "rd"
  exact k
def sp_isbelow:Sp:=fun vs H Q _=>∃ i b,vs=[.int i,.int b]∧Q (.bl (decide (0≤i)&&decide (i<b))) H
theorem ok_isbelow (T:Txt K mg t):FnOk P w K mg base CX0 2 t.f_isbelow t.d_isbelow ["value","bound"] sp_isbelow:=by
 have G_isnumber:=ok_isnumber (P:=P) (w:=w) (base:=base) T
 refine T.F_isbelow.ok sc_isbelow (fun vs H Q E h=>?_) (fun cdv A outer s H vs Q E hr h=>?_)
 ·obtain ⟨i,b,rfl,_⟩:=h; rfl
 ·obtain ⟨i,b,rfl,k⟩:=h
  refine ⟨_,(pss_one (ps_ret (pe_and (pe_call G_isnumber (hr.mono (by first | decide | omega)) rfl T.mg_isnumber T.F_isnumber.kp T.b_isnumber .nil pass0 (pa_cons (pv 0) pa_nil)) (pe_one (pe_chain op_le op_lt pe_int (pv 0) (pv 1)))))),?_⟩
  walk_at "rd"
  refine ⟨i,rfl,?_⟩
  walk_at "rd"
  refine ite2 (fun h0=>?_) (fun h0=>?_)
  ·walk_at "rd"
   rw [h0] at k
   exact k
  ·rw [Bool.not_eq_true] at h0
   rw [h0] at k
   exact k
def sp_isbit:Sp:=fun vs H Q _=>∃ i,vs=[.int i]∧Q (.bl (isBit i)) H
theorem ok_isbit (T:Txt K mg t):FnOk P w K mg base CX0 3 t.f_isbit t.d_isbit ["value"] sp_isbit:=by
 have G_isbelow:=ok_isbelow (P:=P) (w:=w) (base:=base) T
 refine T.F_isbit.ok sc_isbit (fun vs H Q E h=>?_) (fun cdv A outer s H vs Q E hr h=>?_)
 ·obtain ⟨i,rfl,_⟩:=h; rfl
 ·obtain ⟨i,rfl,k⟩:=h
  refine ⟨_,(pss_one (ps_ret (pe_call G_isbelow (hr.mono (by first | decide | omega)) rfl T.mg_isbelow T.F_isbelow.kp T.b_isbelow .nil pass0 (pa_cons (pv 0) (pa_cons pe_int pa_nil))))),?_⟩
  walk_at "rd"
  exact ⟨i,2,rfl,k⟩
def isSide (n:Int):Bool:=decide (0<n)&&decide (n<41)
def sp_isside:Sp:=fun vs H Q _=>∃ i,vs=[.int i]∧Q (.bl (isSide i)) H
theorem ok_isside (T:Txt K mg t):FnOk P w K mg base CX0 3 t.f_isside t.d_isside ["count"] sp_isside:=by
  have G_isbelow:=ok_isbelow (P:=P) (w:=w) (base:=base) T
  refine T.F_isside.ok sc_isside (fun vs H Q E h=>?_) (fun cdv A outer s H vs Q E hr h=>?_)
  · obtain ⟨i,rfl,_⟩:=h; rfl
  · obtain ⟨i,rfl,k⟩:=h
    refine ⟨_,(pss_one (ps_ret (pe_and (pe_call G_isbelow (hr.mono (by first | decide | omega)) rfl T.mg_isbelow T.F_isbelow.kp T.b_isbelow .nil pass0 (pa_cons (pv 0) (pa_cons (pe_op op_add (pe_glob (v:=.int 40) rfl T.mg_LONGEST_SIDE ⟨_,rfl⟩) pe_int) pa_nil))) (pe_one (pe_cmpR op_gt (pv 0) pe_int (nomark _)))))),?_⟩
    walk_at "rd"
    refine ⟨i,_,rfl,?_⟩
    walk_at "rd"
    refine ite2 (fun h0=>?_) (fun h0=>?_)
    · walk_at "rd"
      have e:isSide i=decide (0<i):=by
        rw [Bool.and_eq_true,decide_eq_true_eq,decide_eq_true_eq] at h0
        unfold isSide
        rw [decide_eq_true (by omega:i<41),Bool.and_true]
      rw [e] at k
      exact k
    · have e:isSide i=false:=by
        rw [Bool.and_eq_true,decide_eq_true_eq,decide_eq_true_eq] at h0
        unfold isSide
        by_cases hi:0<i
        · rw [decide_eq_false (by omega:¬ i<41),Bool.and_false]
        · rw [decide_eq_false hi,Bool.false_and]
      rw [e] at k
      exact k
theorem side_len {n:Nat}:isSide ((n:Int)+1)=decide (n≤39):=by
 unfold isSide
 rw [decide_eq_true (by omega:(0:Int)<(n:Int)+1),Bool.true_and]
 exact decide_eq_decide.mpr (by omega)
end
section
variable {P:Program} {w:World} {K:PySem.W.Frag} {mg:Str→Option Value} {base:Heap} {t:Ad}
def sp_allbits:Sp:=fun vs H Q _=>∃ (p:Addr) (ns:List Int),vs=[.ref p]∧H p=some (.lst (ns.map V.int))∧ns.length≤1000∧∀ H',Same H H'→Q (.bl (ns.all isBit)) H'
theorem ok_allbits (T:Txt K mg t):FnOk P w K mg base CX0 4 t.f_allbits t.d_allbits ["values"] sp_allbits:=by
 have G_isbit:=ok_isbit (P:=P) (w:=w) (base:=base) T
 refine T.F_allbits.ok sc_allbits (fun vs H Q E h=>?_) (fun cdv A outer s H vs Q E hr h=>?_)
 ·obtain ⟨p,ns,rfl,_⟩:=h; rfl
 ·obtain ⟨p,ns,rfl,hp,hl,k⟩:=h
  refine ⟨_,(pss_one (ps_ret (pe_callB (cI_allK K rfl rfl) rfl T.no_all (by rfl) (pa_cons (pe_comp (N:=["value"]) (cap:=[none]) rfl ⟨rfl,rfl,rfl,rfl,rfl,rfl⟩ (pi_list (pv 0)) (fun _ _ _=>(pg_name (i:=0) (show (["value"]:List Str).Nodup by decide +kernel) rfl (Or.inl rfl))) (fun _ _ _=>pts_nil) (fun _ _ _=>(pe_call G_isbit (hr.mono (by first | decide | omega)) rfl T.mg_isbit T.F_isbit.kp T.b_isbit .nil pass0 (pa_cons (pv 0) pa_nil)))) pa_nil)))),?_⟩
  walk_at "rd"
  refine ⟨⟨_,SqL.of hp⟩,fun l hn=>?_⟩
  refine compW_list (fun v=>match v with | .int i=>.bl (isBit i) | _=>.non) (SqL.of hp) (by rw [List.length_map]; exact hl) hn (fun x o H' Q' hx s1 q=>?_) (fun H' s1 e=>?_)
  ·obtain ⟨i,_,rfl⟩:=List.mem_map.mp hx
   walk_at "rd"
   exact ⟨i,rfl,q H' (Same.refl _)⟩
  ·walk_at "rd"
   have e':H' l=some (.lst ((ns.map isBit).map V.bl)):=by rw [e,List.map_map,List.map_map]; rfl
   refine rd_all e' ?_
   rw [List.all_map]
   exact k H' s1
def bfl (a b:Addr) (w h:Int):List (Str×V):=putF "row_bits" (.ref b) (putF "col_bits" (.ref a) (putF "rows_count" (.int h) (putF "columns_count" (.int w) [])))
def cfl (s:Int) (a b:Addr) (w h:Int):List (Str×V):=putF "first_colour" (.int s) (bfl a b w h)
abbrev NoF (m:Str):Prop:=((¬ m="first_colour")∧¬ m="col_bits")∧(¬ m="row_bits")∧(¬ m="columns_count")∧¬ m="rows_count"
theorem bfl_w {w h:Int} (a b:Addr):(bfl a b w h).lookup ("columns_count":Str)=some (.int w):=by
 unfold bfl; rw [lookup_putF,if_neg (by decide +kernel),lookup_putF,if_neg (by decide +kernel),lookup_putF,if_neg (by decide +kernel),lookup_putF,if_pos rfl]
theorem bfl_h {w h:Int} (a b:Addr):(bfl a b w h).lookup ("rows_count":Str)=some (.int h):=by
 unfold bfl; rw [lookup_putF,if_neg (by decide +kernel),lookup_putF,if_neg (by decide +kernel),lookup_putF,if_pos rfl]
theorem bfl_c {w h:Int} (a b:Addr):(bfl a b w h).lookup ("col_bits":Str)=some (.ref a):=by
 unfold bfl; rw [lookup_putF,if_neg (by decide +kernel),lookup_putF,if_pos rfl]
theorem bfl_r {w h:Int} (a b:Addr):(bfl a b w h).lookup ("row_bits":Str)=some (.ref b):=by
 unfold bfl; rw [lookup_putF,if_pos rfl]
theorem bfl_no {w h:Int} (a b:Addr) {m:Str} (n:NoF m):(bfl a b w h).lookup m=none:=by
 obtain ⟨⟨n1,n2⟩,n3,n4,n5⟩:=n
 unfold bfl; rw [lookup_putF,if_neg n3,lookup_putF,if_neg n2,lookup_putF,if_neg n5,lookup_putF,if_neg n4]; rfl
theorem cfl_f {w h:Int} (s:Int) (a b:Addr):(cfl s a b w h).lookup ("first_colour":Str)=some (.int s):=by
 unfold cfl; rw [lookup_putF,if_pos rfl]
theorem cfl_w {w h:Int} (s:Int) (a b:Addr):(cfl s a b w h).lookup ("columns_count":Str)=some (.int w):=by
 unfold cfl; rw [lookup_putF,if_neg (by decide +kernel),bfl_w]
theorem cfl_h {w h:Int} (s:Int) (a b:Addr):(cfl s a b w h).lookup ("rows_count":Str)=some (.int h):=by
 unfold cfl; rw [lookup_putF,if_neg (by decide +kernel),bfl_h]
theorem cfl_c {w h:Int} (s:Int) (a b:Addr):(cfl s a b w h).lookup ("col_bits":Str)=some (.ref a):=by
 unfold cfl; rw [lookup_putF,if_neg (by decide +kernel),bfl_c]
theorem cfl_r {w h:Int} (s:Int) (a b:Addr):(cfl s a b w h).lookup ("row_bits":Str)=some (.ref b):=by
 unfold cfl; rw [lookup_putF,if_neg (by decide +kernel),bfl_r]
theorem cfl_no {w h:Int} (s:Int) (a b:Addr) {m:Str} (n:NoF m):(cfl s a b w h).lookup m=none:=by
 unfold cfl; rw [lookup_putF,if_neg n.1.1,bfl_no _ _ n]
structure BoardAt (C:Addr) (H:Hp) (p:Addr) (w h:Int) (cs rs:List Int):Prop where
 ob:∃ dx a b,H p=some (.ins C dx (bfl a b w h))∧H a=some (.tup (cs.map V.int))∧H b=some (.tup (rs.map V.int))
structure ClothAt (C:Addr) (H:Hp) (p:Addr) (s:Int) (cs rs:List Int):Prop where
 ob:∃ dx a b,H p=some (.ins C dx (cfl s a b ((cs.length:Int)+1) ((rs.length:Int)+1)))∧H a=some (.tup (cs.map V.int))∧H b=some (.tup (rs.map V.int))
theorem ClothAt.mono {C:Addr} {H H':Hp} {p:Addr} {s:Int} {cs rs:List Int} (e:Same H H') (c:ClothAt C H p s cs rs):ClothAt C H' p s cs rs:=by
 obtain ⟨dx,a,b,h1,h2,h3⟩:=c.ob
 exact ⟨dx,a,b,e _ _ h1,e _ _ h2,e _ _ h3⟩
def Bits (l:List Int):Prop:=l.length≤39∧∀ z∈l,z=0∨z=1
theorem Bits.all {l:List Int} (h:Bits l):l.all isBit=true:=by
 rw [List.all_eq_true]
 intro z hz
 rcases h.2 z hz with rfl | rfl<;>rfl
def KpBut (H:Hp) (p:Addr) (H':Hp):Prop:=∀ b o,H b=some o→b≠p→H' b=some o
def bitsOk (s:Int) (cs rs:List Int):Bool:=isBit s&&(cs.all isBit&&rs.all isBit)
theorem Bits.ok {s:Int} {cs rs:List Int} (hs:s=0∨s=1) (bc:Bits cs) (br:Bits rs):bitsOk s cs rs=true:=by
 unfold bitsOk
 rw [bc.all,br.all]
 rcases hs with rfl | rfl<;>rfl
def spx_BoardInit (C BB:Addr):Sp:=fun vs H Q E=>∃ (p dx c r:Addr) (w h:Int) (cs rs:List Int),vs=[.ref p,.int w,.int h,.ref c,.ref r]∧H p=some (.ins C dx [])∧H c=some (.lst (cs.map V.int))∧H r=some (.lst (rs.map V.int)) ∧
 cs.length≤1000∧rs.length≤1000∧(((cs.all isBit&&rs.all isBit)=false∧∀ H',Same H H'→E (.ref BB) none H') ∨
  ((cs.all isBit&&rs.all isBit)=true∧∀ H',KpBut H p H'→BoardAt C H' p w h cs rs→Q .non H'))
theorem okx_BoardInit (T:Txt K mg t):FnOk P w K mg base (CX1 P w) 5 t.f_BoardInit t.d_BoardInit ["self","wide","tall","cols","rows"] (spx_BoardInit t.a_Cloth t.a_BadBit):=by
 have G_allbits:=ok_allbits (P:=P) (w:=w) (base:=base) T
 refine T.F_BoardInit.ok1 sc_BoardInit (fun vs H Q E h=>?_) (fun cdv A outer s H vs Q E hr h=>?_)
 ·obtain ⟨p,dx,c,r,wd,ht,cs,rs,rfl,_⟩:=h; rfl
 ·obtain ⟨p,dx,c,r,wd,ht,cs,rs,rfl,hp,hc,hr',lc,lr,k⟩:=h
  refine cutC (ps_if (pt_not (PW.pt (pw_and (pt_val (pe_call G_allbits.up (hr.mono (by first | decide | omega)) rfl T.mg_allbits T.F_allbits.kp T.b_allbits .nil pass1 (pa_cons (pv 3) pa_nil))) (pw_and1 (pt_val (pe_call G_allbits.up (hr.mono (by first | decide | omega)) rfl T.mg_allbits T.F_allbits.kp T.b_allbits .nil pass1 (pa_cons (pv 4) pa_nil))))))) (pss_one (ps_raiseK T.mg_BadBit T.x_BadBit PySem.F.excBase_ValueError rfl rfl (fun _ _ _ _ _ _ _ _ I m q=>xe_new I m q) (pa_cons pe_str pa_nil))) pss_nil) fun _ _=>cutC (ps_fld (pv 0) (pv 1) rfl) fun _ _=>cutC (ps_fld (pv 0) (pv 2) rfl) fun _ _=>cutC (ps_fld (pv 0) (pe_callTy (cI_tupleK K rfl) rfl T.no_tuple (by rfl) (pa_cons (pv 3) pa_nil)) rfl) fun _ _=>cutE (ps_fld (pv 0) (pe_callTy (cI_tupleK K rfl) rfl T.no_tuple (by rfl) (pa_cons (pv 4) pa_nil)) rfl) fun _ _=>?_
  walk_at "rd"
  refine ⟨c,cs,rfl,hc,lc,fun H1 s1=>?_⟩
  cases b2:cs.all isBit with
  | false =>
   walk_at "rd"
   refine ⟨by show 1≤sizeLine; decide,?_⟩
   rcases k with ⟨_,e⟩ | ⟨y,_⟩
   ·exact e _ s1
   ·rw [b2] at y; cases y
  | true =>
   walk_at "rd"
   refine ⟨r,rs,rfl,s1 _ _ hr',lr,fun H2 s2=>?_⟩
   have s12:=s1.trans s2
   cases b3:rs.all isBit with
   | false =>
    walk_at "rd"
    refine ⟨by show 1≤sizeLine; decide,?_⟩
    rcases k with ⟨_,e⟩ | ⟨y,_⟩
    ·exact e _ s12
    ·rw [b2,b3] at y; cases y
   | true =>
    walk_at "rd"
    have k:∀ H',KpBut H p H'→BoardAt t.a_Cloth H' p wd ht cs rs→Q .non H':=by
     rcases k with ⟨y,_⟩ | ⟨_,z⟩
     ·rw [b2,b3] at y; cases y
     ·exact z
    have npc:c≠p:=ne_of hc hp (by intro z; cases z)
    have npr:r≠p:=ne_of hr' hp (by intro z; cases z)
    refine rd_sfldv (s12 _ _ hp) T.cl_Cloth T.na_columns_count (by show 0<1000; decide) ?_
    walk_at "rd"
    refine rd_sfldv upd_same T.cl_Cloth T.na_rows_count (Nat.lt_of_le_of_lt (length_putF _ _ _) (by show 1<1000; decide)) ?_
    rw [upd_upd]
    walk_at "rd"
    refine rd_tupleL (by rw [upd_ne npc]; exact s12 _ _ hc) fun a ha=>?_
    have pa:p≠a:=by intro z; subst z; rw [upd_same] at ha; cases ha
    walk_at "rd"
    refine rd_sfldv (by rw [upd_ne pa,upd_same]) T.cl_Cloth T.na_col_bits (Nat.lt_of_le_of_lt (length_putF _ _ _) (Nat.lt_of_le_of_lt (Nat.succ_le_succ (length_putF _ _ _)) (by show 2<1000; decide))) ?_
    walk_at "rd"
    have ra:r≠a:=by intro z; subst z; rw [upd_ne npr,s12 _ _ hr'] at ha; cases ha
    refine rd_tupleL (by rw [upd_ne npr,upd_ne ra,upd_ne npr]; exact s12 _ _ hr') fun b hb=>?_
    have pb:p≠b:=by intro z; subst z; rw [upd_same] at hb; cases hb
    have ab:a≠b:=by intro z; subst z; rw [upd_ne pa.symm,upd_same] at hb; cases hb
    walk_at "rd"
    refine rd_sfldv (by rw [upd_ne pb,upd_same]) T.cl_Cloth T.na_row_bits (Nat.lt_of_le_of_lt (length_putF _ _ _) (Nat.lt_of_le_of_lt (Nat.succ_le_succ (length_putF _ _ _)) (Nat.lt_of_le_of_lt (Nat.succ_le_succ (Nat.succ_le_succ (length_putF _ _ _))) (by show 3<1000; decide)))) ?_
    walk_at "rd"
    refine k _ (fun x o e hx=>?_) ⟨⟨dx,a,b,upd_same,?_,?_⟩⟩
    ·have e2:=s12 _ _ e
     have xa:x≠a:=by intro z; subst z; rw [upd_ne hx,e2] at ha; cases ha
     have xb:x≠b:=by intro z; subst z; rw [upd_ne hx,upd_ne xa,upd_ne hx,e2] at hb; cases hb
     rw [upd_ne hx,upd_ne xb,upd_ne hx,upd_ne xa,upd_ne hx]
     exact e2
    ·rw [upd_ne pa.symm,upd_ne ab,upd_ne pa.symm,upd_same]
    ·rw [upd_ne pb.symm,upd_same]
def spx_ClothInit (C BS BB:Addr):Sp:=fun vs H Q E=>∃ (p dx c r:Addr) (s:Int) (cs rs:List Int),vs=[.ref p,.int s,.ref c,.ref r]∧H p=some (.ins C dx [])∧H c=some (.lst (cs.map V.int))∧H r=some (.lst (rs.map V.int)) ∧
 cs.length≤1000∧rs.length≤1000∧((¬ (cs.length≤39∧rs.length≤39)∧E (.ref BS) none H)∨((cs.length≤39∧rs.length≤39)∧bitsOk s cs rs=false∧∀ H',KpBut H p H'→E (.ref BB) none H') ∨
  ((cs.length≤39∧rs.length≤39)∧bitsOk s cs rs=true∧∀ H',KpBut H p H'→ClothAt C H' p s cs rs→Q .non H'))
theorem okx_ClothInit (T:Txt K mg t):FnOk P w K mg base (CX1 P w) 6 t.f_ClothInit t.d_ClothInit ["self","shade","cols","rows"] (spx_ClothInit t.a_Cloth t.a_BadSize t.a_BadBit):=by
 have G_isbit:=ok_isbit (P:=P) (w:=w) (base:=base) T
 have GX_BoardInit:=okx_BoardInit (P:=P) (w:=w) (base:=base) T
 have G_isside:=ok_isside (P:=P) (w:=w) (base:=base) T
 refine T.F_ClothInit.ok1 sc_ClothInit (fun vs H Q E h=>?_) (fun cdv A outer s H vs Q E hr h=>?_)
 ·obtain ⟨p,dx,c,r,s,cs,rs,rfl,_⟩:=h; rfl
 ·obtain ⟨p,dx,c,r,s,cs,rs,rfl,hp,hc,hr',lc,lr,k⟩:=h
  refine cutC (ps_if (pt_not (PW.pt (pw_and (pt_val (pe_call G_isside.up (hr.mono (by first | decide | omega)) rfl T.mg_isside T.F_isside.kp T.b_isside .nil pass1 (pa_cons (pe_op op_add (pe_callB (cI_lenK K rfl) rfl T.no_len (by rfl) (pa_cons (pv 2) pa_nil)) pe_int) pa_nil))) (pw_and1 (pt_val (pe_call G_isside.up (hr.mono (by first | decide | omega)) rfl T.mg_isside T.F_isside.kp T.b_isside .nil pass1 (pa_cons (pe_op op_add (pe_callB (cI_lenK K rfl) rfl T.no_len (by rfl) (pa_cons (pv 3) pa_nil)) pe_int) pa_nil))))))) (pss_one (ps_raiseK T.mg_BadSize T.x_BadSize PySem.F.excBase_ValueError rfl rfl (fun _ _ _ _ _ _ _ _ I m q=>xe_new I m q) (pa_cons pe_str pa_nil))) pss_nil) fun _ _=>cutC (ps_if (pt_not (pt_val (pe_call G_isbit.up (hr.mono (by first | decide | omega)) rfl T.mg_isbit T.F_isbit.kp T.b_isbit .nil pass1 (pa_cons (pv 1) pa_nil)))) (pss_one (ps_raiseK T.mg_BadBit T.x_BadBit PySem.F.excBase_ValueError rfl rfl (fun _ _ _ _ _ _ _ _ I m q=>xe_new I m q) (pa_cons pe_str pa_nil))) pss_nil) fun _ _=>cutC (ps_expr (pe_callC rfl T.mg_Board T.cf_BoardInit GX_BoardInit (hr.mono (by first | decide | omega)) T.b_BoardInit .nil pass1 (pa_cons (pv 0) (pa_cons (pe_op op_add (pe_callB (cI_lenK K rfl) rfl T.no_len (by rfl) (pa_cons (pv 2) pa_nil)) pe_int) (pa_cons (pe_op op_add (pe_callB (cI_lenK K rfl) rfl T.no_len (by rfl) (pa_cons (pv 3) pa_nil)) pe_int) (pa_cons (pv 2) (pa_cons (pv 3) pa_nil))))))) fun _ _=>cutE (ps_fld (pv 0) (pv 1) rfl) fun _ _=>?_
  walk_at "rd"
  refine rd_lenL hc ?_
  walk_at "rd"
  refine ⟨_,rfl,?_⟩
  rw [List.length_map,side_len]
  have sz:(¬ (cs.length≤39∧rs.length≤39)→E (.ref t.a_BadSize) none H):=fun n=>by
   rcases k with ⟨_,e⟩ | ⟨z,_⟩ | ⟨z,_⟩
   ·exact e
   ·exact absurd z n
   ·exact absurd z n
  by_cases c1:cs.length≤39
  ·rw [decide_eq_true c1]
   walk_at "rd"
   refine rd_lenL hr' ?_
   walk_at "rd"
   refine ⟨_,rfl,?_⟩
   rw [List.length_map,side_len]
   by_cases c2:rs.length≤39
   ·rw [decide_eq_true c2]
    walk_at "rd"
    have k:(bitsOk s cs rs=false∧∀ H',KpBut H p H'→E (.ref t.a_BadBit) none H')∨(bitsOk s cs rs=true∧∀ H',KpBut H p H'→ClothAt t.a_Cloth H' p s cs rs→Q .non H'):=by
     rcases k with ⟨z,_⟩ | ⟨_,z⟩ | ⟨_,z⟩
     ·exact absurd ⟨c1,c2⟩ z
     ·exact .inl z
     ·exact .inr z
    have bad:∀ H',bitsOk s cs rs=false→Same H H'→E (.ref t.a_BadBit) none H':=fun H' z sm=>by
     rcases k with ⟨_,e⟩ | ⟨y,_⟩
     ·exact e H' fun b o eb _=>sm b o eb
     ·rw [z] at y; cases y
    refine ⟨s,rfl,?_⟩
    cases b1:isBit s with
    | false =>
     walk_at "rd"
     refine ⟨by show 1≤sizeLine; decide,?_⟩
     exact bad _ (by unfold bitsOk; rw [b1]; rfl) (Same.refl _)
    | true =>
     walk_at "rd"
     refine rd_lenL hc ?_
     walk_at "rd"
     refine rd_lenL hr' ?_
     walk_at "rd"
     rw [List.length_map,List.length_map]
     refine ⟨p,dx,c,r,_,_,cs,rs,rfl,hp,hc,hr',lc,lr,?_⟩
     cases b2:(cs.all isBit&&rs.all isBit) with
     | false=>exact .inl ⟨rfl,fun H' s1=>bad _ (by unfold bitsOk; rw [b2,Bool.and_false]) s1⟩
     | true =>
      refine .inr ⟨rfl,fun H' kp ⟨dx',a,b,h1,h2,h3⟩=>?_⟩
      have k:∀ H',KpBut H p H'→ClothAt t.a_Cloth H' p s cs rs→Q .non H':=by
       rcases k with ⟨y,_⟩ | ⟨_,z⟩
       ·unfold bitsOk at y; rw [b1,b2] at y; cases y
       ·exact z
      walk_at "rd"
      refine rd_sfldv h1 T.cl_Cloth T.na_first_colour (by unfold bfl; exact Nat.lt_of_le_of_lt (length_putF _ _ _) (Nat.lt_of_le_of_lt (Nat.succ_le_succ (length_putF _ _ _)) (Nat.lt_of_le_of_lt (Nat.succ_le_succ (Nat.succ_le_succ (length_putF _ _ _))) (Nat.lt_of_le_of_lt (Nat.succ_le_succ (Nat.succ_le_succ (Nat.succ_le_succ (length_putF _ _ _)))) (by show 4<1000; decide))))) ?_
      walk_at "rd"
      have pa:a≠p:=ne_of h2 h1 (by intro z; cases z)
      have pb:b≠p:=ne_of h3 h1 (by intro z; cases z)
      refine k _ (fun x o e hx=>?_) ⟨⟨dx',a,b,upd_same,?_,?_⟩⟩
      ·rw [upd_ne hx]; exact kp x o e hx
      ·rw [upd_ne pa]; exact h2
      ·rw [upd_ne pb]; exact h3
   ·rw [decide_eq_false c2]
    walk_at "rd"
    exact ⟨by show 1≤sizeLine; decide,sz fun z=>c2 z.2⟩
  ·rw [decide_eq_false c1]
   walk_at "rd"
   exact ⟨by show 1≤sizeLine; decide,sz fun z=>c1 z.1⟩
def sp_ClothInit (C:Addr):Sp:=fun vs H Q _=>∃ (p dx c r:Addr) (s:Int) (cs rs:List Int),vs=[.ref p,.int s,.ref c,.ref r]∧H p=some (.ins C dx [])∧H c=some (.lst (cs.map V.int))∧H r=some (.lst (rs.map V.int)) ∧
 (s=0∨s=1)∧Bits cs∧Bits rs∧∀ H',(∀ b o,H b=some o→b≠p→H' b=some o)→ClothAt C H' p s cs rs→Q .non H'
theorem ok_ClothInit (T:Txt K mg t):FnOk P w K mg base CX0 6 t.f_ClothInit t.d_ClothInit ["self","shade","cols","rows"] (sp_ClothInit t.a_Cloth) :=
 (okx_ClothInit T).down fun vs H Q E hh=>by
  obtain ⟨p,dx,c,r,s,cs,rs,e,hp,hc,hr,hs,bc,br,k⟩:=hh
  exact ⟨p,dx,c,r,s,cs,rs,e,hp,hc,hr,by have:=bc.1; omega,by have:=br.1; omega,.inr (.inr ⟨⟨bc.1,br.1⟩,Bits.ok hs bc br,k⟩)⟩
end
section
variable {P:Program} {w:World} {K:PySem.W.Frag} {mg:Str→Option Value} {base:Heap} {t:Ad}
def sp_Clothwide (C:Addr):Sp:=fun vs H Q _=>∃ (p:Addr) (s:Int) (cs rs:List Int),vs=[.ref p]∧ClothAt C H p s cs rs∧Q (.int ((cs.length:Int)+1)) H
theorem ok_Clothwide (T:Txt K mg t):FnOk P w K mg base CX0 1 t.f_Clothwide t.d_Clothwide ["self"] (sp_Clothwide t.a_Cloth):=by
 refine T.F_Clothwide.ok sc_Clothwide (fun vs H Q E h=>?_) (fun cdv A outer s H vs Q E hr h=>?_)
 ·obtain ⟨p,s,cs,rs,rfl,_⟩:=h; rfl
 ·obtain ⟨p,s,cs,rs,rfl,⟨dx,a,b,h1,h2,h3⟩,k⟩:=h
  refine ⟨_,(pss_one (ps_ret (pe_fldK K rfl (pv 0) rfl))),?_⟩
  walk_at "rd"
  refine rd_fldv h1 T.cl_Cloth T.na_columns_count (cfl_w _ _ _) ?_
  walk_at "rd"
  exact k
def sp_Clothtall (C:Addr):Sp:=fun vs H Q _=>∃ (p:Addr) (s:Int) (cs rs:List Int),vs=[.ref p]∧ClothAt C H p s cs rs∧Q (.int ((rs.length:Int)+1)) H
theorem ok_Clothtall (T:Txt K mg t):FnOk P w K mg base CX0 1 t.f_Clothtall t.d_Clothtall ["self"] (sp_Clothtall t.a_Cloth):=by
 refine T.F_Clothtall.ok sc_Clothtall (fun vs H Q E h=>?_) (fun cdv A outer s H vs Q E hr h=>?_)
 ·obtain ⟨p,s,cs,rs,rfl,_⟩:=h; rfl
 ·obtain ⟨p,s,cs,rs,rfl,⟨dx,a,b,h1,h2,h3⟩,k⟩:=h
  refine ⟨_,(pss_one (ps_ret (pe_fldK K rfl (pv 0) rfl))),?_⟩
  walk_at "rd"
  refine rd_fldv h1 T.cl_Cloth T.na_rows_count (cfl_h _ _ _) ?_
  walk_at "rd"
  exact k
def IsWay (w:Str) (cs rs bs:List Int):Prop:=(w="col"∧bs=cs)∨(w="row"∧bs=rs)
theorem rc_ne:¬ (("row":Str)="col"):=by decide +kernel
def spx_Clothbitsalong (C NL:Addr):Sp:=fun vs H Q E=>∃ (p:Addr) (w:Str) (s:Int) (cs rs:List Int),vs=[.ref p,.str w]∧ClothAt C H p s cs rs ∧
 ((∃ bs,IsWay w cs rs bs∧∀ a,H a=some (.tup (bs.map V.int))→Q (.ref a) H)∨(¬ w="col"∧¬ w="row"∧E (.ref NL) none H))
theorem okx_Clothbitsalong (T:Txt K mg t):FnOk P w K mg base (CX1 P w) 1 t.f_Clothbitsalong t.d_Clothbitsalong ["self","way"] (spx_Clothbitsalong t.a_Cloth t.a_NoLine):=by
 refine T.F_Clothbitsalong.ok1 sc_Clothbitsalong (fun vs H Q E h=>?_) (fun cdv A outer s H vs Q E hr h=>?_)
 ·obtain ⟨p,w,s,cs,rs,rfl,_⟩:=h; rfl
 ·obtain ⟨p,w,s,cs,rs,rfl,⟨dx,a,b,h1,h2,h3⟩,hw⟩:=h
  refine cutC (ps_if (pt_cmpR op_eq (pv 1) pe_str (nomark _)) (pss_one (ps_ret (pe_fldK K rfl (pv 0) rfl))) pss_nil) fun _ _=>cutC (ps_if (pt_cmpR op_eq (pv 1) pe_str (nomark _)) (pss_one (ps_ret (pe_fldK K rfl (pv 0) rfl))) pss_nil) fun _ _=>cutE (ps_raiseK T.mg_NoLine T.x_NoLine PySem.F.excBase_ValueError rfl rfl (fun _ _ _ _ _ _ _ _ I m q=>xe_new I m q) (pa_cons pe_str pa_nil)) fun _ _=>?_
  walk_at "rd"
  rcases hw with ⟨bs,⟨rfl,rfl⟩ | ⟨rfl,rfl⟩,k⟩ | ⟨n1,n2,k⟩
  ·rw [decide_eq_true (rfl:("col":Str)="col")]
   walk_at "rd"
   refine rd_fldv h1 T.cl_Cloth T.na_col_bits (cfl_c _ _ _) ?_
   walk_at "rd"
   exact k a h2
  ·rw [decide_eq_false rc_ne]
   walk_at "rd"
   rw [decide_eq_true (rfl:("row":Str)="row")]
   walk_at "rd"
   refine rd_fldv h1 T.cl_Cloth T.na_row_bits (cfl_r _ _ _) ?_
   walk_at "rd"
   exact k b h3
  ·rw [decide_eq_false n1]
   walk_at "rd"
   rw [decide_eq_false n2]
   walk_at "rd"
   exact ⟨by show 1≤sizeLine; decide,k⟩
def NoLn (w:Str) (k:Int) (cs rs:List Int):Prop:=(¬ w="col"∧¬ w="row")∨∃ bs,IsWay w cs rs bs∧¬ (0≤k∧k<bs.length)
def spx_Clothbit (C NL:Addr):Sp:=fun vs H Q E=>∃ (p:Addr) (w:Str) (k s:Int) (cs rs:List Int),vs=[.ref p,.str w,.int k]∧ClothAt C H p s cs rs ∧
 ((∃ bs,IsWay w cs rs bs∧0≤k∧k<bs.length∧Q (.int (bs.getD k.toNat 0)) H)∨(NoLn w k cs rs∧E (.ref NL) none H))
theorem okx_Clothbit (T:Txt K mg t):FnOk P w K mg base (CX1 P w) 3 t.f_Clothbit t.d_Clothbit ["self","way","k"] (spx_Clothbit t.a_Cloth t.a_NoLine):=by
 have G_isbelow:=ok_isbelow (P:=P) (w:=w) (base:=base) T
 have GX_Clothbitsalong:=okx_Clothbitsalong (P:=P) (w:=w) (base:=base) T
 refine T.F_Clothbit.ok1 sc_Clothbit (fun vs H Q E h=>?_) (fun cdv A outer s H vs Q E hr h=>?_)
 ·obtain ⟨p,w,k,s,cs,rs,rfl,_⟩:=h; rfl
 ·obtain ⟨p,w,k,s,cs,rs,rfl,hc,h⟩:=h
  obtain ⟨dx,a,b,e1,e2,e3⟩:=hc.ob
  refine cutC (ps_set (i:=3) sc_Clothbit.nd rfl (Or.inl rfl) (pe_meth (pv 0) T.cl_Cloth T.m_Clothbitsalong GX_Clothbitsalong (hr.mono (by first | decide | omega)) T.b_Clothbitsalong .nil pass1 (pa_cons (pv 1) pa_nil))) fun _ _=>cutC (ps_if (pt_not (pt_val (pe_call G_isbelow.up (hr.mono (by first | decide | omega)) rfl T.mg_isbelow T.F_isbelow.kp T.b_isbelow .nil pass1 (pa_cons (pv 2) (pa_cons (pe_callB (cI_lenK K rfl) rfl T.no_len (by rfl) (pa_cons (pv 3) pa_nil)) pa_nil))))) (pss_one (ps_raiseK T.mg_NoLine T.x_NoLine PySem.F.excBase_ValueError rfl rfl (fun _ _ _ _ _ _ _ _ I m q=>xe_new I m q) (pa_cons pe_str pa_nil))) pss_nil) fun _ _=>cutE (ps_ret (pe_ix (ix_tupK K rfl) (pv 3) (pv 2) (fun _ _=>rfl))) fun _ _=>?_
  walk_at "rd"
  refine rd_methv e1 (cfl_no _ _ _ (by decide +kernel)) ?_
  walk_at "rd"
  rcases h with ⟨bs,hw,h0,h1,q⟩ | ⟨⟨n1,n2⟩ | ⟨bs,hw,hn⟩,q⟩
  ·refine ⟨p,w,s,cs,rs,rfl,hc,.inl ⟨bs,hw,fun z hz=>?_⟩⟩
   walk_at "rd"
   refine rd_lenT hz ?_
   walk_at "rd"
   refine ⟨k,_,rfl,?_⟩
   rw [List.length_map,decide_eq_true h0,decide_eq_true h1]
   walk_at "rd"
   refine rd_ixT (SqT.of hz) (atI_ints h0 h1) ?_
   exact q
  ·exact ⟨p,w,s,cs,rs,rfl,hc,.inr ⟨n1,n2,q⟩⟩
  ·refine ⟨p,w,s,cs,rs,rfl,hc,.inl ⟨bs,hw,fun z hz=>?_⟩⟩
   walk_at "rd"
   refine rd_lenT hz ?_
   walk_at "rd"
   refine ⟨k,_,rfl,?_⟩
   rw [List.length_map]
   have e:(decide (0≤k)&&decide (k<(bs.length:Int)))=false:=by
    rw [Bool.eq_false_iff]
    intro z
    rw [Bool.and_eq_true,decide_eq_true_eq,decide_eq_true_eq] at z
    exact hn z
   rw [e]
   walk_at "rd"
   exact ⟨by show 1≤sizeLine; decide,q⟩
end
section
variable {P:Program} {w:World} {K:PySem.W.Frag} {mg:Str→Option Value} {base:Heap} {t:Ad}
theorem bits_sum {l:List Int} (h:∀ z∈l,z=0∨z=1):0≤l.sum∧l.sum≤l.length:=by
 induction l with
 | nil=>exact ⟨Int.le_refl 0,Int.le_refl 0⟩
 | cons z r ih =>
  have:=ih fun y hy=>h y (List.mem_cons_of_mem _ hy)
  rw [List.sum_cons,List.length_cons]
  rcases h z List.mem_cons_self with rfl | rfl<;>omega
theorem bits_small {l:List Int} (h:∀ z∈l,z=0∨z=1) (hl:l.length≤1000):SmallSum l:=fun k hk=>by
 refine ⟨?_,fun n hn=>?_⟩
 ·have:=bits_sum (l:=l.take k) fun z hz=>h z (List.mem_of_mem_take hz)
  rw [List.length_take] at this
  unfold InLong
  omega
 ·unfold InLong
  rcases h n hn with rfl | rfl<;>decide
theorem cutV_take {zs:List Int} {x:Int} (h:0≤x):cutV (zs.map V.int) none (some x)=(zs.take x.toNat).map V.int:=by
 obtain ⟨k,rfl⟩:∃ k:Nat,x=(k:Int):=⟨x.toNat,by omega⟩
 unfold cutV
 rw [HT.sIx_none,HT.sIx_nat,List.drop_zero,Nat.sub_zero,Int.toNat_natCast,← List.map_take]
 congr 1
 rw [List.length_map]
 rcases Nat.le_total k zs.length with h | h
 ·rw [Nat.min_eq_left h]
 ·rw [Nat.min_eq_right h,List.take_of_length_le (Nat.le_refl _),List.take_of_length_le h]
end
section
variable {P:Program} {w:World} {K:PySem.W.Frag} {mg:Str→Option Value} {base:Heap} {t:Ad}
def inCl (x y:Int) (cs rs:List Int):Prop:=(0≤x∧x<(cs.length:Int)+1)∧0≤y∧y<(rs.length:Int)+1
def spx_needcell (C NC:Addr):Sp:=fun vs H Q E=>∃ (p:Addr) (x y s:Int) (cs rs:List Int),vs=[.ref p,.int x,.int y]∧ClothAt C H p s cs rs∧((inCl x y cs rs∧Q .non H)∨(¬ inCl x y cs rs∧E (.ref NC) none H))
theorem below_t {x b:Int} (h:0≤x∧x<b):(decide (0≤x)&&decide (x<b))=true:=by rw [decide_eq_true h.1,decide_eq_true h.2]; rfl
theorem below_f {x b:Int} (h:¬ (0≤x∧x<b)):(decide (0≤x)&&decide (x<b))=false:=by
 rw [Bool.eq_false_iff]
 intro z
 rw [Bool.and_eq_true,decide_eq_true_eq,decide_eq_true_eq] at z
 exact h z
theorem okx_needcell (T:Txt K mg t):FnOk P w K mg base (CX1 P w) 3 t.f_needcell t.d_needcell ["board","x","y"] (spx_needcell t.a_Cloth t.a_NoCell):=by
 have G_isbelow:=ok_isbelow (P:=P) (w:=w) (base:=base) T
 have G_Clothwide:=ok_Clothwide (P:=P) (w:=w) (base:=base) T
 have G_Clothtall:=ok_Clothtall (P:=P) (w:=w) (base:=base) T
 refine T.F_needcell.ok1 sc_needcell (fun vs H Q E h=>?_) (fun cdv A outer s H vs Q E hr h=>?_)
 ·obtain ⟨p,x,y,s,cs,rs,rfl,_⟩:=h; rfl
 ·obtain ⟨p,x,y,s,cs,rs,rfl,hc,h⟩:=h
  obtain ⟨dx,a,b,e1,e2,e3⟩:=hc.ob
  have nl:∀ {w h:Int} {m:Str},NoF m→(cfl s a b w h).lookup m=none:=fun x=>cfl_no _ _ _ x
  refine ⟨_,(pss_one (ps_if (PW.pt (pw_or (pt_not (pt_val (pe_call G_isbelow.up (hr.mono (by first | decide | omega)) rfl T.mg_isbelow T.F_isbelow.kp T.b_isbelow .nil pass1 (pa_cons (pv 1) (pa_cons (pe_meth0 (pv 0) T.cl_Cloth T.m_Clothwide G_Clothwide.up (hr.mono (by first | decide | omega)) T.b_Clothwide .nil pass1) pa_nil))))) (pw_or1 (pt_not (pt_val (pe_call G_isbelow.up (hr.mono (by first | decide | omega)) rfl T.mg_isbelow T.F_isbelow.kp T.b_isbelow .nil pass1 (pa_cons (pv 2) (pa_cons (pe_meth0 (pv 0) T.cl_Cloth T.m_Clothtall G_Clothtall.up (hr.mono (by first | decide | omega)) T.b_Clothtall .nil pass1) pa_nil)))))))) (pss_one (ps_raiseK T.mg_NoCell T.x_NoCell PySem.F.excBase_ValueError rfl rfl (fun _ _ _ _ _ _ _ _ I m q=>xe_new I m q) (pa_cons pe_str pa_nil))) pss_nil)),?_⟩
  walk_at "rd"
  refine rd_methv e1 (nl (by decide +kernel)) ?_
  walk_at "rd"
  refine ⟨p,s,cs,rs,rfl,hc,?_⟩
  walk_at "rd"
  refine ⟨x,_,rfl,?_⟩
  by_cases hx:0≤x∧x<(cs.length:Int)+1
  ·rw [below_t hx]
   walk_at "rd"
   refine rd_methv e1 (nl (by decide +kernel)) ?_
   walk_at "rd"
   refine ⟨p,s,cs,rs,rfl,hc,?_⟩
   walk_at "rd"
   refine ⟨y,_,rfl,?_⟩
   by_cases hy:0≤y∧y<(rs.length:Int)+1
   ·rw [below_t hy]
    walk_at "rd"
    rcases h with ⟨_,q⟩ | ⟨n,_⟩
    ·exact q
    ·exact absurd ⟨hx,hy⟩ n
   ·rw [below_f hy]
    walk_at "rd"
    rcases h with ⟨n,_⟩ | ⟨_,q⟩
    ·exact absurd n.2 hy
    ·exact ⟨by show 1≤sizeLine; decide,q⟩
  ·rw [below_f hx]
   walk_at "rd"
   rcases h with ⟨n,_⟩ | ⟨_,q⟩
   ·exact absurd n.1 hx
   ·exact ⟨by show 1≤sizeLine; decide,q⟩
def colr (s:Int) (cs rs:List Int) (x y:Int):Int:=(s+((cs.take x.toNat).sum+(rs.take y.toNat).sum+x*y))%2
def spx_Clothcolour (C NC:Addr):Sp:=fun vs H Q E=>∃ (p:Addr) (x y s:Int) (cs rs:List Int),vs=[.ref p,.int x,.int y]∧ClothAt C H p s cs rs∧Bits cs∧Bits rs ∧
 ((inCl x y cs rs∧∀ H',Same H H'→Q (.int (colr s cs rs x y)) H')∨(¬ inCl x y cs rs∧E (.ref NC) none H))
theorem okx_Clothcolour (T:Txt K mg t):FnOk P w K mg base (CX1 P w) 4 t.f_Clothcolour t.d_Clothcolour ["self","x","y"] (spx_Clothcolour t.a_Cloth t.a_NoCell):=by
 have GX_needcell:=okx_needcell (P:=P) (w:=w) (base:=base) T
 refine T.F_Clothcolour.ok1 sc_Clothcolour (fun vs H Q E h=>?_) (fun cdv A outer s H vs Q E hr h=>?_)
 ·obtain ⟨p,x,y,s,cs,rs,rfl,_⟩:=h; rfl
 ·obtain ⟨p,x,y,s,cs,rs,rfl,hc,bc,br,h⟩:=h
  obtain ⟨dx,a,b,e1,e2,e3⟩:=hc.ob
  refine cutC (ps_expr (pe_call GX_needcell (hr.mono (by first | decide | omega)) rfl T.mg_needcell T.F_needcell.kp T.b_needcell .nil pass1 (pa_cons (pv 0) (pa_cons (pv 1) (pa_cons (pv 2) pa_nil))))) fun _ _=>cutC (ps_set (i:=3) sc_Clothcolour.nd rfl (Or.inl rfl) (pe_op op_add (pe_op op_add (pe_callB (cI_sumK K rfl rfl) rfl T.no_sum (by rfl) (pa_cons (pe_slice (sl_tupK K rfl) (pe_fldK K rfl (pv 0) rfl) po_none (po_some (pv 1))) pa_nil)) (pe_callB (cI_sumK K rfl rfl) rfl T.no_sum (by rfl) (pa_cons (pe_slice (sl_tupK K rfl) (pe_fldK K rfl (pv 0) rfl) po_none (po_some (pv 2))) pa_nil))) (pe_op op_mul (pv 1) (pv 2)))) fun _ _=>cutE (ps_ret (pe_op op_mod (pe_op op_add (pe_fldK K rfl (pv 0) rfl) (pv 3)) pe_int)) fun _ _=>?_
  walk_at "rd"
  rcases h with ⟨i,k⟩ | ⟨n,q⟩
  ·obtain ⟨⟨x0,x1⟩,y0,y1⟩:=id i
   refine ⟨p,x,y,s,cs,rs,rfl,hc,.inl ⟨i,?_⟩⟩
   walk_at "rd"
   refine rd_fldv e1 T.cl_Cloth T.na_col_bits (cfl_c _ _ _) ?_
   walk_at "rd"
   refine rd_slT e2 fun H1 u s1 hu=>?_
   rw [cutV_take x0] at hu
   walk_at "rd"
   refine rd_sumT hu (bits_small (fun z hz=>bc.2 z (List.mem_of_mem_take hz)) (by rw [List.length_take]; have:=bc.1; omega)) ?_
   walk_at "rd"
   refine rd_fldv (s1 _ _ e1) T.cl_Cloth T.na_row_bits (cfl_r _ _ _) ?_
   walk_at "rd"
   refine rd_slT (s1 _ _ e3) fun H2 v s2 hv=>?_
   rw [cutV_take y0] at hv
   walk_at "rd"
   refine rd_sumT hv (bits_small (fun z hz=>br.2 z (List.mem_of_mem_take hz)) (by rw [List.length_take]; have:=br.1; omega)) ?_
   walk_at "rd"
   refine rd_I (.inl ⟨by omega,by have:=bc.1; omega⟩) ?_
   walk_at "rd"
   refine rd_fldv (s2 _ _ (s1 _ _ e1)) T.cl_Cloth T.na_first_colour (cfl_f _ _ _) ?_
   walk_at "rd"
   refine rd_I (by decide) ?_
   exact k H2 (s1.trans s2)
  ·exact ⟨p,x,y,s,cs,rs,rfl,hc,.inr ⟨n,q⟩⟩
def sp_Clothcolour (C:Addr):Sp:=fun vs H Q _=>∃ (p:Addr) (x y s:Int) (cs rs:List Int),vs=[.ref p,.int x,.int y]∧ClothAt C H p s cs rs∧Bits cs∧Bits rs∧0≤x∧x<cs.length+1∧0≤y∧y<rs.length+1 ∧
 ∀ H',Same H H'→Q (.int (colr s cs rs x y)) H'
theorem ok_Clothcolour (T:Txt K mg t):FnOk P w K mg base CX0 4 t.f_Clothcolour t.d_Clothcolour ["self","x","y"] (sp_Clothcolour t.a_Cloth) :=
 (okx_Clothcolour T).down fun vs H Q E hh=>by
  obtain ⟨p,x,y,s,cs,rs,e,hc,bc,br,x0,x1,y0,y1,k⟩:=hh
  exact ⟨p,x,y,s,cs,rs,e,hc,bc,br,.inl ⟨⟨⟨x0,x1⟩,y0,y1⟩,k⟩⟩
end
section
variable {P:Program} {w:World} {K:PySem.W.Frag} {mg:Str→Option Value} {base:Heap} {t:Ad}
def sp_Clothshade (C:Addr):Sp:=fun vs H Q _=>∃ (p:Addr) (s:Int) (cs rs:List Int),vs=[.ref p]∧ClothAt C H p s cs rs∧Q (.int s) H
theorem ok_Clothshade (T:Txt K mg t):FnOk P w K mg base CX0 1 t.f_Clothshade t.d_Clothshade ["self"] (sp_Clothshade t.a_Cloth):=by
 refine T.F_Clothshade.ok sc_Clothshade (fun vs H Q E h=>?_) (fun cdv A outer s H vs Q E hr h=>?_)
 ·obtain ⟨p,s,cs,rs,rfl,_⟩:=h; rfl
 ·obtain ⟨p,s,cs,rs,rfl,⟨dx,a,b,h1,h2,h3⟩,k⟩:=h
  refine ⟨_,(pss_one (ps_ret (pe_fldK K rfl (pv 0) rfl))),?_⟩
  walk_at "rd"
  refine rd_fldv h1 T.cl_Cloth T.na_first_colour (cfl_f _ _ _) ?_
  exact k
def sp_Clothcols (C:Addr):Sp:=fun vs H Q _=>∃ (p:Addr) (s:Int) (cs rs:List Int),vs=[.ref p]∧ClothAt C H p s cs rs∧∀ l,H l=none→Q (.ref l) (upd H l (.lst (cs.map V.int)))
theorem ok_Clothcols (T:Txt K mg t):FnOk P w K mg base CX0 1 t.f_Clothcols t.d_Clothcols ["self"] (sp_Clothcols t.a_Cloth):=by
 refine T.F_Clothcols.ok sc_Clothcols (fun vs H Q E h=>?_) (fun cdv A outer s H vs Q E hr h=>?_)
 ·obtain ⟨p,s,cs,rs,rfl,_⟩:=h; rfl
 ·obtain ⟨p,s,cs,rs,rfl,⟨dx,a,b,h1,h2,h3⟩,k⟩:=h
  refine ⟨_,(pss_one (ps_ret (pe_callTy (cI_listK K rfl) rfl T.no_list (by rfl) (pa_cons (pe_fldK K rfl (pv 0) rfl) pa_nil)))),?_⟩
  walk_at "rd"
  refine rd_fldv h1 T.cl_Cloth T.na_col_bits (cfl_c _ _ _) ?_
  walk_at "rd"
  exact rd_listT h2 k
def sp_Clothrows (C:Addr):Sp:=fun vs H Q _=>∃ (p:Addr) (s:Int) (cs rs:List Int),vs=[.ref p]∧ClothAt C H p s cs rs∧∀ l,H l=none→Q (.ref l) (upd H l (.lst (rs.map V.int)))
theorem ok_Clothrows (T:Txt K mg t):FnOk P w K mg base CX0 1 t.f_Clothrows t.d_Clothrows ["self"] (sp_Clothrows t.a_Cloth):=by
 refine T.F_Clothrows.ok sc_Clothrows (fun vs H Q E h=>?_) (fun cdv A outer s H vs Q E hr h=>?_)
 ·obtain ⟨p,s,cs,rs,rfl,_⟩:=h; rfl
 ·obtain ⟨p,s,cs,rs,rfl,⟨dx,a,b,h1,h2,h3⟩,k⟩:=h
  refine ⟨_,(pss_one (ps_ret (pe_callTy (cI_listK K rfl) rfl T.no_list (by rfl) (pa_cons (pe_fldK K rfl (pv 0) rfl) pa_nil)))),?_⟩
  walk_at "rd"
  refine rd_fldv h1 T.cl_Cloth T.na_row_bits (cfl_r _ _ _) ?_
  walk_at "rd"
  exact rd_listT h3 k
end
section
variable {P:Program} {w:World} {K:PySem.W.Frag} {mg:Str→Option Value} {base:Heap} {t:Ad}
def Sm (z:Int):Prop:=-1000000000000000000<z∧z<1000000000000000000
theorem sm_snoc {zs:List Int} {z:Int} (h:∀ y∈zs,Sm y) (hz:Sm z):∀ y∈zs++[z],Sm y:=fun y hy=>by
 rcases List.mem_append.mp hy with q | q
 ·exact h y q
 ·rw [List.mem_singleton.mp q]; exact hz
theorem sm_mod (r:Int) {m:Int} (h0:0<m) (h1:m≤1000003):Sm (r%m):=by
 have:=Int.emod_nonneg r (by omega:m≠0)
 have:=Int.emod_lt_of_pos r h0
 unfold Sm; omega
def sp_Ldraws (K:PySem.W.Frag):Sp:=fun vs H Q _=>∃ (a:Addr) (m:Nat) (ns:List Int),vs=[.ref a,.int m]∧SqL K H a (ns.map V.int)∧ns.length≤63∧m≤200 ∧
 ∀ (l:Addr) (zs:List Int) (H':Hp),Same H H'→H' l=some (.lst (zs.map V.int))→m≤zs.length→zs.length≤300→(∀ z∈zs,Sm z)→Q (.ref l) H'
theorem map_snoc (zs:List Int) (z:Int):zs.map V.int++[V.int z]=(zs++[z]).map V.int:=by simp
theorem ok_Ldraws (T:Txt K mg t):FnOk P w K mg base CX0 1 t.f_Ldraws t.d_Ldraws ["_law_script","_law_many"] (sp_Ldraws K):=by
 refine T.F_Ldraws.ok sc_Ldraws (fun vs H Q E h=>?_) (fun cdv A outer s H vs Q E hr h=>?_)
 ·obtain ⟨a,m,ns,rfl,_⟩:=h; rfl
 ·obtain ⟨a,m,ns,rfl,hS,hl,hm,k⟩:=h
  refine cutC (ps_set (i:=2) sc_Ldraws.nd rfl (Or.inl rfl) (pe_lst pa_nil)) fun _ _=>cutC (ps_set (i:=3) sc_Ldraws.nd rfl (Or.inl rfl) pe_int) fun _ _=>cutC (ps_for PassesOwn.never rfl (pi_list (pv 0)) (pg_name (i:=4) sc_Ldraws.nd rfl (Or.inl rfl)) (pss_cons (ps_set (i:=3) sc_Ldraws.nd rfl (Or.inl rfl) (pe_op op_mod (pe_op op_add (pe_op op_mul (pv 3) pe_int) (pv 4)) pe_int)) (pss_cons (ps_set (i:=5) sc_Ldraws.nd rfl (Or.inl rfl) (pe_callB cI_abs rfl T.no_abs (by rfl) (pa_cons (pv 4) pa_nil))) (pss_cons (ps_if (pt_cmpR op_lt (pv 5) (pe_op op_pow pe_int pe_int) (nomark _)) (pss_cons (ps_expr (pe_bm PySem.F.plainAttrs_list PySem.F.slot_list_append PySem.F.type_list_append mt_append (pv 2) (pa_cons (pv 4) pa_nil))) (pss_one (ps_set (i:=5) sc_Ldraws.nd rfl (Or.inl rfl) pe_int))) pss_nil) (pss_one (ps_while PassesOwn.never (PW.pt (pw_and (pt_cmpR op_gt (pv 5) pe_int (nomark _)) (pw_and1 (pt_cmpR op_lt (pe_callB (cI_lenK K rfl) rfl T.no_len (by rfl) (pa_cons (pv 2) pa_nil)) (pv 1) (nomark _))))) (pss_cons (ps_expr (pe_bm PySem.F.plainAttrs_list PySem.F.slot_list_append PySem.F.type_list_append mt_append (pv 2) (pa_cons (pe_op op_mod (pv 5) pe_int) pa_nil))) (pss_one (ps_set (i:=5) sc_Ldraws.nd rfl (Or.inl rfl) (pe_op op_fdiv (pv 5) pe_int)))))))))) fun _ _=>cutC (ps_while PassesOwn.never (pt_cmpR op_lt (pe_callB (cI_lenK K rfl) rfl T.no_len (by rfl) (pa_cons (pv 2) pa_nil)) (pv 1) (nomark _)) (pss_cons (ps_set (i:=3) sc_Ldraws.nd rfl (Or.inl rfl) (pe_op op_mod (pe_op op_add (pe_op op_mul (pv 3) pe_int) pe_int) pe_int)) (pss_one (ps_expr (pe_bm PySem.F.plainAttrs_list PySem.F.slot_list_append PySem.F.type_list_append mt_append (pv 2) (pa_cons (pe_op op_mod (pe_op op_mul (pv 3) (pv 3)) pe_int) pa_nil)))))) fun _ _=>cutE (ps_ret (pv 2)) fun _ _=>?_
  walk_at "rd"
  refine ⟨Nat.zero_le _,fun l hn=>?_⟩
  walk_at "rd"
  have hz:∀ {zs:List Int},zs.length≤300→(zs.map V.int).length<sizeLine:=fun h=>by rw [List.length_map]; exact small1000 (by omega)
  refine ⟨⟨_,(Same.new hn).seq hS⟩,forW_list (K:=K) (a:=a) (xs:=ns.map V.int) (fun i σ' H'=>∃ (zs:List Int) (mix:Int) (c r:Option V),σ'=[some (.ref a),some (.int m),some (.ref l),some (.int mix),c,r]∧Same H H'∧H' l=some (.lst (zs.map V.int))∧zs.length≤i+m∧∀ z∈zs,Sm z)
   ⟨[],1,none,none,rfl,Same.new hn,upd_same,Nat.zero_le _,fun z hz=>by cases hz⟩ (fun i σ' H' _ ⟨_,_,_,_,_,s,_⟩=>s.seq hS) ?_ ?_⟩
  ·rintro i y σ' H' hi ⟨zs,mix,c,r,rfl,s1,e1,lz,sm⟩
   have hil:i<ns.length:=by have:=(List.getElem?_eq_some_iff.mp hi).1; rwa [List.length_map] at this
   obtain ⟨z,rfl⟩:∃ z,y=V.int z:=by
    rw [List.getElem?_map] at hi
    cases e:ns[i]? with
    | none=>rw [e] at hi; cases hi
    | some z=>rw [e] at hi; exact ⟨z,(Option.some.inj hi).symm⟩
   walk_at "rd"
   refine rd_I (.inr ⟨by decide,by decide⟩) ?_
   walk_at "rd"
   refine rd_I (by decide) ?_
   walk_at "rd"
   refine rd_I ⟨by decide,by decide,by decide⟩ ?_
   walk_at "rd"
   refine ite2 (fun hc=>?_) (fun _=>?_)
   ·have hc:=of_decide_eq_true hc
    have hcz:Sm z:=by
     unfold Sm
     have e18:(10:Int) ^ 18=1000000000000000000:=by decide
     by_cases hz0:z<0
     ·rw [if_pos hz0] at hc; change -z<(10:Int) ^ 18 at hc; omega
     ·rw [if_neg hz0] at hc; change z<(10:Int) ^ 18 at hc; omega
    walk_at "rd"
    refine rd_bmL e1 ?_
    walk_at "rd"
    refine rd_append e1 (hz (by omega)) ?_
    rw [map_snoc]
    walk_at "rd"
    refine ⟨fun n σ' H'=>∃ (zs:List Int) (mix:Int) (r:Int),σ'=[some (.ref a),some (.int m),some (.ref l),some (.int mix),some (.int z),some (.int r)]∧Same H H'∧H' l=some (.lst (zs.map V.int))∧zs.length≤i+1+m∧n=m - zs.length∧∀ z∈zs,Sm z,
     ⟨_,zs++[z],_,_,rfl,s1.later hn,upd_same,by rw [List.length_append,List.length_singleton]; omega,rfl,sm_snoc sm hcz⟩,?_⟩
    rintro n σ' H' ⟨zs,mix,r,rfl,s1,e1,lz,rfl,sm⟩
    walk_at "rd"
    refine ite2 (fun _=>?_) (fun _=>?_)
    ·walk_at "rd"
     refine rd_lenL e1 ?_
     walk_at "rd"
     rw [List.length_map]
     refine ite2 (fun h2=>?_) (fun h2=>?_)
     ·have h2:=of_decide_eq_true h2
      refine ⟨fun σ' H'=>∃ (zs':List Int) (mix:Int) (r:Int),σ'=[some (.ref a),some (.int m),some (.ref l),some (.int mix),some (.int z),some (.int r)]∧Same H H'∧H' l=some (.lst (zs'.map V.int))∧zs'.length=zs.length+1∧∀ z∈zs',Sm z,?_,?_⟩
      ·rintro σ' H' ⟨zs',mix,r,rfl,s1,e1,lz',sm'⟩
       exact ⟨m - zs'.length,by omega,zs',mix,r,rfl,s1,e1,by omega,rfl,sm'⟩
      ·walk_at "rd"
       refine rd_bmL e1 ?_
       walk_at "rd"
       refine rd_I (by decide) ?_
       walk_at "rd"
       refine rd_append e1 (hz (by omega)) ?_
       rw [map_snoc]
       walk_at "rd"
       refine rd_I ⟨by decide,by decide⟩ ?_
       walk_at "rd"
       exact ⟨zs++[r%1000003],mix,_,rfl,s1.later hn,upd_same,by rw [List.length_append,List.length_singleton],sm_snoc sm (sm_mod r (by decide) (by decide))⟩
     ·walk_at "rd"
      exact ⟨zs,mix,_,_,rfl,s1,e1,lz,sm⟩
    ·walk_at "rd"
     exact ⟨zs,mix,_,_,rfl,s1,e1,lz,sm⟩
   ·walk_at "rd"
    refine ⟨fun n σ' H'=>∃ (zs:List Int) (mix:Int) (r:Int),σ'=[some (.ref a),some (.int m),some (.ref l),some (.int mix),some (.int z),some (.int r)]∧Same H H'∧H' l=some (.lst (zs.map V.int))∧zs.length≤i+1+m∧n=m - zs.length∧∀ z∈zs,Sm z,
     ⟨_,zs,_,_,rfl,s1,e1,by omega,rfl,sm⟩,?_⟩
    rintro n σ' H' ⟨zs,mix,r,rfl,s1,e1,lz,rfl,sm⟩
    walk_at "rd"
    refine ite2 (fun _=>?_) (fun _=>?_)
    ·walk_at "rd"
     refine rd_lenL e1 ?_
     walk_at "rd"
     rw [List.length_map]
     refine ite2 (fun h2=>?_) (fun h2=>?_)
     ·have h2:=of_decide_eq_true h2
      refine ⟨fun σ' H'=>∃ (zs':List Int) (mix:Int) (r:Int),σ'=[some (.ref a),some (.int m),some (.ref l),some (.int mix),some (.int z),some (.int r)]∧Same H H'∧H' l=some (.lst (zs'.map V.int))∧zs'.length=zs.length+1∧∀ z∈zs',Sm z,?_,?_⟩
      ·rintro σ' H' ⟨zs',mix,r,rfl,s1,e1,lz',sm'⟩
       exact ⟨m - zs'.length,by omega,zs',mix,r,rfl,s1,e1,by omega,rfl,sm'⟩
      ·walk_at "rd"
       refine rd_bmL e1 ?_
       walk_at "rd"
       refine rd_I (by decide) ?_
       walk_at "rd"
       refine rd_append e1 (hz (by omega)) ?_
       rw [map_snoc]
       walk_at "rd"
       refine rd_I ⟨by decide,by decide⟩ ?_
       walk_at "rd"
       exact ⟨zs++[r%1000003],mix,_,rfl,s1.later hn,upd_same,by rw [List.length_append,List.length_singleton],sm_snoc sm (sm_mod r (by decide) (by decide))⟩
     ·walk_at "rd"
      exact ⟨zs,mix,_,_,rfl,s1,e1,lz,sm⟩
    ·walk_at "rd"
     exact ⟨zs,mix,_,_,rfl,s1,e1,lz,sm⟩
  ·rintro σ' H' ⟨zs,mix,c,r,rfl,s1,e1,lz,sm⟩
   rw [List.length_map] at lz
   walk_at "rd"
   refine ⟨fun n σ' H'=>∃ (zs:List Int) (mix:Int),σ'=[some (.ref a),some (.int m),some (.ref l),some (.int mix),c,r]∧(-(2 ^ 64)<mix∧mix<2 ^ 64∨True)∧Same H H'∧H' l=some (.lst (zs.map V.int))∧zs.length≤300∧n=m - zs.length∧∀ z∈zs,Sm z,
    ⟨_,zs,mix,rfl,.inr trivial,s1,e1,by omega,rfl,sm⟩,?_⟩
   rintro n σ' H' ⟨zs,mix,rfl,_,s1,e1,lz,rfl,sm⟩
   walk_at "rd"
   refine rd_lenL e1 ?_
   walk_at "rd"
   rw [List.length_map]
   refine ite2 (fun h2=>?_) (fun h2=>?_)
   ·have h2:=of_decide_eq_true h2
    refine ⟨fun σ' H'=>∃ (zs':List Int) (mix:Int),σ'=[some (.ref a),some (.int m),some (.ref l),some (.int mix),c,r]∧Same H H'∧H' l=some (.lst (zs'.map V.int))∧zs'.length=zs.length+1∧∀ z∈zs',Sm z,?_,?_⟩
    ·rintro σ' H' ⟨zs',mix,rfl,s1,e1,lz',sm'⟩
     exact ⟨m - zs'.length,by omega,zs',mix,rfl,.inr trivial,s1,e1,by omega,rfl,sm'⟩
    ·walk_at "rd"
     refine rd_I (.inr ⟨by decide,by decide⟩) ?_
     walk_at "rd"
     refine rd_I (by decide) ?_
     walk_at "rd"
     refine rd_bmL e1 ?_
     walk_at "rd"
     refine rd_I (.inl ⟨by omega,by omega⟩) ?_
     walk_at "rd"
     refine rd_I (by decide) ?_
     walk_at "rd"
     refine rd_append e1 (hz (by omega)) ?_
     rw [map_snoc]
     walk_at "rd"
     exact ⟨zs++[_],_,rfl,s1.later hn,upd_same,by rw [List.length_append,List.length_singleton],sm_snoc sm (sm_mod _ (by decide) (by decide))⟩
   ·have h2:¬ ((zs.length:Int)<m):=fun z=>h2 (decide_eq_true z)
    walk_at "rd"
    exact k l zs H' s1 e1 (by omega) (by omega) sm
end
section
variable {P:Program} {w:World} {K:PySem.W.Frag} {mg:Str→Option Value} {base:Heap} {t:Ad}
def sp_Lbits:Sp:=fun vs H Q _=>∃ (n:Int) (m:Nat),vs=[.int n,.int m]∧m≤100∧∀ (l:Addr) (bs:List Int) (H':Hp),Same H H'→H l=none→H' l=some (.lst (bs.map V.int))→bs.length=m→(∀ z∈bs,z=0∨z=1)→Q (.ref l) H'
theorem emod_le {a b:Int} (ha:0≤a) (hb:0<b):a%b≤a:=by
 obtain ⟨m,rfl⟩:=Int.eq_ofNat_of_zero_le ha
 obtain ⟨n,rfl⟩:=Int.eq_ofNat_of_zero_le (Int.le_of_lt hb)
 rw [← Int.natCast_emod]
 exact Int.ofNat_le.mpr (Nat.mod_le _ _)
theorem mod2 (n:Int):n%2=0∨n%2=1:=by omega
theorem ok_Lbits (T:Txt K mg t):FnOk P w K mg base CX0 1 t.f_Lbits t.d_Lbits ["_law_number","_law_many"] sp_Lbits:=by
 refine T.F_Lbits.ok sc_Lbits (fun vs H Q E h=>?_) (fun cdv A outer s H vs Q E hr h=>?_)
 ·obtain ⟨n,m,rfl,_⟩:=h; rfl
 ·obtain ⟨n,m,rfl,hm,k⟩:=h
  refine cutC (ps_set (i:=2) sc_Lbits.nd rfl (Or.inl rfl) (pe_lst pa_nil)) fun _ _=>cutC (ps_for PassesOwn.never rfl (pi_range1 rfl T.no_range (pa_cons (pv 1) pa_nil)) (pg_name (i:=3) sc_Lbits.nd rfl (Or.inl rfl)) (pss_cons (ps_expr (pe_bm PySem.F.plainAttrs_list PySem.F.slot_list_append PySem.F.type_list_append mt_append (pv 2) (pa_cons (pe_op op_mod (pv 0) pe_int) pa_nil))) (pss_one (ps_set (i:=0) sc_Lbits.nd rfl (Or.inl rfl) (pe_op op_fdiv (pv 0) pe_int))))) fun _ _=>cutE (ps_ret (pv 2)) fun _ _=>?_
  walk_at "rd"
  refine ⟨Nat.zero_le _,fun l hn=>?_⟩
  walk_at "rd"
  refine ⟨m,rfl,by omega,by omega,?_⟩
  rw [Int.toNat_natCast]
  refine forW_range (fun i σ' H'=>∃ (n:Int) (bs:List Int) (c:Option V),σ'=[some (.int n),some (.int m),some (.ref l),c]∧Same H H'∧H' l=some (.lst (bs.map V.int))∧bs.length=i∧∀ z∈bs,z=0∨z=1)
   ⟨n,[],none,rfl,Same.new hn,upd_same,rfl,fun z hz=>by cases hz⟩ ?_ ?_
  ·rintro i σ' H' hi ⟨n,bs,c,rfl,s1,e1,lb,hb⟩
   walk_at "rd"
   refine rd_bmL e1 ?_
   walk_at "rd"
   refine rd_I (by decide) ?_
   walk_at "rd"
   refine rd_append e1 (by rw [List.length_map]; exact small1000 (by omega)) ?_
   rw [map_snoc]
   walk_at "rd"
   refine rd_I ⟨by decide,by decide⟩ ?_
   walk_at "rd"
   refine ⟨_,bs++[n%2],_,rfl,s1.later hn,upd_same,by rw [List.length_append,List.length_singleton]; omega,fun z hz=>?_⟩
   rcases List.mem_append.mp hz with h | h
   ·exact hb z h
   ·rw [List.mem_singleton.mp h]; exact mod2 n
  ·rintro σ' H' ⟨n,bs,c,rfl,s1,e1,lb,hb⟩
   walk_at "rd"
   exact k l bs H' s1 hn e1 lb hb
def sp_Lrow:Sp:=fun vs H Q _=>∃ (a:Addr) (m:Nat) (zs:List Int),vs=[.ref a,.int m]∧H a=some (.lst (zs.map V.int))∧4≤zs.length∧m≤100∧∀ (l:Addr) (bs:List Int) (H':Hp),Same H H'→H l=none→H' l=some (.lst (bs.map V.int))→bs.length=m→(∀ z∈bs,z=0∨z=1)→Q (.ref l) H'
theorem ok_Lrow (T:Txt K mg t):FnOk P w K mg base CX0 2 t.f_Lrow t.d_Lrow ["_law_some","_law_many"] sp_Lrow:=by
 have G_Lbits:=ok_Lbits (P:=P) (w:=w) (base:=base) T
 refine T.F_Lrow.ok sc_Lrow (fun vs H Q E h=>?_) (fun cdv A outer s H vs Q E hr h=>?_)
 ·obtain ⟨a,m,zs,rfl,_⟩:=h; rfl
 ·obtain ⟨a,m,zs,rfl,ha,hl,hm,k⟩:=h
  refine cutC (ps_set (i:=2) sc_Lrow.nd rfl (Or.inl rfl) (pe_op op_add (pe_op op_add (pe_ix (ix_listK K rfl) (pv 0) pe_int (fun _ _=>rfl)) (pe_op op_mul pe_int (pe_ix (ix_listK K rfl) (pv 0) pe_int (fun _ _=>rfl)))) (pe_op op_mul (pe_op op_mul pe_int pe_int) (pe_ix (ix_listK K rfl) (pv 0) pe_int (fun _ _=>rfl))))) fun _ _=>cutC (ps_if (pt_cmpR op_eq (pe_op op_mod (pe_ix (ix_listK K rfl) (pv 0) pe_int (fun _ _=>rfl)) pe_int) pe_int (nomark _)) (pss_one (ps_set (i:=2) sc_Lrow.nd rfl (Or.inl rfl) (pe_un un_neg (pe_op op_mod (pe_ix (ix_listK K rfl) (pv 0) pe_int (fun _ _=>rfl)) pe_int)))) pss_nil) fun _ _=>cutC (ps_set (i:=3) sc_Lrow.nd rfl (Or.inr rfl) (pe_call G_Lbits (hr.mono (by first | decide | omega)) rfl T.mg_Lbits T.F_Lbits.kp T.b_Lbits .nil pass0 (pa_cons (pv 2) (pa_cons (pv 1) pa_nil)))) fun _ _=>cutC (ps_if (pt_cmpR op_eq (pe_op op_mod (pe_ix (ix_listK K rfl) (pv 0) pe_int (fun _ _=>rfl)) pe_int) pe_int (nomark _)) (pss_one (ps_set (i:=3) sc_Lrow.nd rfl (Or.inr rfl) (pe_comp (N:=["_law_k","_law_row_here","_law_some"]) (cap:=[none,some 3,some 0]) rfl ⟨rfl,rfl,rfl,rfl,rfl,rfl⟩ (pi_range1 rfl T.no_range (pa_cons (pv 1) pa_nil)) (fun _ _ _=>(pg_name (i:=0) (show (["_law_k","_law_row_here","_law_some"]:List Str).Nodup by decide +kernel) rfl (Or.inl rfl))) (fun _ _ _=>pts_nil) (fun _ _ _=>(pe_ix (ix_listK K rfl) (pv 1) (pe_op op_mod (pv 0) (pe_op op_add pe_int (pe_op op_mod (pe_ix (ix_listK K rfl) (pv 2) pe_int (fun _ _=>rfl)) pe_int))) (fun _ _=>rfl)))))) pss_nil) fun _ _=>cutE (ps_ret (pv 3)) fun _ _=>?_
  have I0:atI (zs.map V.int) 0=_:=atI_ints (by decide) (by omega)
  have I1:atI (zs.map V.int) 1=_:=atI_ints (by decide) (by omega)
  have I2:atI (zs.map V.int) 2=_:=atI_ints (by decide) (by omega)
  have I3:atI (zs.map V.int) 3=_:=atI_ints (by decide) (by omega)
  generalize zs.getD (0:Int).toNat 0=z0 at I0
  generalize zs.getD (1:Int).toNat 0=z1 at I1
  generalize zs.getD (2:Int).toNat 0=z2 at I2
  generalize zs.getD (3:Int).toNat 0=z3 at I3
  -- behind the raw number: the bits,and the pattern
  walk_at "rd"
  refine rd_ixL (SqL.of ha) I0 ?_
  walk_at "rd"
  refine rd_ixL (SqL.of ha) I1 ?_
  walk_at "rd"
  refine rd_I (.inl ⟨by decide,by decide⟩) ?_
  walk_at "rd"
  refine rd_I (.inl ⟨by decide,by decide⟩) ?_
  walk_at "rd"
  refine rd_ixL (SqL.of ha) I2 ?_
  walk_at "rd"
  refine rd_I (.inl ⟨by decide,by decide⟩) ?_
  walk_at "rd"
  refine rd_ixL (SqL.of ha) I3 ?_
  walk_at "rd"
  refine rd_I (by decide) ?_
  walk_at "rd"
  refine ite2 (fun _=>?_) (fun _=>?_)
  ·walk_at "rd"
   refine rd_ixL (SqL.of ha) I0 ?_
   walk_at "rd"
   refine rd_I (by decide) ?_
   walk_at "rd"
   refine ⟨_,m,rfl,hm,fun l bs H1 s1 n1 e1 lb hb=>?_⟩
   walk_at "rd"
   refine rd_ixL (SqL.of (s1 _ _ ha)) I3 ?_
   walk_at "rd"
   refine rd_I (by decide) ?_
   walk_at "rd"
   refine ite2 (fun _=>?_) (fun _=>?_)
   ·walk_at "rd"
    refine ⟨m,rfl,by omega,by omega,fun l2 hn=>?_⟩
    rw [Int.toNat_natCast]
    refine compW_range (fun i=>.int (bs.getD (((0:Int)+(i:Nat))%(1+z1%4)).toNat 0)) (by omega) hn (fun i o H' Q' hi s2 q=>?_) (fun H' s2 e2=>?_)
    ·walk_at "rd"
     refine rd_ixL (SqL.of (s2 _ _ (s1 _ _ ha))) I1 ?_
     walk_at "rd"
     refine rd_I (by decide) ?_
     walk_at "rd"
     have p1:0<1+z1%4:=by omega
     refine rd_I p1 ?_
     walk_at "rd"
     have q0:=Int.emod_nonneg ((0:Int)+(i:Nat)) (by omega:1+z1%4≠0)
     have q1:((0:Int)+(i:Nat))%(1+z1%4)≤(0:Int)+(i:Nat):=emod_le (by omega) (by omega)
     refine rd_ixL (SqL.of (s2 _ _ e1)) (atI_ints q0 (by omega)) ?_
     exact q H' (Same.refl _)
    ·walk_at "rd"
     refine k l2 ((List.range m).map fun i=>bs.getD (((0:Int)+(i:Nat))%(1+z1%4)).toNat 0) H' (s1.trans s2) (s1.free hn) (by rw [e2,List.map_map]; rfl) (by rw [List.length_map,List.length_range]) fun z hz=>?_
     obtain ⟨i,hi,rfl⟩:=List.mem_map.mp hz
     have hi:=List.mem_range.mp hi
     have q0:=Int.emod_nonneg ((0:Int)+(i:Nat)) (by omega:1+z1%4≠0)
     have q1:((0:Int)+(i:Nat))%(1+z1%4)≤(0:Int)+(i:Nat):=emod_le (by omega) (by omega)
     exact hb _ (L2.getD_mem (by omega))
   ·walk_at "rd"
    exact k l bs H1 s1 n1 e1 lb hb
  ·walk_at "rd"
   refine ⟨_,m,rfl,hm,fun l bs H1 s1 n1 e1 lb hb=>?_⟩
   walk_at "rd"
   refine rd_ixL (SqL.of (s1 _ _ ha)) I3 ?_
   walk_at "rd"
   refine rd_I (by decide) ?_
   walk_at "rd"
   refine ite2 (fun _=>?_) (fun _=>?_)
   ·walk_at "rd"
    refine ⟨m,rfl,by omega,by omega,fun l2 hn=>?_⟩
    rw [Int.toNat_natCast]
    refine compW_range (fun i=>.int (bs.getD (((0:Int)+(i:Nat))%(1+z1%4)).toNat 0)) (by omega) hn (fun i o H' Q' hi s2 q=>?_) (fun H' s2 e2=>?_)
    ·walk_at "rd"
     refine rd_ixL (SqL.of (s2 _ _ (s1 _ _ ha))) I1 ?_
     walk_at "rd"
     refine rd_I (by decide) ?_
     walk_at "rd"
     have p1:0<1+z1%4:=by omega
     refine rd_I p1 ?_
     walk_at "rd"
     have q0:=Int.emod_nonneg ((0:Int)+(i:Nat)) (by omega:1+z1%4≠0)
     have q1:((0:Int)+(i:Nat))%(1+z1%4)≤(0:Int)+(i:Nat):=emod_le (by omega) (by omega)
     refine rd_ixL (SqL.of (s2 _ _ e1)) (atI_ints q0 (by omega)) ?_
     exact q H' (Same.refl _)
    ·walk_at "rd"
     refine k l2 ((List.range m).map fun i=>bs.getD (((0:Int)+(i:Nat))%(1+z1%4)).toNat 0) H' (s1.trans s2) (s1.free hn) (by rw [e2,List.map_map]; rfl) (by rw [List.length_map,List.length_range]) fun z hz=>?_
     obtain ⟨i,hi,rfl⟩:=List.mem_map.mp hz
     have hi:=List.mem_range.mp hi
     have q0:=Int.emod_nonneg ((0:Int)+(i:Nat)) (by omega:1+z1%4≠0)
     have q1:((0:Int)+(i:Nat))%(1+z1%4)≤(0:Int)+(i:Nat):=emod_le (by omega) (by omega)
     exact hb _ (L2.getD_mem (by omega))
   ·walk_at "rd"
    exact k l bs H1 s1 n1 e1 lb hb
end
section
variable {P:Program} {w:World} {K:PySem.W.Frag} {mg:Str→Option Value} {base:Heap} {t:Ad}
def Scal (d:PyData):Prop:=(∃ i,d=.int i)∨(∃ b,d=.bool b)∨d=.none∨∃ x,d=.str x∧PyData.strOk x=true
def OkS (S:PyData→Prop) (d:PyData):Prop:=Scal d∨(∃ ds,d=.list ds∧ds.length≤1000∧∀ e∈ds,S e)∨∃ ds,d=.tuple ds∧ds.length≤1000∧∀ e∈ds,S e
def sp_same (S:PyData→Prop):Sp:=fun vs H Q _=>∃ (x y:V) (d:PyData),vs=[x,y]∧S d∧Rep H d x∧Rep H d y∧∀ H',Same H H'→Q (.bl true) H'
theorem same_step {S:PyData→Prop} {n:Nat} (T:Txt K mg t) (G_Lsame:FnOk P w K mg base CX0 n t.f_Lsame t.d_Lsame ["_law_told_here","_law_due"] (sp_same S)):FnOk P w K mg base CX0 (n+1) t.f_Lsame t.d_Lsame ["_law_told_here","_law_due"] (sp_same (OkS S)):=by
 refine T.F_Lsame.ok sc_Lsame (fun vs H Q E h=>?_) (fun cdv A outer s H vs Q E hr h=>?_)
 ·obtain ⟨x,y,d,rfl,_⟩:=h; rfl
 ·obtain ⟨x,y,d,rfl,ok,rx,ry,k⟩:=h
  refine cutC (ps_if (PW.pt (pw_or (pt_cmpR op_ne (pe_callB (cI_isinstK K rfl) rfl T.no_isinstance (by rfl) (pa_cons (pv 0) (pa_cons (pe_bltn (v:=.ty "bool") rfl T.no_bool (by rfl:bootBuiltins "bool"=some (.type "bool")) rfl) pa_nil))) (pe_callB (cI_isinstK K rfl) rfl T.no_isinstance (by rfl) (pa_cons (pv 1) (pa_cons (pe_bltn (v:=.ty "bool") rfl T.no_bool (by rfl:bootBuiltins "bool"=some (.type "bool")) rfl) pa_nil))) (nomark _)) (pw_or1 (pt_cmpR op_ne (pe_callB (cI_isinstK K rfl) rfl T.no_isinstance (by rfl) (pa_cons (pv 0) (pa_cons (pe_bltn (v:=.ty "int") rfl T.no_int (by rfl:bootBuiltins "int"=some (.type "int")) rfl) pa_nil))) (pe_callB (cI_isinstK K rfl) rfl T.no_isinstance (by rfl) (pa_cons (pv 1) (pa_cons (pe_bltn (v:=.ty "int") rfl T.no_int (by rfl:bootBuiltins "int"=some (.type "int")) rfl) pa_nil))) (nomark _))))) (pss_one (ps_ret pe_bl)) pss_nil) fun _ _=>cutC (ps_if (PW.pt (pw_or (pt_cmpR op_ne (pe_callB (cI_isinstK K rfl) rfl T.no_isinstance (by rfl) (pa_cons (pv 0) (pa_cons (pe_bltn (v:=.ty "list") rfl T.no_list (by rfl:bootBuiltins "list"=some (.type "list")) rfl) pa_nil))) (pe_callB (cI_isinstK K rfl) rfl T.no_isinstance (by rfl) (pa_cons (pv 1) (pa_cons (pe_bltn (v:=.ty "list") rfl T.no_list (by rfl:bootBuiltins "list"=some (.type "list")) rfl) pa_nil))) (nomark _)) (pw_or1 (pt_cmpR op_ne (pe_callB (cI_isinstK K rfl) rfl T.no_isinstance (by rfl) (pa_cons (pv 0) (pa_cons (pe_bltn (v:=.ty "tuple") rfl T.no_tuple (by rfl:bootBuiltins "tuple"=some (.type "tuple")) rfl) pa_nil))) (pe_callB (cI_isinstK K rfl) rfl T.no_isinstance (by rfl) (pa_cons (pv 1) (pa_cons (pe_bltn (v:=.ty "tuple") rfl T.no_tuple (by rfl:bootBuiltins "tuple"=some (.type "tuple")) rfl) pa_nil))) (nomark _))))) (pss_one (ps_ret pe_bl)) pss_nil) fun _ _=>cutC (ps_if (PW.pt (pw_and (pt_not (pt_val (pe_callB (cI_isinstK K rfl) rfl T.no_isinstance (by rfl) (pa_cons (pv 1) (pa_cons (pe_bltn (v:=.ty "list") rfl T.no_list (by rfl:bootBuiltins "list"=some (.type "list")) rfl) pa_nil))))) (pw_and1 (pt_not (pt_val (pe_callB (cI_isinstK K rfl) rfl T.no_isinstance (by rfl) (pa_cons (pv 1) (pa_cons (pe_bltn (v:=.ty "tuple") rfl T.no_tuple (by rfl:bootBuiltins "tuple"=some (.type "tuple")) rfl) pa_nil)))))))) (pss_one (ps_ret (pe_and (pe_cmpR op_eq (pe_callB (cI_isinstK K rfl) rfl T.no_isinstance (by rfl) (pa_cons (pv 0) (pa_cons (pe_bltn (v:=.ty "str") rfl T.no_str (by rfl:bootBuiltins "str"=some (.type "str")) rfl) pa_nil))) (pe_callB (cI_isinstK K rfl) rfl T.no_isinstance (by rfl) (pa_cons (pv 1) (pa_cons (pe_bltn (v:=.ty "str") rfl T.no_str (by rfl:bootBuiltins "str"=some (.type "str")) rfl) pa_nil))) (nomark _)) (pe_one (pe_cmpR (op_eqD hr.units) (pv 0) (pv 1) (nomark _)))))) pss_nil) fun _ _=>cutE (ps_ret (pe_and (pe_cmpR op_eq (pe_callB (cI_lenK K rfl) rfl T.no_len (by rfl) (pa_cons (pv 0) pa_nil)) (pe_callB (cI_lenK K rfl) rfl T.no_len (by rfl) (pa_cons (pv 1) pa_nil)) (nomark _)) (pe_one (pe_callB (cI_allK K rfl rfl) rfl T.no_all (by rfl) (pa_cons (pe_comp (N:=["_law_one","_law_other"]) (cap:=[none,none]) rfl ⟨rfl,rfl,rfl,rfl,rfl,rfl⟩ (pi_zipS rfl T.no_zip (pa_cons (pv 0) (pa_cons (pv 1) pa_nil))) (fun _ _ _=>(pg_tupK (n:=2) K rfl rfl (pgs_cons (pg_name (i:=0) (show (["_law_one","_law_other"]:List Str).Nodup by decide +kernel) rfl (Or.inl rfl)) (pgs_cons (pg_name (i:=1) (show (["_law_one","_law_other"]:List Str).Nodup by decide +kernel) rfl (Or.inl rfl)) pgs_nil)))) (fun _ _ _=>pts_nil) (fun _ _ _=>(pe_call G_Lsame (hr.mono (by first | decide | omega)) rfl T.mg_Lsame T.F_Lsame.kp T.b_Lsame .nil pass0 (pa_cons (pv 0) (pa_cons (pv 1) pa_nil))))) pa_nil))))) fun _ _=>?_
  walk_at "rd"
  refine rd_isi rx.ty (kit_bool d) ?_
  walk_at "rd"
  refine rd_isi ry.ty (kit_bool d) ?_
  walk_at "rd"
  rw [decide_eq_true rfl]
  walk_at "rd"
  refine rd_isi rx.ty (kit_int d) ?_
  walk_at "rd"
  refine rd_isi ry.ty (kit_int d) ?_
  walk_at "rd"
  rw [decide_eq_true rfl]
  walk_at "rd"
  refine rd_isi rx.ty (kit_list d) ?_
  walk_at "rd"
  refine rd_isi ry.ty (kit_list d) ?_
  walk_at "rd"
  rw [decide_eq_true rfl]
  walk_at "rd"
  refine rd_isi rx.ty (kit_tuple d) ?_
  walk_at "rd"
  refine rd_isi ry.ty (kit_tuple d) ?_
  walk_at "rd"
  rw [decide_eq_true rfl]
  walk_at "rd"
  refine rd_isi ry.ty (kit_list d) ?_
  walk_at "rd"
  rcases ok with sc | ⟨ds,rfl,hl,hS⟩ | ⟨ds,rfl,hl,hS⟩
  ·have e1:isD "list" d=false:=by rcases sc with ⟨i,rfl⟩ | ⟨b,rfl⟩ | rfl | ⟨x,rfl,hx⟩<;>simp [isD]
   have e2:isD "tuple" d=false:=by rcases sc with ⟨i,rfl⟩ | ⟨b,rfl⟩ | rfl | ⟨x,rfl,hx⟩<;>simp [isD]
   rw [e1]
   walk_at "rd"
   refine rd_isi ry.ty (kit_tuple d) ?_
   rw [e2]
   walk_at "rd"
   refine rd_isi rx.ty (kit_str d) ?_
   walk_at "rd"
   refine rd_isi ry.ty (kit_str d) ?_
   walk_at "rd"
   rw [decide_eq_true rfl]
   walk_at "rd"
   have sd:SeqAt.shaped d=true:=by rcases sc with ⟨i,rfl⟩ | ⟨b,rfl⟩ | rfl | ⟨x,rfl,hx⟩<;>first | rfl | simp [SeqAt.shaped,PyData.canLay0,PyData.depth,hx]
   refine ⟨d,d,rx,ry,sd,sd,?_⟩
   have e3:PyData.eqv d d=true:=by rcases sc with ⟨i,rfl⟩ | ⟨b,rfl⟩ | rfl | ⟨x,rfl,hx⟩<;>simp [PyData.eqv]
   rw [e3]
   exact k _ (Same.refl _)
  ·have e1:isD "list" (.list ds)=true:=by simp [isD]
   rw [e1]
   simp only [Rep] at rx ry
   obtain ⟨a,xs,rfl,ha,ra⟩:=rx
   obtain ⟨b,ys,rfl,hb,rb⟩:=ry
   obtain ⟨l1,g1⟩:=repL_get ra
   obtain ⟨l2,g2⟩:=repL_get rb
   walk_at "rd"
   refine rd_lenL ha ?_
   walk_at "rd"
   refine rd_lenL hb ?_
   walk_at "rd"
   rw [decide_eq_true (by omega:(xs.length:Int)=ys.length)]
   walk_at "rd"
   refine ⟨a,b,rfl,.inl ⟨⟨_,SqL.of ha⟩,⟨_,SqL.of hb⟩,fun l hn=>?_⟩⟩
   refine compW_zip (fun _=>.bl true) ha hb (by omega) (by omega) hn (fun i x y H' Q' ex ey s1 q=>?_) (fun H' s1 e=>?_)
   ·walk_at "rd"
    obtain ⟨d,hd,rd⟩:=g1 i x ex
    obtain ⟨d',hd',rd'⟩:=g2 i y ey
    rw [hd] at hd'
    cases hd'
    exact ⟨x,y,d,rfl,hS d (List.mem_of_getElem? hd),rd.mono s1,rd'.mono s1,q⟩
   ·walk_at "rd"
    have e':H' l=some (.lst (((List.range xs.length).map fun _=>true).map V.bl)):=by rw [e,List.map_map]; rfl
    refine rd_all e' ?_
    have e4:((List.range xs.length).map fun _=>true).all id=true:=by simp
    rw [e4]
    exact k H' s1
  ·have e1:isD "list" (.tuple ds)=false:=by simp [isD]
   have e2:isD "tuple" (.tuple ds)=true:=by simp [isD]
   rw [e1]
   walk_at "rd"
   refine rd_isi ry.ty (kit_tuple _) ?_
   rw [e2]
   simp only [Rep] at rx ry
   obtain ⟨a,xs,rfl,ha,ra⟩:=rx
   obtain ⟨b,ys,rfl,hb,rb⟩:=ry
   obtain ⟨l1,g1⟩:=repL_get ra
   obtain ⟨l2,g2⟩:=repL_get rb
   walk_at "rd"
   refine rd_lenT ha ?_
   walk_at "rd"
   refine rd_lenT hb ?_
   walk_at "rd"
   rw [decide_eq_true (by omega:(xs.length:Int)=ys.length)]
   walk_at "rd"
   refine ⟨a,b,rfl,.inr ⟨⟨_,SqT.of ha⟩,⟨_,SqT.of hb⟩,fun l hn=>?_⟩⟩
   refine compW_zipT (fun _=>.bl true) ha hb (by omega) (by omega) hn (fun i x y H' Q' ex ey s1 q=>?_) (fun H' s1 e=>?_)
   ·walk_at "rd"
    obtain ⟨d,hd,rd⟩:=g1 i x ex
    obtain ⟨d',hd',rd'⟩:=g2 i y ey
    rw [hd] at hd'
    cases hd'
    exact ⟨x,y,d,rfl,hS d (List.mem_of_getElem? hd),rd.mono s1,rd'.mono s1,q⟩
   ·walk_at "rd"
    have e':H' l=some (.lst (((List.range xs.length).map fun _=>true).map V.bl)):=by rw [e,List.map_map]; rfl
    refine rd_all e' ?_
    have e4:((List.range xs.length).map fun _=>true).all id=true:=by simp
    rw [e4]
    exact k H' s1
def Ok3:PyData→Prop:=OkS (OkS (OkS fun _=>False))
theorem ok_Lsame (T:Txt K mg t):FnOk P w K mg base CX0 3 t.f_Lsame t.d_Lsame ["_law_told_here","_law_due"] (sp_same Ok3) :=
 same_step T (same_step T (same_step T ⟨fun vs H Q E h=>(by obtain ⟨_,_,_,_,h,_⟩:=h; exact h.elim),fun A outer s H args us vs Q E _ _ _ _ h=>(by obtain ⟨_,_,_,_,h,_⟩:=h; exact h.elim)⟩))
theorem okS_int {S:PyData→Prop} (i:Int):OkS S (.int i):=.inl (.inl ⟨i,rfl⟩)
theorem okS_str {S:PyData→Prop} {x:Str} (h:PyData.strOk x=true):OkS S (.str x):=.inl (.inr (.inr (.inr ⟨x,rfl,h⟩)))
theorem okS_ints {S:PyData→Prop} {ns:List Int} (h:ns.length≤1000):OkS (OkS S) (.list (ns.map PyData.int)) :=
 .inr (.inl ⟨_,rfl,by rw [List.length_map]; exact h,fun e he=>by obtain ⟨i,_,rfl⟩:=List.mem_map.mp he; exact okS_int i⟩)
end
theorem colr_bit (s:Int) (cs rs:List Int) (x y:Int):colr s cs rs x y=0∨colr s cs rs x y=1:=by unfold colr; omega
section
variable {P:Program} {w:World} {K:PySem.W.Frag} {mg:Str→Option Value} {base:Heap} {t:Ad}
def shl (bs:List Int) (n:Int):List Int:=bs.map fun b=>(b+n)%2
theorem shl_len (bs:List Int) (n:Int):(shl bs n).length=bs.length:=by unfold shl; rw [List.length_map]
theorem shl_bits {bs:List Int} (h:Bits bs) (n:Int):Bits (shl bs n):=⟨by rw [shl_len]; exact h.1,fun z hz=>by
 unfold shl at hz
 obtain ⟨b,_,rfl⟩:=List.mem_map.mp hz
 omega⟩
theorem shl_get {bs:List Int} {n:Int} {k:Nat} (h:k<bs.length):(shl bs n).getD k 0=(bs.getD k 0+n)%2:=by
 unfold shl
 rw [List.getD_eq_getElem?_getD,List.getD_eq_getElem?_getD,List.getElem?_map,List.getElem?_eq_getElem h]
 rfl
def sp_shifted:Sp:=fun vs H Q _=>∃ (a:Addr) (n:Int) (bs:List Int),vs=[.ref a,.int n]∧H a=some (.lst (bs.map V.int))∧bs.length≤1000∧∀ l H',Same H H'→H l=none→H' l=some (.lst ((shl bs n).map V.int))→Q (.ref l) H'
theorem ok_shifted (T:Txt K mg t):FnOk P w K mg base CX0 1 t.f_shifted t.d_shifted ["bits","steps"] sp_shifted:=by
 refine T.F_shifted.ok sc_shifted (fun vs H Q E h=>?_) (fun cdv A outer s H vs Q E hr h=>?_)
 ·obtain ⟨a,n,bs,rfl,_⟩:=h; rfl
 ·obtain ⟨a,n,bs,rfl,ha,hl,k⟩:=h
  refine ⟨_,(pss_one (ps_ret (pe_comp (N:=["bit","steps"]) (cap:=[none,some 1]) rfl ⟨rfl,rfl,rfl,rfl,rfl,rfl⟩ (pi_list (pv 0)) (fun _ _ _=>(pg_name (i:=0) (show (["bit","steps"]:List Str).Nodup by decide +kernel) rfl (Or.inl rfl))) (fun _ _ _=>pts_nil) (fun _ _ _=>(pe_op op_mod (pe_op op_add (pv 0) (pv 1)) pe_int))))),?_⟩
  walk_at "rd"
  refine ⟨⟨_,SqL.of ha⟩,fun l hn=>?_⟩
  refine compW_list (fun v=>match v with | .int i=>.int ((i+n)%2) | _=>.non) (SqL.of ha) (by rw [List.length_map]; exact hl) hn (fun x o H' Q' hx s1 q=>?_) (fun H' s1 e=>?_)
  ·obtain ⟨i,_,rfl⟩:=List.mem_map.mp hx
   walk_at "rd"
   refine rd_I (by decide) ?_
   exact q H' (Same.refl _)
  ·walk_at "rd"
   exact k l H' s1 hn (by rw [e,List.map_map]; unfold shl; rw [List.map_map]; rfl)
def sp_transposed (C:Addr):Sp:=fun vs H Q _=>∃ (p:Addr) (s:Int) (cs rs:List Int),vs=[.ref p]∧ClothAt C H p s cs rs∧(s=0∨s=1)∧Bits cs∧Bits rs∧∀ x H',Same H H'→ClothAt C H' x s rs cs→Q (.ref x) H'
theorem ok_transposed (T:Txt K mg t):FnOk P w K mg base CX0 8 t.f_transposed t.d_transposed ["cloth"] (sp_transposed t.a_Cloth):=by
 have G_ClothInit:=ok_ClothInit (P:=P) (w:=w) (base:=base) T
 have G_Clothshade:=ok_Clothshade (P:=P) (w:=w) (base:=base) T
 have G_Clothcols:=ok_Clothcols (P:=P) (w:=w) (base:=base) T
 have G_Clothrows:=ok_Clothrows (P:=P) (w:=w) (base:=base) T
 refine T.F_transposed.ok sc_transposed (fun vs H Q E h=>?_) (fun cdv A outer s H vs Q E hr h=>?_)
 ·obtain ⟨p,s,cs,rs,rfl,_⟩:=h; rfl
 ·obtain ⟨p,s,cs,rs,rfl,hc,sh,bc,br,k⟩:=h
  obtain ⟨dx,a,b,e1,e2,e3⟩:=hc.ob
  have nl:∀ {w h:Int} {m:Str},NoF m→(cfl s a b w h).lookup m=none:=fun x=>cfl_no _ _ _ x
  refine ⟨_,(pss_one (ps_ret (pe_make T.mk_Cloth G_ClothInit (hr.mono (by first | decide | omega)) rfl T.mg_Cloth T.b_ClothInit .nil pass0 (pa_cons (pe_meth0 (pv 0) T.cl_Cloth T.m_Clothshade G_Clothshade (hr.mono (by first | decide | omega)) T.b_Clothshade .nil pass0) (pa_cons (pe_meth0 (pv 0) T.cl_Cloth T.m_Clothrows G_Clothrows (hr.mono (by first | decide | omega)) T.b_Clothrows .nil pass0) (pa_cons (pe_meth0 (pv 0) T.cl_Cloth T.m_Clothcols G_Clothcols (hr.mono (by first | decide | omega)) T.b_Clothcols .nil pass0) pa_nil)))))),?_⟩
  walk_at "rd"
  refine rd_methv e1 (nl (by decide +kernel)) ?_
  walk_at "rd"
  refine ⟨p,s,cs,rs,rfl,hc,?_⟩
  walk_at "rd"
  refine rd_methv e1 (nl (by decide +kernel)) ?_
  walk_at "rd"
  refine ⟨p,s,cs,rs,rfl,hc,fun l1 n1=>?_⟩
  have s1:=Same.new (o:=HO.lst (rs.map V.int)) n1
  walk_at "rd"
  refine rd_methv (s1 _ _ e1) (nl (by decide +kernel)) ?_
  walk_at "rd"
  refine ⟨p,s,cs,rs,rfl,hc.mono s1,fun l2 n2=>?_⟩
  have s2:=Same.new (o:=HO.lst (cs.map V.int)) n2
  walk_at "rd"
  intro x dx nx ndx nex
  have s12:=s1.trans s2
  have h1:=s2 _ _ (upd_same (H:=H) (a:=l1) (o:=HO.lst (rs.map V.int)))
  have h2:=upd_same (H:=upd H l1 (HO.lst (rs.map V.int))) (a:=l2) (o:=HO.lst (cs.map V.int))
  generalize upd (upd H l1 (HO.lst (rs.map V.int))) l2 (HO.lst (cs.map V.int))=H3 at h1 h2 s12 nx ndx ⊢
  have s3:Same H3 (upd (upd H3 dx (.own x)) x (.ins t.a_Cloth dx [])):=(Same.new ndx).later nx
  refine ⟨x,dx,l1,l2,s,rs,cs,rfl,upd_same,s3 _ _ h1,s3 _ _ h2,sh,br,bc,fun H4 kp hC=>⟨rfl,?_⟩⟩
  exact k x H4 (fun b o e=>kp b o (s3 b o (s12 b o e)) (ne_of_none (s12 b o e) nx)) hC
theorem made_at {C p dx c r:Addr} {H1 H4:Hp} (nx:H1 p=none) (ndx:H1 dx=none) (kp:∀ b o,upd (upd H1 dx (.own p)) p (.ins C dx []) b=some o→b≠p→H4 b=some o):Same H1 H4:=fun b o e =>
 kp b o (((Same.new ndx).later nx) b o e) (ne_of_none e nx)
theorem bits_take {bs:List Int} (h:Bits bs) (n:Nat):Bits (bs.take n):=⟨by rw [List.length_take]; have:=h.1; omega,fun z hz=>h.2 z (List.mem_of_mem_take hz)⟩
theorem bits_drop {bs:List Int} (h:Bits bs) (n:Nat):Bits (bs.drop n):=⟨by rw [List.length_drop]; have:=h.1; omega,fun z hz=>h.2 z (List.mem_of_mem_drop hz)⟩
theorem bit_of {bs:List Int} (h:Bits bs) {k:Nat} (hk:k<bs.length):bs.getD k 0=0∨bs.getD k 0=1:=h.2 _ (L2.getD_mem hk)
end
section
variable {P:Program} {w:World} {K:PySem.W.Frag} {mg:Str→Option Value} {base:Heap} {t:Ad}
def Way2 (w:Str) (cs rs bs cs' rs':List Int):Prop:=(w="col"∧cs'=bs∧rs'=rs)∨(w="row"∧cs'=cs∧rs'=bs)
def spx_withbits (C BS:Addr):Sp:=fun vs H Q E=>∃ (p l:Addr) (wy:Str) (s:Int) (cs rs bs cs' rs':List Int),vs=[.ref p,.str wy,.ref l]∧ClothAt C H p s cs rs∧(s=0∨s=1)∧Bits cs∧Bits rs∧H l=some (.lst (bs.map V.int))∧bs.length≤1000∧(∀ z∈bs,z=0∨z=1)∧Way2 wy cs rs bs cs' rs' ∧
 ((bs.length≤39∧∀ x H',Same H H'→ClothAt C H' x s cs' rs'→Q (.ref x) H')∨(¬ bs.length≤39∧∀ H',Same H H'→E (.ref BS) none H'))
theorem okx_withbits (T:Txt K mg t):FnOk P w K mg base (CX1 P w) 8 t.f_withbits t.d_withbits ["cloth","way","bits"] (spx_withbits t.a_Cloth t.a_BadSize):=by
 have GX_ClothInit:=okx_ClothInit (P:=P) (w:=w) (base:=base) T
 have G_Clothshade:=ok_Clothshade (P:=P) (w:=w) (base:=base) T
 have G_Clothcols:=ok_Clothcols (P:=P) (w:=w) (base:=base) T
 have G_Clothrows:=ok_Clothrows (P:=P) (w:=w) (base:=base) T
 refine T.F_withbits.ok1 sc_withbits (fun vs H Q E h=>?_) (fun cdv A outer s H vs Q E hr h=>?_)
 ·obtain ⟨p,l,wy,s,cs,rs,bs,cs',rs',rfl,_⟩:=h; rfl
 ·obtain ⟨p,l,wy,s,cs,rs,bs,cs',rs',rfl,hc,sh,bc,br,hl,lb,bb,hw,z⟩:=h
  obtain ⟨dx,a,b,e1,e2,e3⟩:=hc.ob
  have nl:∀ {w h:Int} {m:Str},NoF m→(cfl s a b w h).lookup m=none:=fun x=>cfl_no _ _ _ x
  have ab:bs.all isBit=true:=by
   rw [List.all_eq_true]
   intro z hz
   rcases bb z hz with rfl | rfl<;>rfl
  have sb:isBit s=true:=by rcases sh with rfl | rfl<;>rfl
  have lc:=bc.1
  have lr:=br.1
  refine ⟨_,(pss_cons (ps_if (pt_cmpR op_eq (pv 1) pe_str (nomark _)) (pss_one (ps_ret (pe_make T.mk_Cloth GX_ClothInit (hr.mono (by first | decide | omega)) rfl T.mg_Cloth T.b_ClothInit .nil pass1 (pa_cons (pe_meth0 (pv 0) T.cl_Cloth T.m_Clothshade G_Clothshade.up (hr.mono (by first | decide | omega)) T.b_Clothshade .nil pass1) (pa_cons (pv 2) (pa_cons (pe_meth0 (pv 0) T.cl_Cloth T.m_Clothrows G_Clothrows.up (hr.mono (by first | decide | omega)) T.b_Clothrows .nil pass1) pa_nil)))))) pss_nil) (pss_one (ps_ret (pe_make T.mk_Cloth GX_ClothInit (hr.mono (by first | decide | omega)) rfl T.mg_Cloth T.b_ClothInit .nil pass1 (pa_cons (pe_meth0 (pv 0) T.cl_Cloth T.m_Clothshade G_Clothshade.up (hr.mono (by first | decide | omega)) T.b_Clothshade .nil pass1) (pa_cons (pe_meth0 (pv 0) T.cl_Cloth T.m_Clothcols G_Clothcols.up (hr.mono (by first | decide | omega)) T.b_Clothcols .nil pass1) (pa_cons (pv 2) pa_nil))))))),?_⟩
  walk_at "rd"
  rcases hw with ⟨rfl,rfl,rfl⟩ | ⟨rfl,rfl,rfl⟩
  ·rw [decide_eq_true (rfl:("col":Str)="col")]
   walk_at "rd"
   refine rd_methv e1 (nl (by decide +kernel)) ?_
   walk_at "rd"
   refine ⟨p,s,cs,_,rfl,hc,?_⟩
   walk_at "rd"
   refine rd_methv e1 (nl (by decide +kernel)) ?_
   walk_at "rd"
   refine ⟨p,s,cs,_,rfl,hc,fun l1 n1=>?_⟩
   have s1:=Same.new (o:=HO.lst (rs'.map V.int)) n1
   have q1:=upd_same (H:=H) (a:=l1) (o:=HO.lst (rs'.map V.int))
   generalize upd H l1 (HO.lst (rs'.map V.int))=H1 at s1 q1 ⊢
   walk_at "rd"
   intro x dxx nx ndx nex
   have sM:Same H1 (upd (upd H1 dxx (.own x)) x (.ins t.a_Cloth dxx [])):=(Same.new ndx).later nx
   refine ⟨x,dxx,l,l1,s,cs',rs',rfl,upd_same,sM _ _ (s1 _ _ hl),sM _ _ q1,lb,by omega,?_⟩
   rcases z with ⟨l39,z⟩ | ⟨l39,z⟩
   ·refine .inr (.inr ⟨⟨l39,lr⟩,by unfold bitsOk; rw [sb,ab,br.all]; rfl,fun H4 kp hC=>⟨rfl,?_⟩⟩)
    exact z x H4 (s1.trans (made_at (c:=0) (r:=0) nx ndx kp)) hC
   ·exact .inl ⟨fun q=>l39 q.1,z _ (s1.trans sM)⟩
  ·rw [decide_eq_false rc_ne]
   walk_at "rd"
   refine rd_methv e1 (nl (by decide +kernel)) ?_
   walk_at "rd"
   refine ⟨p,s,_,rs,rfl,hc,?_⟩
   walk_at "rd"
   refine rd_methv e1 (nl (by decide +kernel)) ?_
   walk_at "rd"
   refine ⟨p,s,_,rs,rfl,hc,fun l1 n1=>?_⟩
   have s1:=Same.new (o:=HO.lst (cs'.map V.int)) n1
   have q1:=upd_same (H:=H) (a:=l1) (o:=HO.lst (cs'.map V.int))
   generalize upd H l1 (HO.lst (cs'.map V.int))=H1 at s1 q1 ⊢
   walk_at "rd"
   intro x dxx nx ndx nex
   have sM:Same H1 (upd (upd H1 dxx (.own x)) x (.ins t.a_Cloth dxx [])):=(Same.new ndx).later nx
   refine ⟨x,dxx,l1,l,s,cs',rs',rfl,upd_same,sM _ _ q1,sM _ _ (s1 _ _ hl),by omega,lb,?_⟩
   rcases z with ⟨l39,z⟩ | ⟨l39,z⟩
   ·refine .inr (.inr ⟨⟨lc,l39⟩,by unfold bitsOk; rw [sb,ab,bc.all]; rfl,fun H4 kp hC=>⟨rfl,?_⟩⟩)
    exact z x H4 (s1.trans (made_at (c:=0) (r:=0) nx ndx kp)) hC
   ·exact .inl ⟨fun q=>l39 q.2,z _ (s1.trans sM)⟩
theorem Way2.of {w:Str} {cs rs bs:List Int} (h:IsWay w cs rs bs) (ns:List Int):∃ cs' rs',Way2 w cs rs ns cs' rs':=by
 rcases h with ⟨rfl,_⟩ | ⟨rfl,_⟩
 ·exact ⟨ns,rs,.inl ⟨rfl,rfl,rfl⟩⟩
 ·exact ⟨cs,ns,.inr ⟨rfl,rfl,rfl⟩⟩
theorem IsWay.bits {w:Str} {cs rs bs:List Int} (h:IsWay w cs rs bs) (bc:Bits cs) (br:Bits rs):Bits bs:=by
 rcases h with ⟨_,rfl⟩ | ⟨_,rfl⟩
 ·exact bc
 ·exact br
def flip (bs:List Int) (k:Nat):List Int:=bs.set k (1 - bs.getD k 0)
theorem flip_bits {bs:List Int} {k:Nat} (h:Bits bs) (hk:k<bs.length):Bits (flip bs k):=by
 unfold flip
 refine ⟨by rw [List.length_set]; exact h.1,fun z hz=>?_⟩
 rcases List.mem_or_eq_of_mem_set hz with q | rfl
 ·exact h.2 z q
 ·rcases bit_of h hk with q | q<;>rw [q]<;>decide
def spx_turned (C NL:Addr):Sp:=fun vs H Q E=>∃ (p:Addr) (wy:Str) (k s:Int) (cs rs:List Int),vs=[.ref p,.str wy,.int k]∧ClothAt C H p s cs rs∧(s=0∨s=1)∧Bits cs∧Bits rs ∧
 ((∃ bs cs' rs',IsWay wy cs rs bs∧0≤k∧k<bs.length∧Way2 wy cs rs (flip bs k.toNat) cs' rs'∧∀ x H',Same H H'→ClothAt C H' x s cs' rs'→Q (.ref x) H')∨(NoLn wy k cs rs∧E (.ref NL) none H))
theorem okx_turned (T:Txt K mg t):FnOk P w K mg base (CX1 P w) 9 t.f_turned t.d_turned ["cloth","way","k"] (spx_turned t.a_Cloth t.a_NoLine):=by
 have GX_Clothbit:=okx_Clothbit (P:=P) (w:=w) (base:=base) T
 have GX_Clothbitsalong:=okx_Clothbitsalong (P:=P) (w:=w) (base:=base) T
 have GX_withbits:=okx_withbits (P:=P) (w:=w) (base:=base) T
 refine T.F_turned.ok1 sc_turned (fun vs H Q E h=>?_) (fun cdv A outer s H vs Q E hr h=>?_)
 ·obtain ⟨p,wy,k,s,cs,rs,rfl,_⟩:=h; rfl
 ·obtain ⟨p,wy,k,s,cs,rs,rfl,hc,sh,bc,br,h⟩:=h
  obtain ⟨dx,a,b,e1,e2,e3⟩:=hc.ob
  have nl:∀ {w h:Int} {m:Str},NoF m→(cfl s a b w h).lookup m=none:=fun x=>cfl_no _ _ _ x
  refine cutC (ps_set (i:=3) sc_turned.nd rfl (Or.inl rfl) (pe_op op_sub pe_int (pe_meth (pv 0) T.cl_Cloth T.m_Clothbit GX_Clothbit (hr.mono (by first | decide | omega)) T.b_Clothbit .nil pass1 (pa_cons (pv 1) (pa_cons (pv 2) pa_nil))))) fun _ _=>cutC (ps_set (i:=4) sc_turned.nd rfl (Or.inl rfl) (pe_callTy (cI_listK K rfl) rfl T.no_list (by rfl) (pa_cons (pe_meth (pv 0) T.cl_Cloth T.m_Clothbitsalong GX_Clothbitsalong (hr.mono (by first | decide | omega)) T.b_Clothbitsalong .nil pass1 (pa_cons (pv 1) pa_nil)) pa_nil))) fun _ _=>cutC (ps_asg (pv 3) (pg_sub (pv 4) (pv 2) set_list)) fun _ _=>cutE (ps_ret (pe_call GX_withbits (hr.mono (by first | decide | omega)) rfl T.mg_withbits T.F_withbits.kp T.b_withbits .nil pass1 (pa_cons (pv 0) (pa_cons (pv 1) (pa_cons (pv 4) pa_nil))))) fun _ _=>?_
  walk_at "rd"
  refine rd_methv e1 (nl (by decide +kernel)) ?_
  walk_at "rd"
  rcases h with ⟨bs,cs',rs',hw,h0,h1,w2,z⟩ | ⟨n,q⟩
  ·have bb:=hw.bits bc br
   have lb:=bb.1
   refine ⟨p,wy,k,s,cs,rs,rfl,hc,.inl ⟨bs,hw,h0,h1,?_⟩⟩
   walk_at "rd"
   refine rd_methv e1 (nl (by decide +kernel)) ?_
   walk_at "rd"
   refine ⟨p,wy,s,cs,rs,rfl,hc,.inl ⟨bs,hw,fun ta hta=>?_⟩⟩
   walk_at "rd"
   refine rd_listT hta fun l1 n1=>?_
   have s1:=Same.new (o:=HO.lst (bs.map V.int)) n1
   walk_at "rd"
   have ik:ixN (bs.map V.int).length k=some k.toNat:=by unfold ixN; rw [if_pos h0,List.length_map,if_pos h1]
   refine rd_setl upd_same ik ?_
   walk_at "rd"
   have e4:(bs.map V.int).set k.toNat (V.int (1 - bs.getD k.toNat 0))=(flip bs k.toNat).map V.int:=by unfold flip; rw [List.map_set]
   rw [upd_upd,e4]
   have s2:=Same.new (o:=HO.lst ((flip bs k.toNat).map V.int)) n1
   have fb:=flip_bits (k:=k.toNat) bb (by omega)
   exact ⟨p,l1,wy,s,cs,rs,_,cs',rs',rfl,hc.mono s2,sh,bc,br,upd_same,by have:=fb.1; omega,fb.2,w2,.inl ⟨fb.1,fun x H' s3 hX=>z x H' (s2.trans s3) hX⟩⟩
  ·exact ⟨p,wy,k,s,cs,rs,rfl,hc,.inr ⟨n,q⟩⟩
def putin (bs:List Int) (k:Nat) (b:Int):List Int:=bs.take k++b::bs.drop k
theorem putin_len (bs:List Int) (k:Nat) (b:Int) (h:k≤bs.length):(putin bs k b).length=bs.length+1:=by
 unfold putin
 rw [List.length_append,List.length_take,List.length_cons,List.length_drop]; omega
theorem putin_bit {bs:List Int} {k:Nat} {b:Int} (h:∀ z∈bs,z=0∨z=1) (hb:b=0∨b=1):∀ z∈putin bs k b,z=0∨z=1:=fun z hz=>by
 unfold putin at hz
 rcases List.mem_append.mp hz with q | q
 ·exact h z (List.mem_of_mem_take q)
 ·rcases List.mem_cons.mp q with rfl | q
  ·exact hb
  ·exact h z (List.mem_of_mem_drop q)
def spx_put (C NL BB BS:Addr):Sp:=fun vs H Q E=>∃ (p:Addr) (wy:Str) (k bt s:Int) (cs rs:List Int),vs=[.ref p,.str wy,.int k,.int bt]∧ClothAt C H p s cs rs∧(s=0∨s=1)∧Bits cs∧Bits rs ∧
  (((¬ wy="col"∧¬ wy="row")∧E (.ref NL) none H)∨∃ bs,IsWay wy cs rs bs ∧
    ((¬ (0≤k∧k<(bs.length:Int)+1)∧∀ H',Same H H'→E (.ref NL) none H')∨((0≤k∧k<(bs.length:Int)+1)∧isBit bt=false∧∀ H',Same H H'→E (.ref BB) none H') ∨
     ((0≤k∧k<(bs.length:Int)+1)∧isBit bt=true∧bs.length=39∧∀ H',Same H H'→E (.ref BS) none H') ∨
     ((0≤k∧k<(bs.length:Int)+1)∧isBit bt=true∧bs.length<39∧∃ cs' rs',Way2 wy cs rs (putin bs k.toNat bt) cs' rs'∧∀ x H',Same H H'→ClothAt C H' x s cs' rs'→Q (.ref x) H')))
theorem isBit_or {b:Int} (h:isBit b=true):b=0∨b=1:=by
 unfold isBit at h
 rw [Bool.and_eq_true,decide_eq_true_eq,decide_eq_true_eq] at h
 omega
theorem okx_put (T:Txt K mg t):FnOk P w K mg base (CX1 P w) 9 t.f_put t.d_put ["cloth","way","k","bit"] (spx_put t.a_Cloth t.a_NoLine t.a_BadBit t.a_BadSize):=by
 have GX_Clothbitsalong:=okx_Clothbitsalong (P:=P) (w:=w) (base:=base) T
 have GX_withbits:=okx_withbits (P:=P) (w:=w) (base:=base) T
 have G_isbelow:=ok_isbelow (P:=P) (w:=w) (base:=base) T
 have G_isbit:=ok_isbit (P:=P) (w:=w) (base:=base) T
 refine T.F_put.ok1 sc_put (fun vs H Q E h=>?_) (fun cdv A outer s H vs Q E hr h=>?_)
 ·obtain ⟨p,wy,k,bt,s,cs,rs,rfl,_⟩:=h; rfl
 ·obtain ⟨p,wy,k,bt,s,cs,rs,rfl,hc,sh,bc,br,h⟩:=h
  obtain ⟨dx,a,b,e1,e2,e3⟩:=hc.ob
  have nl:∀ {w h:Int} {m:Str},NoF m→(cfl s a b w h).lookup m=none:=fun x=>cfl_no _ _ _ x
  refine cutC (ps_set (i:=4) sc_put.nd rfl (Or.inl rfl) (pe_callTy (cI_listK K rfl) rfl T.no_list (by rfl) (pa_cons (pe_meth (pv 0) T.cl_Cloth T.m_Clothbitsalong GX_Clothbitsalong (hr.mono (by first | decide | omega)) T.b_Clothbitsalong .nil pass1 (pa_cons (pv 1) pa_nil)) pa_nil))) fun _ _=>cutC (ps_if (pt_not (pt_val (pe_call G_isbelow.up (hr.mono (by first | decide | omega)) rfl T.mg_isbelow T.F_isbelow.kp T.b_isbelow .nil pass1 (pa_cons (pv 2) (pa_cons (pe_op op_add (pe_callB (cI_lenK K rfl) rfl T.no_len (by rfl) (pa_cons (pv 4) pa_nil)) pe_int) pa_nil))))) (pss_one (ps_raiseK T.mg_NoLine T.x_NoLine PySem.F.excBase_ValueError rfl rfl (fun _ _ _ _ _ _ _ _ I m q=>xe_new I m q) (pa_cons pe_str pa_nil))) pss_nil) fun _ _=>cutC (ps_if (pt_not (pt_val (pe_call G_isbit.up (hr.mono (by first | decide | omega)) rfl T.mg_isbit T.F_isbit.kp T.b_isbit .nil pass1 (pa_cons (pv 3) pa_nil)))) (pss_one (ps_raiseK T.mg_BadBit T.x_BadBit PySem.F.excBase_ValueError rfl rfl (fun _ _ _ _ _ _ _ _ I m q=>xe_new I m q) (pa_cons pe_str pa_nil))) pss_nil) fun _ _=>cutC (ps_expr (pe_bm PySem.F.plainAttrs_list PySem.F.slot_list_insert PySem.F.type_list_insert mt_insert (pv 4) (pa_cons (pv 2) (pa_cons (pv 3) pa_nil)))) fun _ _=>cutE (ps_ret (pe_call GX_withbits (hr.mono (by first | decide | omega)) rfl T.mg_withbits T.F_withbits.kp T.b_withbits .nil pass1 (pa_cons (pv 0) (pa_cons (pv 1) (pa_cons (pv 4) pa_nil))))) fun _ _=>?_
  walk_at "rd"
  refine rd_methv e1 (nl (by decide +kernel)) ?_
  walk_at "rd"
  rcases h with ⟨n,q⟩ | ⟨bs,hw,h⟩
  ·exact ⟨p,wy,s,cs,rs,rfl,hc,.inr ⟨n.1,n.2,q⟩⟩
  ·have bb:=hw.bits bc br
   have lb:=bb.1
   refine ⟨p,wy,s,cs,rs,rfl,hc,.inl ⟨bs,hw,fun ta hta=>?_⟩⟩
   walk_at "rd"
   refine rd_listT hta fun l1 n1=>?_
   have s1:=Same.new (o:=HO.lst (bs.map V.int)) n1
   walk_at "rd"
   refine rd_lenL upd_same ?_
   rw [List.length_map]
   walk_at "rd"
   refine ⟨k,_,rfl,?_⟩
   rcases h with ⟨n,q⟩ | ⟨hk,nb,q⟩ | ⟨hk,nb,l39,q⟩ | ⟨hk,nb,l39,cs',rs',w2,z⟩
   ·rw [below_f n]
    walk_at "rd"
    exact ⟨by show 1≤sizeLine; decide,q _ s1⟩
   ·rw [below_t hk]
    walk_at "rd"
    refine ⟨bt,rfl,?_⟩
    rw [nb]
    walk_at "rd"
    exact ⟨by show 1≤sizeLine; decide,q _ s1⟩
   all_goals
    rw [below_t hk]
    walk_at "rd"
    refine ⟨bt,rfl,?_⟩
    rw [nb]
    walk_at "rd"
    refine rd_bmL upd_same ?_
    walk_at "rd"
    obtain ⟨j,rfl⟩:∃ j:Nat,k=(j:Int):=⟨k.toNat,by omega⟩
    refine rd_insert upd_same (by rw [List.length_map]; omega) (by rw [List.length_map]; omega) ?_
    have e4:(bs.map V.int).take j++V.int bt::(bs.map V.int).drop j=(putin bs j bt).map V.int:=by unfold putin; rw [List.map_append,List.map_take,List.map_cons,List.map_drop]
    rw [upd_upd,e4]
    walk_at "rd"
    have s2:=Same.new (o:=HO.lst ((putin bs j bt).map V.int)) n1
    have pl:=putin_len bs j bt (by omega)
   ·obtain ⟨cs',rs',w2⟩:=Way2.of hw (putin bs j bt)
    exact ⟨p,l1,wy,s,cs,rs,_,cs',rs',rfl,hc.mono s2,sh,bc,br,upd_same,by omega,putin_bit bb.2 (isBit_or nb),w2,.inr ⟨by omega,fun H' s3=>q H' (s2.trans s3)⟩⟩
   ·exact ⟨p,l1,wy,s,cs,rs,_,cs',rs',rfl,hc.mono s2,sh,bc,br,upd_same,by omega,putin_bit bb.2 (isBit_or nb),w2,.inl ⟨by omega,fun x H' s3 hX=>z x H' (s2.trans s3) hX⟩⟩
def spx_cut (C NL:Addr):Sp:=fun vs H Q E=>∃ (p:Addr) (wy:Str) (k s:Int) (cs rs:List Int),vs=[.ref p,.str wy,.int k]∧ClothAt C H p s cs rs∧(s=0∨s=1)∧Bits cs∧Bits rs ∧
 ((∃ bs cs' rs',IsWay wy cs rs bs∧0≤k∧k<bs.length∧Way2 wy cs rs (bs.eraseIdx k.toNat) cs' rs'∧∀ x H',Same H H'→ClothAt C H' x s cs' rs'→Q (.ref x) H')∨(NoLn wy k cs rs∧E (.ref NL) none H))
theorem okx_cut (T:Txt K mg t):FnOk P w K mg base (CX1 P w) 9 t.f_cut t.d_cut ["cloth","way","k"] (spx_cut t.a_Cloth t.a_NoLine):=by
 have GX_Clothbit:=okx_Clothbit (P:=P) (w:=w) (base:=base) T
 have GX_Clothbitsalong:=okx_Clothbitsalong (P:=P) (w:=w) (base:=base) T
 have GX_withbits:=okx_withbits (P:=P) (w:=w) (base:=base) T
 refine T.F_cut.ok1 sc_cut (fun vs H Q E h=>?_) (fun cdv A outer s H vs Q E hr h=>?_)
 ·obtain ⟨p,wy,k,s,cs,rs,rfl,_⟩:=h; rfl
 ·obtain ⟨p,wy,k,s,cs,rs,rfl,hc,sh,bc,br,h⟩:=h
  obtain ⟨dx,a,b,e1,e2,e3⟩:=hc.ob
  have nl:∀ {w h:Int} {m:Str},NoF m→(cfl s a b w h).lookup m=none:=fun x=>cfl_no _ _ _ x
  refine cutC (ps_expr (pe_meth (pv 0) T.cl_Cloth T.m_Clothbit GX_Clothbit (hr.mono (by first | decide | omega)) T.b_Clothbit .nil pass1 (pa_cons (pv 1) (pa_cons (pv 2) pa_nil)))) fun _ _=>cutC (ps_set (i:=3) sc_cut.nd rfl (Or.inl rfl) (pe_callTy (cI_listK K rfl) rfl T.no_list (by rfl) (pa_cons (pe_meth (pv 0) T.cl_Cloth T.m_Clothbitsalong GX_Clothbitsalong (hr.mono (by first | decide | omega)) T.b_Clothbitsalong .nil pass1 (pa_cons (pv 1) pa_nil)) pa_nil))) fun _ _=>cutC (ps_expr (pe_bm PySem.F.plainAttrs_list PySem.F.slot_list_pop PySem.F.type_list_pop mt_popAt (pv 3) (pa_cons (pv 2) pa_nil))) fun _ _=>cutE (ps_ret (pe_call GX_withbits (hr.mono (by first | decide | omega)) rfl T.mg_withbits T.F_withbits.kp T.b_withbits .nil pass1 (pa_cons (pv 0) (pa_cons (pv 1) (pa_cons (pv 3) pa_nil))))) fun _ _=>?_
  walk_at "rd"
  refine rd_methv e1 (nl (by decide +kernel)) ?_
  walk_at "rd"
  rcases h with ⟨bs,cs',rs',hw,h0,h1,w2,z⟩ | ⟨n,q⟩
  ·have bb:=hw.bits bc br
   have lb:=bb.1
   refine ⟨p,wy,k,s,cs,rs,rfl,hc,.inl ⟨bs,hw,h0,h1,?_⟩⟩
   walk_at "rd"
   refine rd_methv e1 (nl (by decide +kernel)) ?_
   walk_at "rd"
   refine ⟨p,wy,s,cs,rs,rfl,hc,.inl ⟨bs,hw,fun ta hta=>?_⟩⟩
   walk_at "rd"
   refine rd_listT hta fun l1 n1=>?_
   walk_at "rd"
   refine rd_bmL upd_same ?_
   walk_at "rd"
   obtain ⟨j,rfl⟩:∃ j:Nat,k=(j:Int):=⟨k.toNat,by omega⟩
   have hj:j<bs.length:=by omega
   refine rd_popAt upd_same (y:=V.int bs[j]) (by rw [List.getElem?_map,List.getElem?_eq_getElem hj]; rfl) (by rw [List.length_map]; omega) ?_
   have e4:(bs.map V.int).eraseIdx j=(bs.eraseIdx j).map V.int:=(by rw [List.eraseIdx_eq_take_drop_succ,List.eraseIdx_eq_take_drop_succ,List.map_append,List.map_take,List.map_drop])
   rw [upd_upd,e4]
   walk_at "rd"
   have s2:=Same.new (o:=HO.lst ((bs.eraseIdx j).map V.int)) n1
   have le:(bs.eraseIdx j).length≤bs.length:=List.length_eraseIdx_le ..
   have lb2:∀ z∈bs.eraseIdx j,z=0∨z=1:=fun z hz=>bb.2 z (List.mem_of_mem_eraseIdx hz)
   exact ⟨p,l1,wy,s,cs,rs,_,cs',rs',rfl,hc.mono s2,sh,bc,br,upd_same,by omega,lb2,w2,.inl ⟨by omega,fun x H' s3 hX=>z x H' (s2.trans s3) hX⟩⟩
  ·exact ⟨p,wy,k,s,cs,rs,rfl,hc,.inr ⟨n,q⟩⟩
end
section
variable {P:Program} {w:World} {K:PySem.W.Frag} {mg:Str→Option Value} {base:Heap} {t:Ad}
def sp_partedup (C:Addr):Sp:=fun vs H Q _=>∃ (p:Addr) (k:Nat) (s:Int) (cs rs:List Int),vs=[.ref p,.int k]∧ClothAt C H p s cs rs∧(s=0∨s=1)∧Bits cs∧Bits rs∧k<cs.length ∧
 ∀ tp x y H',Same H H'→H' tp=some (.tup [.ref x,.ref y])→ClothAt C H' x s (cs.take k) rs→ClothAt C H' y (colr s cs rs ((k+1:Nat):Int) 0) (cs.drop (k+1)) (shl rs ((k+1:Nat):Int))→Q (.ref tp) H'
theorem ok_partedup (T:Txt K mg t):FnOk P w K mg base CX0 9 t.f_partedup t.d_partedup ["cloth","k"] (sp_partedup t.a_Cloth):=by
 have G_ClothInit:=ok_ClothInit (P:=P) (w:=w) (base:=base) T
 have G_Clothshade:=ok_Clothshade (P:=P) (w:=w) (base:=base) T
 have G_Clothcols:=ok_Clothcols (P:=P) (w:=w) (base:=base) T
 have G_Clothrows:=ok_Clothrows (P:=P) (w:=w) (base:=base) T
 have G_Clothcolour:=ok_Clothcolour (P:=P) (w:=w) (base:=base) T
 have G_shifted:=ok_shifted (P:=P) (w:=w) (base:=base) T
 refine T.F_partedup.ok sc_partedup (fun vs H Q E h=>?_) (fun cdv A outer s H vs Q E hr h=>?_)
 ·obtain ⟨p,k,s,cs,rs,rfl,_⟩:=h; rfl
 ·obtain ⟨p,k,s,cs,rs,rfl,hc,sh,bc,br,hk,z⟩:=h
  have lc:=bc.1
  have lr:=br.1
  obtain ⟨dx,a,b,e1,e2,e3⟩:=hc.ob
  have nl:∀ {w h:Int} {m:Str},NoF m→(cfl s a b w h).lookup m=none:=fun x=>cfl_no _ _ _ x
  refine cutC (ps_set (i:=2) sc_partedup.nd rfl (Or.inl rfl) (pe_op op_add (pv 1) pe_int)) fun _ _=>cutC (ps_set (i:=3) sc_partedup.nd rfl (Or.inl rfl) (pe_make T.mk_Cloth G_ClothInit (hr.mono (by first | decide | omega)) rfl T.mg_Cloth T.b_ClothInit .nil pass0 (pa_cons (pe_meth0 (pv 0) T.cl_Cloth T.m_Clothshade G_Clothshade (hr.mono (by first | decide | omega)) T.b_Clothshade .nil pass0) (pa_cons (pe_slice (sl_listK K rfl) (pe_meth0 (pv 0) T.cl_Cloth T.m_Clothcols G_Clothcols (hr.mono (by first | decide | omega)) T.b_Clothcols .nil pass0) po_none (po_some (pv 1))) (pa_cons (pe_meth0 (pv 0) T.cl_Cloth T.m_Clothrows G_Clothrows (hr.mono (by first | decide | omega)) T.b_Clothrows .nil pass0) pa_nil))))) fun _ _=>cutC (ps_set (i:=4) sc_partedup.nd rfl (Or.inl rfl) (pe_make T.mk_Cloth G_ClothInit (hr.mono (by first | decide | omega)) rfl T.mg_Cloth T.b_ClothInit .nil pass0 (pa_cons (pe_meth (pv 0) T.cl_Cloth T.m_Clothcolour G_Clothcolour (hr.mono (by first | decide | omega)) T.b_Clothcolour .nil pass0 (pa_cons (pv 2) (pa_cons pe_int pa_nil))) (pa_cons (pe_slice (sl_listK K rfl) (pe_meth0 (pv 0) T.cl_Cloth T.m_Clothcols G_Clothcols (hr.mono (by first | decide | omega)) T.b_Clothcols .nil pass0) (po_some (pv 2)) po_none) (pa_cons (pe_call G_shifted (hr.mono (by first | decide | omega)) rfl T.mg_shifted T.F_shifted.kp T.b_shifted .nil pass0 (pa_cons (pe_meth0 (pv 0) T.cl_Cloth T.m_Clothrows G_Clothrows (hr.mono (by first | decide | omega)) T.b_Clothrows .nil pass0) (pa_cons (pv 2) pa_nil))) pa_nil))))) fun _ _=>cutE (ps_ret (pe_tup (pa_cons (pv 3) (pa_cons (pv 4) pa_nil)))) fun _ _=>?_
  walk_at "rd"
  rw [show ((k:Int)+1)=((k+1:Nat):Int) by omega]
  refine rd_methv e1 (nl (by decide +kernel)) ?_
  walk_at "rd"
  refine ⟨p,s,cs,rs,rfl,hc,?_⟩
  walk_at "rd"
  refine rd_methv e1 (nl (by decide +kernel)) ?_
  walk_at "rd"
  refine ⟨p,s,cs,rs,rfl,hc,fun l1 n1=>?_⟩
  have s1:=Same.new (o:=HO.lst (cs.map V.int)) n1
  walk_at "rd"
  refine rd_slL upd_same fun l2 n2=>?_
  rw [cutV_take (by omega:(0:Int)≤(k:Int)),Int.toNat_natCast]
  have s2:=Same.new (o:=HO.lst ((cs.take k).map V.int)) n2
  have s12:=s1.trans s2
  have q2:=upd_same (H:=upd H l1 (HO.lst (cs.map V.int))) (a:=l2) (o:=HO.lst ((cs.take k).map V.int))
  generalize upd (upd H l1 (HO.lst (cs.map V.int))) l2 (HO.lst ((cs.take k).map V.int))=H2 at s12 q2 ⊢
  walk_at "rd"
  refine rd_methv (s12 _ _ e1) (nl (by decide +kernel)) ?_
  walk_at "rd"
  refine ⟨p,s,cs,rs,rfl,hc.mono s12,fun l3 n3=>?_⟩
  have s3:=Same.new (o:=HO.lst (rs.map V.int)) n3
  walk_at "rd"
  intro x dxx nx ndx nex
  have sM:Same (upd H2 l3 (HO.lst (rs.map V.int))) (upd (upd (upd H2 l3 (HO.lst (rs.map V.int))) dxx (.own x)) x (.ins t.a_Cloth dxx [])):=(Same.new ndx).later nx
  refine ⟨x,dxx,l2,l3,s,cs.take k,rs,rfl,upd_same,sM _ _ (s3 _ _ q2),sM _ _ upd_same,sh,bits_take bc k,br,fun H4 kp hX=>⟨rfl,?_⟩⟩
  have s4:Same H H4:=s12.trans (s3.trans (made_at (c:=0) (r:=0) nx ndx kp))
  have hc4:=hc.mono s4
  clear s1 s2 s12 s3 sM q2 kp nx ndx n1 n2 n3
  walk_at "rd"
  have e14:=s4 _ _ e1
  refine rd_methv e14 (nl (by decide +kernel)) ?_
  walk_at "rd"
  refine ⟨p,_,0,s,cs,rs,rfl,hc4,bc,br,by omega,by omega,by decide,by omega,fun H5 s5=>?_⟩
  walk_at "rd"
  have s45:=s4.trans s5
  refine rd_methv (s5 _ _ e14) (nl (by decide +kernel)) ?_
  walk_at "rd"
  refine ⟨p,s,cs,rs,rfl,hc4.mono s5,fun l5 n5=>?_⟩
  have s6:=Same.new (o:=HO.lst (cs.map V.int)) n5
  walk_at "rd"
  refine rd_slL upd_same fun l6 n6=>?_
  rw [cutV_drop]
  have s7:=Same.new (o:=HO.lst ((cs.drop (k+1)).map V.int)) n6
  have s67:=s6.trans s7
  have q6:=upd_same (H:=upd H5 l5 (HO.lst (cs.map V.int))) (a:=l6) (o:=HO.lst ((cs.drop (k+1)).map V.int))
  generalize upd (upd H5 l5 (HO.lst (cs.map V.int))) l6 (HO.lst ((cs.drop (k+1)).map V.int))=H7 at s67 q6 ⊢
  walk_at "rd"
  refine rd_methv (s67 _ _ (s5 _ _ e14)) (nl (by decide +kernel)) ?_
  walk_at "rd"
  refine ⟨p,s,cs,rs,rfl,(hc4.mono s5).mono s67,fun l8 n8=>?_⟩
  have s8:=Same.new (o:=HO.lst (rs.map V.int)) n8
  walk_at "rd"
  refine ⟨l8,_,rs,rfl,upd_same,by omega,fun l9 H9 s9 n9 q9=>?_⟩
  walk_at "rd"
  intro y dy ny ndy ney
  have sN:Same H9 (upd (upd H9 dy (.own y)) y (.ins t.a_Cloth dy [])):=(Same.new ndy).later ny
  refine ⟨y,dy,l6,l9,_,cs.drop (k+1),shl rs ((k+1:Nat):Int),rfl,upd_same,sN _ _ (s9 _ _ (s8 _ _ q6)),sN _ _ q9,colr_bit _ _ _ _ _,bits_drop bc (k+1),shl_bits br _,fun HA kp hY=>⟨rfl,?_⟩⟩
  have sA:Same H4 HA:=s5.trans (s67.trans (s8.trans (s9.trans (made_at (c:=0) (r:=0) ny ndy kp))))
  walk_at "rd"
  refine ⟨by show 2≤sizeLine; decide,fun tp ntp=>?_⟩
  have sB:=Same.new (o:=HO.tup [V.ref x,V.ref y]) ntp
  exact z tp x y _ (s4.trans (sA.trans sB)) upd_same (hX.mono (sA.trans sB)) (hY.mono sB)
end
section
variable {P:Program} {w:World} {K:PySem.W.Frag} {mg:Str→Option Value} {base:Heap} {t:Ad}
def spx_parted (C NL:Addr):Sp:=fun vs H Q E=>∃ (p:Addr) (wy:Str) (k s:Int) (cs rs:List Int),vs=[.ref p,.str wy,.int k]∧ClothAt C H p s cs rs∧(s=0∨s=1)∧Bits cs∧Bits rs ∧
 ((∃ bs,IsWay wy cs rs bs∧0≤k∧k<bs.length∧∀ tp H',Same H H'→Q (.ref tp) H')∨(NoLn wy k cs rs∧E (.ref NL) none H))
theorem okx_parted (T:Txt K mg t):FnOk P w K mg base (CX1 P w) 10 t.f_parted t.d_parted ["cloth","way","k"] (spx_parted t.a_Cloth t.a_NoLine):=by
 have GX_Clothbit:=okx_Clothbit (P:=P) (w:=w) (base:=base) T
 have G_partedup:=ok_partedup (P:=P) (w:=w) (base:=base) T
 have G_transposed:=ok_transposed (P:=P) (w:=w) (base:=base) T
 refine T.F_parted.ok1 sc_parted (fun vs H Q E h=>?_) (fun cdv A outer s H vs Q E hr h=>?_)
 ·obtain ⟨p,wy,k,s,cs,rs,rfl,_⟩:=h; rfl
 ·obtain ⟨p,wy,k,s,cs,rs,rfl,hc,sh,bc,br,h⟩:=h
  obtain ⟨dx,a,b,e1,e2,e3⟩:=hc.ob
  refine cutC (ps_expr (pe_meth (pv 0) T.cl_Cloth T.m_Clothbit GX_Clothbit (hr.mono (by first | decide | omega)) T.b_Clothbit .nil pass1 (pa_cons (pv 1) (pa_cons (pv 2) pa_nil)))) fun _ _=>cutC (ps_if (pt_cmpR op_eq (pv 1) pe_str (nomark _)) (pss_one (ps_ret (pe_call G_partedup.up (hr.mono (by first | decide | omega)) rfl T.mg_partedup T.F_partedup.kp T.b_partedup .nil pass1 (pa_cons (pv 0) (pa_cons (pv 2) pa_nil))))) pss_nil) fun _ _=>cutC (ps_set (i:=3) sc_parted.nd rfl (Or.inl rfl) (pe_call G_partedup.up (hr.mono (by first | decide | omega)) rfl T.mg_partedup T.F_partedup.kp T.b_partedup .nil pass1 (pa_cons (pe_call G_transposed.up (hr.mono (by first | decide | omega)) rfl T.mg_transposed T.F_transposed.kp T.b_transposed .nil pass1 (pa_cons (pv 0) pa_nil)) (pa_cons (pv 2) pa_nil)))) fun _ _=>cutE (ps_ret (pe_tup (pa_cons (pe_call G_transposed.up (hr.mono (by first | decide | omega)) rfl T.mg_transposed T.F_transposed.kp T.b_transposed .nil pass1 (pa_cons (pe_ix (ix_tupK K rfl) (pv 3) pe_int (fun _ _=>rfl)) pa_nil)) (pa_cons (pe_call G_transposed.up (hr.mono (by first | decide | omega)) rfl T.mg_transposed T.F_transposed.kp T.b_transposed .nil pass1 (pa_cons (pe_ix (ix_tupK K rfl) (pv 3) pe_int (fun _ _=>rfl)) pa_nil)) pa_nil)))) fun _ _=>?_
  walk_at "rd"
  refine rd_methv e1 (cfl_no _ _ _ (by decide +kernel)) ?_
  walk_at "rd"
  rcases h with ⟨bs,hw,h0,h1,z⟩ | ⟨n,q⟩
  ·refine ⟨p,wy,k,s,cs,rs,rfl,hc,.inl ⟨bs,hw,h0,h1,?_⟩⟩
   obtain ⟨j,rfl⟩:∃ j:Nat,k=(j:Int):=⟨k.toNat,by omega⟩
   walk_at "rd"
   rcases hw with ⟨rfl,rfl⟩ | ⟨rfl,rfl⟩
   ·rw [decide_eq_true (rfl:("col":Str)="col")]
    walk_at "rd"
    exact ⟨p,j,s,_,rs,rfl,hc,sh,bc,br,by omega,fun tp x y H' s1 et hx hy=>z tp H' s1⟩
   ·rw [decide_eq_false rc_ne]
    walk_at "rd"
    refine ⟨p,s,cs,_,rfl,hc,sh,bc,br,fun q H1 s1 hq=>?_⟩
    walk_at "rd"
    refine ⟨q,j,s,_,cs,rfl,hq,sh,br,bc,by omega,fun tp x y H2 s2 et hx hy=>?_⟩
    walk_at "rd"
    refine rd_ixT (SqT.of et) (v:=.ref x) rfl ?_
    walk_at "rd"
    refine ⟨x,s,_,cs,rfl,hx,sh,bits_take br j,bc,fun x' H3 s3 hx'=>?_⟩
    walk_at "rd"
    refine rd_ixT (SqT.of (s3 _ _ et)) (v:=.ref y) rfl ?_
    walk_at "rd"
    refine ⟨y,_,_,_,rfl,hy.mono s3,colr_bit _ _ _ _ _,bits_drop br (j+1),shl_bits bc _,fun y' H4 s4 hy'=>?_⟩
    walk_at "rd"
    refine ⟨by show 2≤sizeLine; decide,fun tq ntq=>?_⟩
    have s5:=Same.new (o:=HO.tup [V.ref x',V.ref y']) ntq
    exact z tq _ (s1.trans (s2.trans (s3.trans (s4.trans s5))))
  ·exact ⟨p,wy,k,s,cs,rs,rfl,hc,.inr ⟨n,q⟩⟩
end
section
variable {P:Program} {w:World} {K:PySem.W.Frag} {mg:Str→Option Value} {base:Heap} {t:Ad}
def sp_UnfitInit (C:Addr):Sp:=fun vs H Q _=>∃ (e:Addr) (n:Nat),vs=[.ref e,.int (n:Int)]∧n<100∧H e=some (ExcM e C none) ∧
 ∀ d,H d=none→d≠e→Q .non (upd (upd H d (XdO d [("at",.int (n:Int))])) e (ExcM e C (some d)))
theorem ok_UnfitInit (T:Txt K mg t):FnOk P w K mg base CX0 1 t.f_UnfitInit t.d_UnfitInit ["self","at"] (sp_UnfitInit t.a_Unfit):=by
 refine T.F_UnfitInit.ok sc_UnfitInit (fun vs H Q E h=>?_) (fun cdv A outer s H vs Q E hr h=>?_)
 ·obtain ⟨e,n,rfl,_⟩:=h; rfl
 ·obtain ⟨e,n,rfl,hn,he,k⟩:=h
  refine ⟨_,(pss_cons (ps_expr (pe_initX rfl T.mg_SewError T.bi_SewError (pa_cons (pv 0) (pa_cons (pe_fstr (PEs.cons pe_str (PEs.cons (pe_fmt (pv 1)) (PEs.cons pe_str PEs.nil))) (by decide)) pa_nil)))) (pss_one (ps_fldX (pv 0) (pv 1) rfl))),?_⟩
  walk_at "rd"
  refine rd_initX ?_
  walk_at "rd"
  refine rd_fstr ?_
  refine ⟨_,rfl,by decide,?_⟩
  refine rd_fmt ?_
  walk_at "rd"
  refine ⟨n,rfl,hn,fun x1 l1=>⟨x1,rfl,l1,?_⟩⟩
  refine ⟨_,rfl,by decide,fun x2=>?_⟩
  walk_at "rd"
  refine ⟨e,t.a_Unfit,none,_,rfl,he,T.mx_Unfit.ei,?_⟩
  walk_at "rd"
  refine rd_fldXs ?_
  walk_at "rd"
  exact ⟨e,t.a_Unfit,rfl,T.mx_Unfit.ei,T.nx_Unfit_at,.inl ⟨he,fun d hd ne=>k d hd ne⟩⟩
end
section
variable {P:Program} {w:World} {K:PySem.W.Frag} {mg:Str→Option Value} {base:Heap} {t:Ad}
def badAt (rs rs2:List Int) (n:Int) (k:Nat):Bool:=decide ((rs.getD k 0+n+rs2.getD k 0)%2=1)
theorem bad_iff {rs rs2:List Int} {n:Int} {k:Nat} (b1:Bits rs) (b2:Bits rs2) (h1:k<rs.length) (h2:k<rs2.length):badAt rs rs2 n k=!decide (rs2.getD k 0=(shl rs n).getD k 0):=by
 unfold badAt
 rw [shl_get h1]
 have p:=bit_of b1 h1
 have q:=bit_of b2 h2
 generalize rs.getD k 0=x at p ⊢
 generalize rs2.getD k 0=y at q ⊢
 rw [← decide_not]
 exact decide_eq_decide.mpr (by omega)
def SzOk (cs rs cs2 rs2:List Int):Prop:=rs.length=rs2.length∧cs.length+cs2.length+1≤39
theorem bits_join {cs cs2:List Int} {b:Int} (h:Bits cs) (h2:Bits cs2) (hb:b=0∨b=1) (hl:cs.length+cs2.length+1≤39):Bits (cs++b::cs2):=⟨by rw [List.length_append,List.length_cons]; omega,fun z hz=>by
 rcases List.mem_append.mp hz with q | q
 ·exact h.2 z q
 ·rcases List.mem_cons.mp q with rfl | q
  ·exact hb
  ·exact h2.2 z q⟩
def Sews (BS UF:Addr) (s:Int) (cs rs:List Int) (s2:Int) (cs2 rs2:List Int) (H:Hp) (Q:List Int→Hp→Addr→Prop) (E:XK):Prop :=
 (¬ SzOk cs rs cs2 rs2→∀ H',Same H H'→E (.ref BS) none H') ∧
 (SzOk cs rs cs2 rs2→∀ k:Nat,k<rs.length→badAt rs rs2 ((cs.length:Int)+1) k=true→(∀ j:Nat,j<k→badAt rs rs2 ((cs.length:Int)+1) j=false)→∀ d H',Same H H'→H' d=some (XdO d [("at",.int (k:Int))])→E (.ref UF) (some d) H') ∧
 (SzOk cs rs cs2 rs2→(∀ j:Nat,j<rs.length→badAt rs rs2 ((cs.length:Int)+1) j=false)→∀ x H',Same H H'→Q (cs++(colr s cs rs (cs.length:Nat) 0+s2)%2::cs2) H' x)
def spx_sewnbeside (C BS UF:Addr):Sp:=fun vs H Q E=>∃ (p q:Addr) (s s2:Int) (cs rs cs2 rs2:List Int),vs=[.ref p,.ref q]∧ClothAt C H p s cs rs∧ClothAt C H q s2 cs2 rs2∧(s=0∨s=1)∧Bits cs∧Bits rs∧Bits cs2∧Bits rs2 ∧
 Sews BS UF s cs rs s2 cs2 rs2 H (fun cs' H' x=>ClothAt C H' x s cs' rs→Q (.ref x) H') E
theorem okx_sewnbeside (T:Txt K mg t):FnOk P w K mg base (CX1 P w) 9 t.f_sewnbeside t.d_sewnbeside ["one","other"] (spx_sewnbeside t.a_Cloth t.a_BadSize t.a_Unfit):=by
  have GX_ClothInit:=okx_ClothInit (P:=P) (w:=w) (base:=base) T
  have G_Clothshade:=ok_Clothshade (P:=P) (w:=w) (base:=base) T
  have G_Clothcols:=ok_Clothcols (P:=P) (w:=w) (base:=base) T
  have G_Clothrows:=ok_Clothrows (P:=P) (w:=w) (base:=base) T
  have G_Clothwide:=ok_Clothwide (P:=P) (w:=w) (base:=base) T
  have G_Clothtall:=ok_Clothtall (P:=P) (w:=w) (base:=base) T
  have GX_Clothcolour:=okx_Clothcolour (P:=P) (w:=w) (base:=base) T
  have G_shifted:=ok_shifted (P:=P) (w:=w) (base:=base) T
  have G_isside:=ok_isside (P:=P) (w:=w) (base:=base) T
  have G_UnfitInit:=ok_UnfitInit (P:=P) (w:=w) (base:=base) T
  refine T.F_sewnbeside.ok1 sc_sewnbeside (fun vs H Q E h=>?_) (fun cdv A outer s H vs Q E hr h=>?_)
  · obtain ⟨p,q,s,s2,cs,rs,cs2,rs2,rfl,_⟩:=h; rfl
  · obtain ⟨p,q,s,s2,cs,rs,cs2,rs2,rfl,hp,hq,sh,bc,br,bc2,br2,zs,zu,z⟩:=h
    have lc:=bc.1
    have lr:=br.1
    have lc2:=bc2.1
    have lr2:=br2.1
    obtain ⟨dx,a,b,e1,e2,e3⟩:=hp.ob
    obtain ⟨dx',a',b',f1,f2,f3⟩:=hq.ob
    have nl:∀ {s:Int} {a b:Addr} {w h:Int} {m:Str},NoF m→(cfl s a b w h).lookup m=none:=fun x=>cfl_no _ _ _ x
    refine cutC (ps_if (PW.pt (pw_or (pt_cmpR op_ne (pe_meth0 (pv 0) T.cl_Cloth T.m_Clothtall G_Clothtall.up (hr.mono (by first | decide | omega)) T.b_Clothtall .nil pass1) (pe_meth0 (pv 1) T.cl_Cloth T.m_Clothtall G_Clothtall.up (hr.mono (by first | decide | omega)) T.b_Clothtall .nil pass1) (nomark _)) (pw_or1 (pt_not (pt_val (pe_call G_isside.up (hr.mono (by first | decide | omega)) rfl T.mg_isside T.F_isside.kp T.b_isside .nil pass1 (pa_cons (pe_op op_add (pe_meth0 (pv 0) T.cl_Cloth T.m_Clothwide G_Clothwide.up (hr.mono (by first | decide | omega)) T.b_Clothwide .nil pass1) (pe_meth0 (pv 1) T.cl_Cloth T.m_Clothwide G_Clothwide.up (hr.mono (by first | decide | omega)) T.b_Clothwide .nil pass1)) pa_nil))))))) (pss_one (ps_raiseK T.mg_BadSize T.x_BadSize PySem.F.excBase_ValueError rfl rfl (fun _ _ _ _ _ _ _ _ I m q=>xe_new I m q) (pa_cons pe_str pa_nil))) pss_nil) fun _ _=>cutC (ps_set (i:=2) sc_sewnbeside.nd rfl (Or.inl rfl) (pe_call G_shifted.up (hr.mono (by first | decide | omega)) rfl T.mg_shifted T.F_shifted.kp T.b_shifted .nil pass1 (pa_cons (pe_meth0 (pv 0) T.cl_Cloth T.m_Clothrows G_Clothrows.up (hr.mono (by first | decide | omega)) T.b_Clothrows .nil pass1) (pa_cons (pe_meth0 (pv 0) T.cl_Cloth T.m_Clothwide G_Clothwide.up (hr.mono (by first | decide | omega)) T.b_Clothwide .nil pass1) pa_nil)))) fun _ _=>cutC (ps_for PassesOwn.leaving rfl (pi_enum rfl T.no_enumerate (pa_cons (pe_meth0 (pv 1) T.cl_Cloth T.m_Clothrows G_Clothrows.up (hr.mono (by first | decide | omega)) T.b_Clothrows .nil pass1) pa_nil)) (pg_tupK (n:=2) K rfl rfl (pgs_cons (pg_name (i:=3) sc_sewnbeside.nd rfl (Or.inl rfl)) (pgs_cons (pg_name (i:=4) sc_sewnbeside.nd rfl (Or.inl rfl)) pgs_nil))) (pss_one (ps_if (pt_cmpR op_ne (pv 4) (pe_ix (ix_listK K rfl) (pv 2) (pv 3) (fun _ _=>rfl)) (nomark _)) (pss_one (ps_raiseI T.mx_Unfit G_UnfitInit (hr.mono (by first | decide | omega)) rfl T.mg_Unfit T.b_UnfitInit rfl rfl (fun _ _ _ _ _ _ _ _ I a b c d e f g h=>xe_made I a b c d e f g h) (pa_cons (pv 3) pa_nil))) pss_nil))) fun _ _=>cutC (ps_set (i:=5) sc_sewnbeside.nd rfl (Or.inl rfl) (pe_op op_mod (pe_op op_add (pe_meth (pv 0) T.cl_Cloth T.m_Clothcolour GX_Clothcolour (hr.mono (by first | decide | omega)) T.b_Clothcolour .nil pass1 (pa_cons (pe_op op_sub (pe_meth0 (pv 0) T.cl_Cloth T.m_Clothwide G_Clothwide.up (hr.mono (by first | decide | omega)) T.b_Clothwide .nil pass1) pe_int) (pa_cons pe_int pa_nil))) (pe_meth0 (pv 1) T.cl_Cloth T.m_Clothshade G_Clothshade.up (hr.mono (by first | decide | omega)) T.b_Clothshade .nil pass1)) pe_int)) fun _ _=>cutE (ps_ret (pe_make T.mk_Cloth GX_ClothInit (hr.mono (by first | decide | omega)) rfl T.mg_Cloth T.b_ClothInit .nil pass1 (pa_cons (pe_meth0 (pv 0) T.cl_Cloth T.m_Clothshade G_Clothshade.up (hr.mono (by first | decide | omega)) T.b_Clothshade .nil pass1) (pa_cons (pe_op op_cat (pe_op op_cat (pe_meth0 (pv 0) T.cl_Cloth T.m_Clothcols G_Clothcols.up (hr.mono (by first | decide | omega)) T.b_Clothcols .nil pass1) (pe_lst (pa_cons (pv 5) pa_nil))) (pe_meth0 (pv 1) T.cl_Cloth T.m_Clothcols G_Clothcols.up (hr.mono (by first | decide | omega)) T.b_Clothcols .nil pass1)) (pa_cons (pe_meth0 (pv 0) T.cl_Cloth T.m_Clothrows G_Clothrows.up (hr.mono (by first | decide | omega)) T.b_Clothrows .nil pass1) pa_nil))))) fun _ _=>?_
    walk_at "rd"
    refine rd_methv e1 (nl (by decide +kernel)) ?_
    walk_at "rd"
    refine ⟨p,s,cs,rs,rfl,hp,?_⟩
    walk_at "rd"
    refine rd_methv f1 (nl (by decide +kernel)) ?_
    walk_at "rd"
    refine ⟨q,s2,cs2,_,rfl,hq,?_⟩
    walk_at "rd"
    by_cases hr2:rs.length=rs2.length
    rotate_left
    · rw [decide_eq_false (by omega:¬ ((rs.length:Int)+1=(rs2.length:Int)+1))]
      walk_at "rd"
      exact ⟨by show 1≤sizeLine; decide,zs (fun x=>hr2 x.1) _ (Same.refl _)⟩
    rw [decide_eq_true (by omega:((rs.length:Int)+1=(rs2.length:Int)+1))]
    walk_at "rd"
    refine rd_methv e1 (nl (by decide +kernel)) ?_
    walk_at "rd"
    refine ⟨p,s,cs,rs,rfl,hp,?_⟩
    walk_at "rd"
    refine rd_methv f1 (nl (by decide +kernel)) ?_
    walk_at "rd"
    refine ⟨q,s2,cs2,_,rfl,hq,?_⟩
    walk_at "rd"
    refine ⟨_,rfl,?_⟩
    by_cases lj:cs.length+cs2.length+1≤39
    rotate_left
    · have es:isSide ((cs.length:Int)+1+((cs2.length:Int)+1))=false:=by
        unfold isSide
        rw [decide_eq_false (by omega:¬ (cs.length:Int)+1+((cs2.length:Int)+1)<41),Bool.and_false]
      rw [es]
      walk_at "rd"
      exact ⟨by show 1≤sizeLine; decide,zs (fun x=>lj x.2) _ (Same.refl _)⟩
    have zu:=zu ⟨hr2,lj⟩
    have z:=z ⟨hr2,lj⟩
    clear zs
    have es:isSide ((cs.length:Int)+1+((cs2.length:Int)+1))=true:=by
      unfold isSide
      rw [decide_eq_true (by omega),decide_eq_true (by omega)]; rfl
    rw [es]
    walk_at "rd"
    refine rd_methv e1 (nl (by decide +kernel)) ?_
    walk_at "rd"
    refine ⟨p,s,cs,rs,rfl,hp,fun l1 n1=>?_⟩
    have s1:=Same.new (o:=HO.lst (rs.map V.int)) n1
    walk_at "rd"
    refine rd_methv (s1 _ _ e1) (nl (by decide +kernel)) ?_
    walk_at "rd"
    refine ⟨p,s,cs,rs,rfl,hp.mono s1,?_⟩
    walk_at "rd"
    refine ⟨l1,_,rs,rfl,upd_same,by omega,fun l2 H2 s2' n2 q2=>?_⟩
    have s12:=s1.trans s2'
    clear s1 s2' n1 n2
    walk_at "rd"
    first | refine rd_ienum ?_ | skip
    walk_at "rd"
    refine rd_methv (s12 _ _ f1) (nl (by decide +kernel)) ?_
    walk_at "rd"
    refine ⟨q,_,cs2,_,rfl,hq.mono s12,fun l3 n3=>?_⟩
    have s3:=Same.new (o:=HO.lst (rs2.map V.int)) n3
    have q3:=upd_same (H:=H2) (a:=l3) (o:=HO.lst (rs2.map V.int))
    generalize upd H2 l3 (HO.lst (rs2.map V.int))=H3 at s3 q3 ⊢
    walk_at "rd"
    refine ⟨l3,rfl,⟨_,SqL.of q3⟩,?_⟩
    have s13:=s12.trans s3
    have q2:=s3 _ _ q2
    refine forW_enum (K:=K) (a:=l3) (xs:=rs2.map V.int) (fun i σ' H'=>∃ (o3 o4:Option V),σ'=[some (.ref p),some (.ref q),some (.ref l2),o3,o4,none]∧Same H3 H'∧∀ j:Nat,j<i→badAt rs rs2 ((cs.length:Int)+1) j=false)
      ⟨none,none,rfl,Same.refl _,fun j hj=>absurd hj (Nat.not_lt_zero _)⟩ (fun i σ' H' _ ⟨_,_,_,s6,_⟩=>SqL.of (s6 _ _ q3)) ?_ ?_
    · rintro i x σ' H4 t4 hx ⟨o3,o4,rfl,s4,nb⟩ n4
      have hi:i<rs2.length:=by have:=(List.getElem?_eq_some_iff.mp hx).1; rwa [List.length_map] at this
      have ex:x=V.int (rs2.getD i 0):=by
        rw [List.getElem?_map,List.getElem?_eq_getElem hi] at hx
        rw [List.getD_eq_getElem?_getD,List.getElem?_eq_getElem hi]
        exact (Option.some.inj hx).symm
      subst ex
      have s5:=Same.new (o:=HO.tup [V.int (i:Nat),V.int (rs2.getD i 0)]) n4
      refine rd_gtup upd_same rfl ?_
      walk_at "rd"
      refine rd_ixL (SqL.of (s5 _ _ (s4 _ _ q2))) (atI_ints (i:=(i:Nat)) (by omega) (by rw [shl_len]; omega)) ?_
      rw [Int.toNat_natCast]
      walk_at "rd"
      have bi:decide (rs2.getD i 0=(shl rs ((cs.length:Int)+1)).getD i 0)=!badAt rs rs2 ((cs.length:Int)+1) i:=by rw [bad_iff br br2 (by omega) hi,Bool.not_not]
      rw [bi]
      cases hb:badAt rs rs2 ((cs.length:Int)+1) i with
      | false =>
        walk_at "rd"
        refine ⟨_,_,rfl,s4.trans s5,fun j hj=>?_⟩
        by_cases h:j=i
        · rw [h]; exact hb
        · exact nb j (by omega)
      | true =>
        walk_at "rd"
        refine rd_raiseI ?_
        walk_at "rd"
        refine ⟨by show 1≤sizeLine; decide,fun e he=>⟨e,i,rfl,by omega,upd_same,fun d hd ne=>⟨rfl,some d,upd_same,?_⟩⟩⟩
        rw [del_made (C:=t.a_Unfit) he ne]
        have hd':upd H4 t4 (HO.tup [V.int (i:Nat),V.int (rs2.getD i 0)]) d=none:=by rw [upd_ne ne] at hd; exact hd
        exact zu i (by omega) hb nb d _ (s13.trans (s4.trans (s5.trans (Same.new hd')))) upd_same
    · rintro σ' H4 ⟨o3,o4,rfl,s4,nb⟩
      have z:=z (fun j hj=>nb j (by rw [List.length_map]; omega))
      clear nb zu
      have s14:=s13.trans s4
      clear s12 s13 s3 s4 q2 q3 n3
      have hp4:=hp.mono s14
      have hq4:=hq.mono s14
      have e14:=s14 _ _ e1
      have f14:=s14 _ _ f1
      walk_at "rd"
      refine rd_methv e14 (nl (by decide +kernel)) ?_
      walk_at "rd"
      refine rd_methv e14 (nl (by decide +kernel)) ?_
      walk_at "rd"
      refine ⟨p,s,cs,rs,rfl,hp4,?_⟩
      walk_at "rd"
      rw [show ((cs.length:Int)+1 - 1)=(cs.length:Nat) by omega]
      refine ⟨p,_,0,s,cs,rs,rfl,hp4,bc,br,.inl ⟨⟨⟨by omega,by omega⟩,by decide,by omega⟩,fun H5 s5=>?_⟩⟩
      walk_at "rd"
      refine rd_methv (s5 _ _ f14) (nl (by decide +kernel)) ?_
      walk_at "rd"
      refine ⟨q,s2,cs2,_,rfl,hq4.mono s5,?_⟩
      walk_at "rd"
      refine rd_I (by decide) ?_
      have hb:(colr s cs rs (cs.length:Nat) 0+s2)%2=0∨(colr s cs rs (cs.length:Nat) 0+s2)%2=1:=by omega
      generalize (colr s cs rs (cs.length:Nat) 0+s2)%2=bw at hb z ⊢
      have s15:=s14.trans s5
      clear s14 hp4 hq4 e14 f14 s5
      walk_at "rd"
      refine rd_methv (s15 _ _ e1) (nl (by decide +kernel)) ?_
      walk_at "rd"
      refine ⟨p,s,cs,rs,rfl,hp.mono s15,?_⟩
      walk_at "rd"
      refine rd_methv (s15 _ _ e1) (nl (by decide +kernel)) ?_
      walk_at "rd"
      refine ⟨p,s,cs,rs,rfl,hp.mono s15,fun l4 n4=>?_⟩
      have t4:=Same.new (o:=HO.lst (cs.map V.int)) n4
      have q4:=upd_same (H:=H5) (a:=l4) (o:=HO.lst (cs.map V.int))
      generalize upd H5 l4 (HO.lst (cs.map V.int))=H6 at t4 q4 ⊢
      walk_at "rd"
      refine ⟨by show 1≤sizeLine; decide,fun l5 n5=>?_⟩
      have t5:=Same.new (o:=HO.lst [V.int bw]) n5
      have q5:=upd_same (H:=H6) (a:=l5) (o:=HO.lst [V.int bw])
      generalize upd H6 l5 (HO.lst [V.int bw])=H7 at t5 q5 ⊢
      have small:∀ n:Nat,n≤100→n≤sizeLine:=fun n hn=>Nat.le_of_lt (small1000 (by omega))
      refine rd_cat (t5 _ _ q4) q5 (small _ (by rw [List.length_map]; show _+1≤100; omega)) fun l6 n6=>?_
      have t6:=Same.new (o:=HO.lst (cs.map V.int++[V.int bw])) n6
      have q6:=upd_same (H:=H7) (a:=l6) (o:=HO.lst (cs.map V.int++[V.int bw]))
      generalize upd H7 l6 (HO.lst (cs.map V.int++[V.int bw]))=H8 at t6 q6 ⊢
      have s18:=s15.trans (t4.trans (t5.trans t6))
      clear t4 t5 t6 q4 q5 n4 n5 n6 s15
      walk_at "rd"
      refine rd_methv (s18 _ _ f1) (nl (by decide +kernel)) ?_
      walk_at "rd"
      refine ⟨q,s2,cs2,_,rfl,hq.mono s18,fun l7 n7=>?_⟩
      have t7:=Same.new (o:=HO.lst (cs2.map V.int)) n7
      have q7:=upd_same (H:=H8) (a:=l7) (o:=HO.lst (cs2.map V.int))
      generalize upd H8 l7 (HO.lst (cs2.map V.int))=H9 at t7 q7 ⊢
      refine rd_cat (t7 _ _ q6) q7 (small _ (by rw [List.length_append,List.length_map,List.length_map]; show _+1+_≤100; omega)) fun l8 n8=>?_
      rw [show cs.map V.int++[V.int bw]++cs2.map V.int=(cs++bw::cs2).map V.int by rw [List.map_append,List.map_cons,List.append_assoc]; rfl]
      have t8:=Same.new (o:=HO.lst ((cs++bw::cs2).map V.int)) n8
      have q8:=upd_same (H:=H9) (a:=l8) (o:=HO.lst ((cs++bw::cs2).map V.int))
      generalize upd H9 l8 (HO.lst ((cs++bw::cs2).map V.int))=HA at t8 q8 ⊢
      have s1A:=s18.trans (t7.trans t8)
      walk_at "rd"
      refine rd_methv (s1A _ _ e1) (nl (by decide +kernel)) ?_
      walk_at "rd"
      refine ⟨p,s,cs,rs,rfl,hp.mono s1A,fun l9 n9=>?_⟩
      have t9:=Same.new (o:=HO.lst (rs.map V.int)) n9
      have q9:=upd_same (H:=HA) (a:=l9) (o:=HO.lst (rs.map V.int))
      generalize upd HA l9 (HO.lst (rs.map V.int))=HB at t9 q9 ⊢
      walk_at "rd"
      intro x dxx nx ndx nex
      have sM:Same HB (upd (upd HB dxx (.own x)) x (.ins t.a_Cloth dxx [])):=(Same.new ndx).later nx
      have bj:=bits_join bc bc2 hb lj
      refine ⟨x,dxx,l8,l9,s,cs++bw::cs2,rs,rfl,upd_same,sM _ _ (t9 _ _ q8),sM _ _ q9,by have:=bj.1; omega,by omega,.inr (.inr ⟨⟨bj.1,br.1⟩,Bits.ok sh bj br,fun HC kp hX=>⟨rfl,?_⟩⟩)⟩
      exact z x HC (s1A.trans (t9.trans (made_at (c:=0) (r:=0) nx ndx kp))) hX
def Meets (wy:Str) (cs rs as bs:List Int):Prop:=(wy="col"∧as=rs∧bs=cs)∨(wy="row"∧as=cs∧bs=rs)
def spx_sewntogether (C BS UF NL:Addr):Sp:=fun vs H Q E=>∃ (p q:Addr) (wy:Str) (s s2:Int) (cs rs cs2 rs2:List Int),vs=[.ref p,.ref q,.str wy]∧ClothAt C H p s cs rs∧ClothAt C H q s2 cs2 rs2∧(s=0∨s=1)∧(s2=0∨s2=1)∧Bits cs∧Bits rs∧Bits cs2∧Bits rs2 ∧
 (wy="col"→Sews BS UF s cs rs s2 cs2 rs2 H (fun cs' H' x=>ClothAt C H' x s cs' rs→Q (.ref x) H') E) ∧
 (wy="row"→Sews BS UF s rs cs s2 rs2 cs2 H (fun rs' H' x=>ClothAt C H' x s cs rs'→Q (.ref x) H') E) ∧
 (¬ wy="col"→¬ wy="row"→E (.ref NL) none H)
theorem okx_sewntogether (T:Txt K mg t):FnOk P w K mg base (CX1 P w) 10 t.f_sewntogether t.d_sewntogether ["one","other","way"] (spx_sewntogether t.a_Cloth t.a_BadSize t.a_Unfit t.a_NoLine):=by
 have GX_sewnbeside:=okx_sewnbeside (P:=P) (w:=w) (base:=base) T
 have G_transposed:=ok_transposed (P:=P) (w:=w) (base:=base) T
 refine T.F_sewntogether.ok1 sc_sewntogether (fun vs H Q E h=>?_) (fun cdv A outer s H vs Q E hr h=>?_)
 ·obtain ⟨p,q,wy,s,s2,cs,rs,cs2,rs2,rfl,_⟩:=h; rfl
 ·obtain ⟨p,q,wy,s,s2,cs,rs,cs2,rs2,rfl,hp,hq,sh,sh2,bc,br,bc2,br2,hc,hrw,hn⟩:=h
  refine cutC (ps_if (pt_cmpR op_eq (pv 2) pe_str (nomark _)) (pss_one (ps_ret (pe_call GX_sewnbeside (hr.mono (by first | decide | omega)) rfl T.mg_sewnbeside T.F_sewnbeside.kp T.b_sewnbeside .nil pass1 (pa_cons (pv 0) (pa_cons (pv 1) pa_nil))))) pss_nil) fun _ _=>cutC (ps_if (pt_cmpR op_eq (pv 2) pe_str (nomark _)) (pss_one (ps_ret (pe_call G_transposed.up (hr.mono (by first | decide | omega)) rfl T.mg_transposed T.F_transposed.kp T.b_transposed .nil pass1 (pa_cons (pe_call GX_sewnbeside (hr.mono (by first | decide | omega)) rfl T.mg_sewnbeside T.F_sewnbeside.kp T.b_sewnbeside .nil pass1 (pa_cons (pe_call G_transposed.up (hr.mono (by first | decide | omega)) rfl T.mg_transposed T.F_transposed.kp T.b_transposed .nil pass1 (pa_cons (pv 0) pa_nil)) (pa_cons (pe_call G_transposed.up (hr.mono (by first | decide | omega)) rfl T.mg_transposed T.F_transposed.kp T.b_transposed .nil pass1 (pa_cons (pv 1) pa_nil)) pa_nil))) pa_nil)))) pss_nil) fun _ _=>cutE (ps_raiseK T.mg_NoLine T.x_NoLine PySem.F.excBase_ValueError rfl rfl (fun _ _ _ _ _ _ _ _ I m q=>xe_new I m q) (pa_cons pe_str pa_nil)) fun _ _=>?_
  walk_at "rd"
  refine ite2 (fun h0=>?_) (fun h0=>?_)
  ·walk_at "rd"
   exact ⟨p,q,s,s2,cs,rs,cs2,rs2,rfl,hp,hq,sh,bc,br,bc2,br2,hc (of_decide_eq_true h0)⟩
  ·walk_at "rd"
   refine ite2 (fun h1=>?_) (fun h1=>?_)
   ·have ⟨zs,zu,z⟩:=hrw (of_decide_eq_true h1)
    walk_at "rd"
    refine ⟨p,s,cs,rs,rfl,hp,sh,bc,br,fun x1 H1 s1 hx1=>?_⟩
    walk_at "rd"
    refine ⟨q,s2,cs2,rs2,rfl,hq.mono s1,sh2,bc2,br2,fun x2 H2 s2' hx2=>?_⟩
    walk_at "rd"
    have s12:=s1.trans s2'
    refine ⟨x1,x2,s,s2,rs,cs,rs2,cs2,rfl,hx1.mono s2',hx2,sh,br,bc,br2,bc2,fun n H3 s3=>zs n H3 (s12.trans s3),fun o k hk b1 b2 d H3 s3 e3=>zu o k hk b1 b2 d H3 (s12.trans s3) e3,fun o nb x H3 s3 hx=>?_⟩
    walk_at "rd"
    have bj:=bits_join br br2 (by omega:(colr s rs cs (rs.length:Nat) 0+s2)%2=0∨(colr s rs cs (rs.length:Nat) 0+s2)%2=1) o.2
    exact ⟨x,s,_,cs,rfl,hx,sh,bj,bc,fun y H4 s4 hy=>z o nb y H4 (s12.trans (s3.trans s4)) hy⟩
   ·walk_at "rd"
    exact ⟨by show 1≤sizeLine; decide,hn (fun x=>h0 (decide_eq_true x)) fun x=>h1 (decide_eq_true x)⟩
end
section
variable {P:Program} {w:World} {K:PySem.W.Frag} {mg:Str→Option Value} {base:Heap} {t:Ad}
def sgOk (c:Nat):Bool:=!decide ((sgn c).cps.toList<(("a":Str)).cps.toList)&&!decide ((("z":Str)).cps.toList<(sgn c).cps.toList)
def nameOk (x:Str):Bool:=decide (0<x.cps.size)&&decide (x.cps.size≤12)&&x.cps.toList.all sgOk
def sp_isname:Sp:=fun vs H Q _=>∃ x:Str,vs=[.str x]∧x.cps.size≤1000∧∀ H',Same H H'→Q (.bl (nameOk x)) H'
theorem ok_isname (T:Txt K mg t):FnOk P w K mg base CX0 1 t.f_isname t.d_isname ["name"] sp_isname:=by
 refine T.F_isname.ok sc_isname (fun vs H Q E h=>?_) (fun cdv A outer s H vs Q E hr h=>?_)
 ·obtain ⟨x,rfl,_⟩:=h; rfl
 ·obtain ⟨x,rfl,hz,k⟩:=h
  refine ⟨_,(pss_one (ps_ret (pe_and (pe_chain op_lt op_le pe_int (pe_callB cI_lenX rfl T.no_len (by rfl) (pa_cons (pv 0) pa_nil)) (pe_glob (v:=.int 12) rfl T.mg_LONGEST_NAME ⟨_,rfl⟩)) (pe_one (pe_callB (cI_allK K rfl rfl) rfl T.no_all (by rfl) (pa_cons (pe_comp (N:=["sign"]) (cap:=[none]) rfl ⟨rfl,rfl,rfl,rfl,rfl,rfl⟩ (pi_text (pv 0)) (fun _ _ _=>(pg_name (i:=0) (show (["sign"]:List Str).Nodup by decide +kernel) rfl (Or.inl rfl))) (fun _ _ _=>pts_nil) (fun _ _ _=>(pe_chain op_leS op_leS pe_str (pv 0) pe_str))) pa_nil)))))),?_⟩
  have hz':x.length≤sizeLine:=Nat.le_trans hz (by decide)
  walk_at "rd"
  refine rd_lenX hz' ?_
  walk_at "rd"
  have e0:nameOk x=(decide ((0:Int)<(x.length:Nat))&&(decide (((x.length:Nat):Int)≤12)&&x.cps.toList.all sgOk)):=by
   have a1:decide (0<x.cps.size)=decide ((0:Int)<(x.length:Nat)):=decide_eq_decide.mpr (by show 0<x.cps.size↔(0:Int)<(x.cps.size:Nat); omega)
   have a2:decide (x.cps.size≤12)=decide (((x.length:Nat):Int)≤12):=decide_eq_decide.mpr (by show x.cps.size≤12↔((x.cps.size:Nat):Int)≤12; omega)
   unfold nameOk
   rw [a1,a2,Bool.and_assoc]
  rw [e0] at k
  generalize decide ((0:Int)<(x.length:Nat))=u1 at k ⊢
  cases u1 with
  | false =>
   walk_at "rd"
   exact k _ (Same.refl _)
  | true =>
   walk_at "rd"
   generalize decide (((x.length:Nat):Int)≤12)=u2 at k ⊢
   cases u2 with
   | false =>
    walk_at "rd"
    exact k _ (Same.refl _)
   | true =>
    walk_at "rd"
    refine ⟨x,rfl,fun l nl=>?_⟩
    refine compW_textL ((x.cps.toList.map sgOk).map V.bl) (by rw [List.length_map,List.length_map,Array.length_toList]) hz nl (fun i c y o H' Q' hc hy s5 q=>?_) (fun H1 s1 e1=>?_)
    ·rw [List.getElem?_map,List.getElem?_map,Array.getElem?_toList,hc] at hy
     cases hy
     walk_at "rd"
     unfold sgOk at q
     generalize decide ((sgn c).cps.toList<(("a":Str)).cps.toList)=v1 at q ⊢
     cases v1 with
     | true =>
      walk_at "rd"
      exact q _ (Same.refl _)
     | false =>
      walk_at "rd"
      exact q _ (Same.refl _)
    ·walk_at "rd"
     refine rd_all e1 ?_
     walk_at "rd"
     rw [List.all_map]
     exact k H1 s1
end
section
variable {P:Program} {w:World} {K:PySem.W.Frag} {mg:Str→Option Value} {base:Heap} {t:Ad}
abbrev Clo:=Int×List Int×List Int
abbrev Bk:=List (Str×Clo)
def NoT (H:Hp) (S:List Addr):Prop:=∀ x∈S,∀ xs,H x≠some (.tup xs)
theorem but_tup {S:List Addr} {H H':Hp} (m:ButL S H H') (n:NoT H S) {b:Addr} {xs:List V} (e:H b=some (.tup xs)):H' b=some (.tup xs):=m b _ e fun z=>n b z xs e
def CloV (C:Addr) (H:Hp) (v:V) (c:Clo):Prop:=∃ x,v=.ref x∧ClothAt C H x c.1 c.2.1 c.2.2∧(c.1=0∨c.1=1)∧Bits c.2.1∧Bits c.2.2
def PwB (C:Addr) (H:Hp) (kvs:List (Key×V)) (bk:Bk):Prop:=Paired (fun (kv:Key×V) (nc:Str×Clo)=>kv.1=Sum.inr nc.1∧CloV C H kv.2 nc.2) kvs bk
def BkAt (C:Addr) (H:Hp) (d:Addr) (bk:Bk):Prop:=∃ kvs,H d=some (.dK kvs)∧PwB C H kvs bk
def PwD (C:Addr) (H:Hp) (ds:List Addr) (bks:List Bk):Prop:=ds.length=bks.length∧∀ (i:Nat) d bk,ds[i]?=some d→bks[i]?=some bk→BkAt C H d bk
abbrev NoCF (m:Str):Prop:=(¬ m="cloths")∧(¬ m="ahead_of_deeds")∧¬ m="behind_undone"
structure CL (fs:List (Str×V)) (d la lb:Addr):Prop where
 c:fs.lookup ("cloths":Str)=some (.ref d)
 a:fs.lookup ("ahead_of_deeds":Str)=some (.ref la)
 b:fs.lookup ("behind_undone":Str)=some (.ref lb)
 no:∀ m,NoCF m→fs.lookup m=none
 len:fs.length≤3
structure ChAt (C CH:Addr) (H:Hp) (p la lb:Addr) (past:List Bk) (now:Bk) (ahead:List Bk):Prop where
 ob:∃ dx fs d,H p=some (.ins CH dx fs)∧CL fs d la lb∧BkAt C H d now
 pa:∃ ds,H la=some (.lst (ds.map V.ref))∧PwD C H ds past
 ah:∃ ds,H lb=some (.lst (ds.map V.ref))∧PwD C H ds ahead
 ne:la≠lb
def Apt (C:Addr) (H:Hp) (S:List Addr):Prop:=∀ x∈S,(∀ xs,H x≠some (.tup xs))∧(∀ kvs,H x≠some (.dK kvs))∧∀ dx s a b w h,H x≠some (.ins C dx (cfl s a b w h))
theorem Apt.not {C:Addr} {H:Hp} {S:List Addr} (h:Apt C H S):NoT H S:=fun x hx=>(h x hx).1
theorem CloV.but {C:Addr} {S:List Addr} {H H':Hp} {v:V} {c:Clo} (h:CloV C H v c) (m:ButL S H H') (n:Apt C H S):CloV C H' v c:=by
 obtain ⟨x,rfl,hc,b⟩:=h
 obtain ⟨dx,a,b',e1,e2,e3⟩:=hc.ob
 exact ⟨x,rfl,⟨dx,a,b',m _ _ e1 fun z=>(n x z).2.2 _ _ _ _ _ _ e1,but_tup m n.not e2,but_tup m n.not e3⟩,b⟩
theorem PwB.but {C:Addr} {S:List Addr} {H H':Hp} {kvs:List (Key×V)} {bk:Bk} (h:PwB C H kvs bk) (m:ButL S H H') (n:Apt C H S):PwB C H' kvs bk:=Paired.mapP h fun _ _ z=>⟨z.1,z.2.but m n⟩
theorem BkAt.but {C:Addr} {S:List Addr} {H H':Hp} {d:Addr} {bk:Bk} (h:BkAt C H d bk) (m:ButL S H H') (n:Apt C H S):BkAt C H' d bk:=by
 obtain ⟨kvs,e,p⟩:=h
 exact ⟨kvs,m _ _ e fun z=>(n d z).2.1 _ e,p.but m n⟩
theorem PwD.but {C:Addr} {S:List Addr} {H H':Hp} {ds:List Addr} {bks:List Bk} (h:PwD C H ds bks) (m:ButL S H H') (n:Apt C H S):PwD C H' ds bks:=⟨h.1,fun i d bk h1 h2=>(h.2 i d bk h1 h2).but m n⟩
theorem Apt.nil {C:Addr} {H:Hp}:Apt C H []:=fun x hx=>nomatch hx
theorem BkAt.mono {C:Addr} {H H':Hp} {d:Addr} {bk:Bk} (s:Same H H') (h:BkAt C H d bk):BkAt C H' d bk:=h.but (s.butL []) Apt.nil
theorem PwD.mono {C:Addr} {H H':Hp} {ds:List Addr} {bks:List Bk} (s:Same H H') (h:PwD C H ds bks):PwD C H' ds bks:=h.but (s.butL []) Apt.nil
theorem ChAt.mono {C CH:Addr} {H H':Hp} {p la lb:Addr} {past ahead:List Bk} {now:Bk} (s:Same H H') (h:ChAt C CH H p la lb past now ahead):ChAt C CH H' p la lb past now ahead :=
 ⟨let ⟨dx,fs,d,e1,e2,e3⟩:=h.ob; ⟨dx,fs,d,s _ _ e1,e2,e3.mono s⟩,let ⟨ds,e1,e2⟩:=h.pa; ⟨ds,s _ _ e1,e2.mono s⟩,let ⟨ds,e1,e2⟩:=h.ah; ⟨ds,s _ _ e1,e2.mono s⟩,h.ne⟩
theorem cfl_ch {s w h:Int} {a b:Addr}:(cfl s a b w h).lookup ("cloths":Str)=none:=cfl_no _ _ _ (by decide +kernel)
theorem ChAt.apt {C CH:Addr} {H:Hp} {p la lb:Addr} {past ahead:List Bk} {now:Bk} (h:ChAt C CH H p la lb past now ahead):Apt C H [p,la,lb]:=fun x hx=>by
 obtain ⟨dx,fs,d,e1,cl,_⟩:=h.ob
 obtain ⟨ds,e2,_⟩:=h.pa
 obtain ⟨as,e3,_⟩:=h.ah
 simp only [List.mem_cons,List.not_mem_nil,or_false] at hx
 rcases hx with rfl | rfl | rfl
 ·rw [e1]
  refine ⟨fun _ z=>(by cases z),fun _ z=>(by cases z),fun dx' s a b w h z=>?_⟩
  injection z with z
  injection z with _ _ z
  have:=cl.c
  rw [z,cfl_ch] at this
  cases this
 ·rw [e2]
  exact ⟨fun _ z=>(by cases z),fun _ z=>(by cases z),fun _ _ _ _ _ _ z=>(by cases z)⟩
 ·rw [e3]
  exact ⟨fun _ z=>(by cases z),fun _ z=>(by cases z),fun _ _ _ _ _ _ z=>(by cases z)⟩
def sp_Chestundoable (C CH:Addr):Sp:=fun vs H Q _=>∃ (p la lb:Addr) (past ahead:List Bk) (now:Bk),vs=[.ref p]∧ChAt C CH H p la lb past now ahead∧Q (.int (past.length:Nat)) H
theorem ok_Chestundoable (T:Txt K mg t):FnOk P w K mg base CX0 1 t.f_Chestundoable t.d_Chestundoable ["self"] (sp_Chestundoable t.a_Cloth t.a_Chest):=by
 refine T.F_Chestundoable.ok sc_Chestundoable (fun vs H Q E h=>?_) (fun cdv A outer s H vs Q E hr h=>?_)
 ·obtain ⟨p,la,lb,past,ahead,now,rfl,_⟩:=h; rfl
 ·obtain ⟨p,la,lb,past,ahead,now,rfl,hc,q⟩:=h
  obtain ⟨dx,fs,d,e1,cl,_⟩:=hc.ob
  obtain ⟨ds,e2,e3,_⟩:=hc.pa
  refine ⟨_,(pss_one (ps_ret (pe_callB (cI_lenK K rfl) rfl T.no_len (by rfl) (pa_cons (pe_fldK K rfl (pv 0) rfl) pa_nil)))),?_⟩
  walk_at "rd"
  refine rd_fldv e1 T.cl_Chest T.naC_ahead_of_deeds cl.a ?_
  walk_at "rd"
  refine rd_lenL e2 ?_
  rw [List.length_map,e3]
  walk_at "rd"
  exact q
def sp_Chestredoable (C CH:Addr):Sp:=fun vs H Q _=>∃ (p la lb:Addr) (past ahead:List Bk) (now:Bk),vs=[.ref p]∧ChAt C CH H p la lb past now ahead∧Q (.int (ahead.length:Nat)) H
theorem ok_Chestredoable (T:Txt K mg t):FnOk P w K mg base CX0 1 t.f_Chestredoable t.d_Chestredoable ["self"] (sp_Chestredoable t.a_Cloth t.a_Chest):=by
 refine T.F_Chestredoable.ok sc_Chestredoable (fun vs H Q E h=>?_) (fun cdv A outer s H vs Q E hr h=>?_)
 ·obtain ⟨p,la,lb,past,ahead,now,rfl,_⟩:=h; rfl
 ·obtain ⟨p,la,lb,past,ahead,now,rfl,hc,q⟩:=h
  obtain ⟨dx,fs,d,e1,cl,_⟩:=hc.ob
  obtain ⟨ds,e2,e3,_⟩:=hc.ah
  refine ⟨_,(pss_one (ps_ret (pe_callB (cI_lenK K rfl) rfl T.no_len (by rfl) (pa_cons (pe_fldK K rfl (pv 0) rfl) pa_nil)))),?_⟩
  walk_at "rd"
  refine rd_fldv e1 T.cl_Chest T.naC_behind_undone cl.b ?_
  walk_at "rd"
  refine rd_lenL e2 ?_
  rw [List.length_map,e3]
  walk_at "rd"
  exact q
def namesV (bk:Bk):List V:=bk.map fun nc=>V.str nc.1
theorem PwB.keys {C:Addr} {H:Hp} {kvs:List (Key×V)} {bk:Bk} (h:PwB C H kvs bk):kvs.map (·.1)=bk.map fun nc=>Sum.inr nc.1:=by
 induction h with
 | nil=>rfl
 | cons r _ ih=>rw [List.map_cons,List.map_cons,ih,r.1]
def sp_Chestnames (C CH:Addr):Sp:=fun vs H Q _=>∃ (p la lb:Addr) (past ahead:List Bk) (now:Bk),vs=[.ref p]∧ChAt C CH H p la lb past now ahead∧∀ l,H l=none→Q (.ref l) (upd H l (.lst (namesV now)))
theorem ok_Chestnames (T:Txt K mg t):FnOk P w K mg base CX0 1 t.f_Chestnames t.d_Chestnames ["self"] (sp_Chestnames t.a_Cloth t.a_Chest):=by
 refine T.F_Chestnames.ok sc_Chestnames (fun vs H Q E h=>?_) (fun cdv A outer s H vs Q E hr h=>?_)
 ·obtain ⟨p,la,lb,past,ahead,now,rfl,_⟩:=h; rfl
 ·obtain ⟨p,la,lb,past,ahead,now,rfl,hc,q⟩:=h
  obtain ⟨dx,fs,d,e1,cl,kvs,e2,pw⟩:=hc.ob
  refine ⟨_,(pss_one (ps_ret (pe_callTy (cI_listK' rfl) rfl T.no_list (by rfl) (pa_cons (pe_fldK K rfl (pv 0) rfl) pa_nil)))),?_⟩
  walk_at "rd"
  refine rd_fldv e1 T.cl_Chest T.naC_cloths cl.c ?_
  walk_at "rd"
  refine ⟨d,kvs,rfl,e2,fun l nl=>?_⟩
  have e:(kvs.map fun p=>kV p.1)=namesV now:=by
   have:=congrArg (List.map kV) pw.keys
   rw [List.map_map,List.map_map] at this
   exact this
  rw [e]
  walk_at "rd"
  exact q l nl
end
section
variable {P:Program} {w:World} {K:PySem.W.Frag} {mg:Str→Option Value} {base:Heap} {t:Ad}
def bkGet (bk:Bk) (n:Str):Option Clo:=(bk.find? fun nc=>decide (nc.1=n)).map (·.2)
def bkPut (bk:Bk) (n:Str) (c:Clo):Bk:=if (bk.any fun nc=>decide (nc.1=n))=true then bk.map (fun nc=>if nc.1=n then (nc.1,c) else nc) else bk++[(n,c)]
def bkDrop (bk:Bk) (n:Str):Bk:=bk.filter fun nc=>decide (nc.1≠n)
theorem key_ne {k:Key} {a n:Str} (h:k=Sum.inr a):k=Sum.inr n↔a=n:=by subst h; exact ⟨fun z=>by injection z,fun z=>by rw [z]⟩
section
variable {C:Addr} {H:Hp} {kvs:List (Key×V)} {bk:Bk}
theorem PwB.get (h:PwB C H kvs bk) (n:Str):(valV kvs (Sum.inr n)=none∧bkGet bk n=none)∨∃ v c,valV kvs (Sum.inr n)=some v∧bkGet bk n=some c∧CloV C H v c:=by
 induction h with
 | nil=>exact .inl ⟨rfl,rfl⟩
 | @cons p nc ps ncs r _ ih =>
  by_cases e:nc.1=n
  ·exact .inr ⟨p.2,nc.2,valV_pos ((key_ne r.1).mpr e),by unfold bkGet; rw [List.find?_cons_of_pos (by simpa using e)]; rfl,r.2⟩
  ·have e1:valV (p::ps) (Sum.inr n)=valV ps (Sum.inr n):=valV_neg fun z=>e ((key_ne r.1).mp z)
   have e2:bkGet (nc::ncs) n=bkGet ncs n:=by unfold bkGet; rw [List.find?_cons_of_neg (by simpa using e)]
   rw [e1,e2]; exact ih
theorem PwB.any (h:PwB C H kvs bk) (n:Str):(kvs.any fun kv=>decide (kv.1=Sum.inr n))=bk.any fun nc=>decide (nc.1=n):=by
 induction h with
 | nil=>rfl
 | cons r _ ih =>
  rw [List.any_cons,List.any_cons,ih]
  congr 1
  exact decide_eq_decide.mpr (key_ne r.1)
theorem PwB.set (h:PwB C H kvs bk) {n:Str} {v:V} {c:Clo} (hv:CloV C H v c):PwB C H (kvs.map fun kv=>if kv.1=Sum.inr n then (kv.1,v) else kv) (bk.map fun nc=>if nc.1=n then (nc.1,c) else nc):=by
 induction h with
 | nil=>exact .nil
 | cons r _ ih =>
  refine .cons ?_ ih
  rename_i p nc _ _ _
  dsimp only
  by_cases e:nc.1=n
  ·rw [if_pos ((key_ne r.1).mpr e),if_pos e]; exact ⟨r.1,hv⟩
  ·rw [if_neg (fun z=>e ((key_ne r.1).mp z)),if_neg e]; exact r
theorem PwB.snoc (h:PwB C H kvs bk) {n:Str} {v:V} {c:Clo} (hv:CloV C H v c):PwB C H (kvs++[(Sum.inr n,v)]) (bk++[(n,c)]):=Paired.snoc h ⟨rfl,hv⟩
theorem PwB.put (h:PwB C H kvs bk) (n:Str) {v:V} {c:Clo} (hv:CloV C H v c):PwB C H (putK kvs (Sum.inr n) v) (bkPut bk n c):=by
 unfold putK bkPut
 rw [h.any n]
 split
 ·exact h.set hv
 ·exact h.snoc hv
theorem PwB.drop (h:PwB C H kvs bk) (n:Str):PwB C H (dropK kvs (Sum.inr n)) (bkDrop bk n):=by
 unfold dropK bkDrop
 induction h with
 | nil=>exact .nil
 | cons r _ ih =>
  rename_i p nc _ _ _
  by_cases e:nc.1=n
  ·rw [List.filter_cons_of_neg (by simpa using (key_ne r.1).mpr e),List.filter_cons_of_neg (by simpa using e)]; exact ih
  ·rw [List.filter_cons_of_pos (by simpa using fun z=>e ((key_ne r.1).mp z)),List.filter_cons_of_pos (by simpa using e)]; exact .cons r ih
end
def spx_Chestcloth (C CH NC:Addr):Sp:=fun vs H Q E=>∃ (p la lb:Addr) (past ahead:List Bk) (now:Bk) (n:Str),vs=[.ref p,.str n]∧ChAt C CH H p la lb past now ahead ∧
 ((bkGet now n=none∧E (.ref NC) none H)∨∃ c,bkGet now n=some c∧∀ v,CloV C H v c→Q v H)
theorem okx_Chestcloth (T:Txt K mg t):FnOk P w K mg base (CX1 P w) 1 t.f_Chestcloth t.d_Chestcloth ["self","name"] (spx_Chestcloth t.a_Cloth t.a_Chest t.a_NoCloth):=by
 refine T.F_Chestcloth.ok1 sc_Chestcloth (fun vs H Q E h=>?_) (fun cdv A outer s H vs Q E hr h=>?_)
 ·obtain ⟨p,la,lb,past,ahead,now,n,rfl,_⟩:=h; rfl
 ·obtain ⟨p,la,lb,past,ahead,now,n,rfl,hc,q⟩:=h
  obtain ⟨dx,fs,d,e1,cl,kvs,e2,pw⟩:=hc.ob
  refine ⟨_,(pss_cons (ps_if (pt_cmp (pc_dnotin (hu_of hr) (pv 1) (pe_fldK K rfl (pv 0) rfl))) (pss_one (ps_raiseK T.mg_NoCloth T.x_NoCloth PySem.F.excBase_ValueError rfl rfl (fun _ _ _ _ _ _ _ _ I m q=>xe_new I m q) (pa_cons pe_str pa_nil))) pss_nil) (pss_one (ps_ret (pe_dget (hu_of hr) (pe_fldK K rfl (pv 0) rfl) (pv 1) (fun _ _=>rfl))))),?_⟩
  walk_at "rd"
  refine rd_fldv e1 T.cl_Chest T.naC_cloths cl.c ?_
  walk_at "rd"
  refine ⟨d,_,rfl,DGet.k (k:=Sum.inr n) e2,?_⟩
  rcases pw.get n with ⟨g1,g2⟩ | ⟨v,c,g1,g2,g3⟩
  ·rw [g1,Option.isSome_none]
   walk_at "rd"
   rcases q with ⟨_,q⟩ | ⟨c,z,_⟩
   ·exact ⟨by show 1≤sizeLine; decide,q⟩
   ·rw [g2] at z; cases z
  ·rw [g1,Option.isSome_some]
   walk_at "rd"
   refine rd_fldv e1 T.cl_Chest T.naC_cloths cl.c ?_
   walk_at "rd"
   rcases q with ⟨z,_⟩ | ⟨c',z,q⟩
   ·rw [g2] at z; cases z
   ·rw [g2] at z
    cases z
    exact ⟨d,v,rfl,by rw [← g1]; exact DGet.k (k:=Sum.inr n) e2,q v g3⟩
def sp_Chestcloth (C CH:Addr):Sp:=fun vs H Q _=>∃ (p la lb:Addr) (past ahead:List Bk) (now:Bk) (n:Str) (c:Clo),vs=[.ref p,.str n]∧ChAt C CH H p la lb past now ahead∧bkGet now n=some c∧∀ v,CloV C H v c→Q v H
theorem ok_Chestcloth (T:Txt K mg t):FnOk P w K mg base CX0 1 t.f_Chestcloth t.d_Chestcloth ["self","name"] (sp_Chestcloth t.a_Cloth t.a_Chest) :=
 (okx_Chestcloth T).down fun vs H Q E hh=>by
  obtain ⟨p,la,lb,past,ahead,now,n,c,e,hc,g,k⟩:=hh
  exact ⟨p,la,lb,past,ahead,now,n,e,hc,.inr ⟨c,g,k⟩⟩
def spx_Chestneedfree (C CH BN TK:Addr):Sp:=fun vs H Q E=>∃ (p la lb:Addr) (past ahead:List Bk) (now:Bk) (n:Str),vs=[.ref p,.str n]∧n.cps.size≤1000∧ChAt C CH H p la lb past now ahead ∧
 (nameOk n=false→∀ H',Same H H'→E (.ref BN) none H')∧(nameOk n=true→(bkGet now n).isSome=true→∀ H',Same H H'→E (.ref TK) none H')∧(nameOk n=true→bkGet now n=none→∀ H',Same H H'→Q .non H')
theorem okx_Chestneedfree (T:Txt K mg t):FnOk P w K mg base (CX1 P w) 2 t.f_Chestneedfree t.d_Chestneedfree ["self","name"] (spx_Chestneedfree t.a_Cloth t.a_Chest t.a_BadName t.a_Taken):=by
 have G_isname:=ok_isname (P:=P) (w:=w) (base:=base) T
 refine T.F_Chestneedfree.ok1 sc_Chestneedfree (fun vs H Q E h=>?_) (fun cdv A outer s H vs Q E hr h=>?_)
 ·obtain ⟨p,la,lb,past,ahead,now,n,rfl,_⟩:=h; rfl
 ·obtain ⟨p,la,lb,past,ahead,now,n,rfl,hz,hc,k1,k2,k3⟩:=h
  refine ⟨_,(pss_cons (ps_if (pt_not (pt_val (pe_call G_isname.up (hr.mono (by first | decide | omega)) rfl T.mg_isname T.F_isname.kp T.b_isname .nil pass1 (pa_cons (pv 1) pa_nil)))) (pss_one (ps_raiseK T.mg_BadName T.x_BadName PySem.F.excBase_ValueError rfl rfl (fun _ _ _ _ _ _ _ _ I m q=>xe_new I m q) (pa_cons pe_str pa_nil))) pss_nil) (pss_one (ps_if (pt_cmp (pc_din (hu_of hr) (pv 1) (pe_fldK K rfl (pv 0) rfl))) (pss_one (ps_raiseK T.mg_Taken T.x_Taken PySem.F.excBase_ValueError rfl rfl (fun _ _ _ _ _ _ _ _ I m q=>xe_new I m q) (pa_cons pe_str pa_nil))) pss_nil))),?_⟩
  walk_at "rd"
  refine ⟨n,rfl,hz,fun H1 s1=>?_⟩
  cases hn:nameOk n with
  | false =>
   walk_at "rd"
   exact ⟨by show 1≤sizeLine; decide,k1 hn H1 s1⟩
  | true =>
   obtain ⟨dx,fs,d,e1,cl,kvs,e2,pw⟩:=(hc.mono s1).ob
   walk_at "rd"
   refine rd_fldv e1 T.cl_Chest T.naC_cloths cl.c ?_
   walk_at "rd"
   refine ⟨d,_,rfl,DGet.k (k:=Sum.inr n) e2,?_⟩
   rcases pw.get n with ⟨g1,g2⟩ | ⟨v,c,g1,g2,g3⟩
   ·rw [g1,Option.isSome_none]
    walk_at "rd"
    exact k3 hn g2 H1 s1
   ·rw [g1,Option.isSome_some]
    walk_at "rd"
    exact ⟨by show 1≤sizeLine; decide,k2 hn (by rw [g2]; rfl) H1 s1⟩
theorem putF_len {f:Str} {v:V}:∀ {fs:List (Str×V)},(fs.lookup f).isSome=true→(putF f v fs).length=fs.length
 | [],h=>by cases h
 | (g,x)::r,h=>by
  unfold putF
  by_cases e:g=f
  ·rw [if_pos e]; rfl
  ·rw [if_neg e,List.length_cons,List.length_cons,putF_len (fs:=r) ?_]
   have hb:(f==g)=false:=beq_eq_false_iff_ne.mpr fun z=>e z.symm
   simpa only [List.lookup,hb] using h
theorem CL.setC {fs:List (Str×V)} {d d' la lb:Addr} (h:CL fs d la lb):CL (putF "cloths" (.ref d') fs) d' la lb where
 c:=by rw [lookup_putF,if_pos rfl]
 a:=by rw [lookup_putF,if_neg (by decide +kernel)]; exact h.a
 b:=by rw [lookup_putF,if_neg (by decide +kernel)]; exact h.b
 no:=fun m z=>by rw [lookup_putF,if_neg z.1]; exact h.no m z
 len:=by rw [putF_len (by rw [h.c]; rfl)]; exact h.len
theorem CL.setB {fs:List (Str×V)} {d la lb lb':Addr} (h:CL fs d la lb):CL (putF "behind_undone" (.ref lb') fs) d la lb' where
 c:=by rw [lookup_putF,if_neg (by decide +kernel)]; exact h.c
 a:=by rw [lookup_putF,if_neg (by decide +kernel)]; exact h.a
 b:=by rw [lookup_putF,if_pos rfl]
 no:=fun m z=>by rw [lookup_putF,if_neg z.2.2]; exact h.no m z
 len:=by rw [putF_len (by rw [h.b]; rfl)]; exact h.len
theorem PwD.snoc {C:Addr} {H:Hp} {ds:List Addr} {bks:List Bk} {d:Addr} {bk:Bk} (h:PwD C H ds bks) (hd:BkAt C H d bk):PwD C H (ds++[d]) (bks++[bk]):=by
 refine ⟨by rw [List.length_append,List.length_append,h.1]; rfl,fun i d' bk' h1 h2=>?_⟩
 by_cases c:i<ds.length
 ·rw [List.getElem?_append_left c] at h1
  rw [List.getElem?_append_left (by rw [← h.1]; exact c)] at h2
  exact h.2 i d' bk' h1 h2
 ·rw [List.getElem?_append_right (by omega)] at h1
  rw [List.getElem?_append_right (by rw [← h.1]; omega),← h.1] at h2
  have hi:i - ds.length=0:=by
   have:=(List.getElem?_eq_some_iff.mp h1).1
   rw [List.length_singleton] at this; omega
  rw [hi] at h1 h2
  cases h1
  cases h2
  exact hd
theorem PwD.nil {C:Addr} {H:Hp}:PwD C H [] []:=⟨rfl,fun i d bk h=>by simp at h⟩
def sp_Chestbecome (C CH:Addr):Sp:=fun vs H Q _=>∃ (p la lb d':Addr) (past ahead:List Bk) (now bk':Bk),vs=[.ref p,.ref d']∧ChAt C CH H p la lb past now ahead∧past.length≤1000∧BkAt C H d' bk' ∧
 ∀ lb' H',ButL [p,la] H H'→H lb'=none→ChAt C CH H' p la lb' (past++[now]) bk' []→Q .non H'
theorem ok_Chestbecome (T:Txt K mg t):FnOk P w K mg base CX0 1 t.f_Chestbecome t.d_Chestbecome ["self","cloths"] (sp_Chestbecome t.a_Cloth t.a_Chest):=by
 refine T.F_Chestbecome.ok sc_Chestbecome (fun vs H Q E h=>?_) (fun cdv A outer s H vs Q E hr h=>?_)
 ·obtain ⟨p,la,lb,d',past,ahead,now,bk',rfl,_⟩:=h; rfl
 ·obtain ⟨p,la,lb,d',past,ahead,now,bk',rfl,hc,hz,hb,k⟩:=h
  have ap:=hc.apt
  have ap2:Apt t.a_Cloth H [p,la]:=fun x hx=>ap x (by
   simp only [List.mem_cons,List.not_mem_nil,or_false] at hx ⊢
   rcases hx with z | z
   ·exact .inl z
   ·exact .inr (.inl z))
  obtain ⟨dx,fs,d,e1,cl,hd⟩:=hc.ob
  obtain ⟨ds,e2,pd⟩:=hc.pa
  refine cutC (ps_expr (pe_bm PySem.F.plainAttrs_list PySem.F.slot_list_append PySem.F.type_list_append mt_append (pe_fldK K rfl (pv 0) rfl) (pa_cons (pe_fldK K rfl (pv 0) rfl) pa_nil))) fun _ _=>cutC (ps_fld (pv 0) (pv 1) rfl) fun _ _=>cutE (ps_fld (pv 0) (pe_lst pa_nil) rfl) fun _ _=>?_
  walk_at "rd"
  refine rd_fldv e1 T.cl_Chest T.naC_ahead_of_deeds cl.a ?_
  walk_at "rd"
  refine rd_bmL e2 ?_
  walk_at "rd"
  refine rd_fldv e1 T.cl_Chest T.naC_cloths cl.c ?_
  walk_at "rd"
  refine rd_append e2 (by rw [List.length_map,pd.1]; exact small1000 (by omega)) ?_
  have pla:p≠la:=ne_of e1 e2 (fun z=>nomatch z)
  have m1:ButL [p,la] H (upd H la (.lst (ds.map V.ref++[.ref d]))):=(ButL.refl _ _).upd (List.mem_cons_of_mem _ List.mem_cons_self)
  have f1:upd H la (.lst (ds.map V.ref++[.ref d])) p=some (.ins t.a_Chest dx fs):=by rw [upd_ne pla]; exact e1
  have f2:=upd_same (H:=H) (a:=la) (o:=.lst (ds.map V.ref++[.ref d]))
  generalize upd H la (.lst (ds.map V.ref++[.ref d]))=H1 at m1 f1 f2 ⊢
  walk_at "rd"
  refine rd_sfldv f1 T.cl_Chest T.naC_cloths (Nat.lt_of_le_of_lt cl.len (by decide)) ?_
  have cl2:=cl.setC (d':=d')
  generalize hfs:putF (Str.ofString "cloths") (.ref d') fs=fs2 at cl2 ⊢
  have m2:ButL [p,la] H (upd H1 p (.ins t.a_Chest dx fs2)):=m1.upd List.mem_cons_self
  have g1:=upd_same (H:=H1) (a:=p) (o:=.ins t.a_Chest dx fs2)
  have g2:upd H1 p (.ins t.a_Chest dx fs2) la=some (.lst (ds.map V.ref++[.ref d])):=by rw [upd_ne (Ne.symm pla)]; exact f2
  generalize upd H1 p (.ins t.a_Chest dx fs2)=H2 at m2 g1 g2 ⊢
  walk_at "rd"
  refine ⟨Nat.zero_le _,fun lb' nl=>?_⟩
  have m3:ButL [p,la] H (upd H2 lb' (.lst [])):=m2.new nl
  have sl:=Same.new (o:=HO.lst []) nl
  have j1:=sl _ _ g1
  have j2:=sl _ _ g2
  have j3:=upd_same (H:=H2) (a:=lb') (o:=HO.lst [])
  generalize upd H2 lb' (HO.lst [])=H3 at m3 j1 j2 j3 ⊢
  walk_at "rd"
  refine rd_sfldv j1 T.cl_Chest T.naC_behind_undone (Nat.lt_of_le_of_lt cl2.len (by decide)) ?_
  have cl3:=cl2.setB (lb':=lb')
  generalize hfs3:putF (Str.ofString "behind_undone") (.ref lb') fs2=fs3 at cl3 ⊢
  have plb:p≠lb':=fun z=>by rw [z,nl] at g1; cases g1
  have lalb:la≠lb':=fun z=>by rw [z,nl] at g2; cases g2
  have m4:ButL [p,la] H (upd H3 p (.ins t.a_Chest dx fs3)):=m3.upd List.mem_cons_self
  have n1:=upd_same (H:=H3) (a:=p) (o:=.ins t.a_Chest dx fs3)
  have n2:upd H3 p (.ins t.a_Chest dx fs3) la=some (.lst ((ds++[d]).map V.ref)):=by rw [upd_ne (Ne.symm pla),j2,List.map_append]; rfl
  have n3:upd H3 p (.ins t.a_Chest dx fs3) lb'=some (.lst (([]:List Addr).map V.ref)):=by rw [upd_ne (Ne.symm plb),j3]; rfl
  generalize upd H3 p (.ins t.a_Chest dx fs3)=H4 at m4 n1 n2 n3 ⊢
  walk_at "rd"
  have nlb:H lb'=none:=by
   cases z:H lb' with
   | none=>rfl
   | some o =>
    have:=m2 lb' o z (by
     simp only [List.mem_cons,List.not_mem_nil,or_false]
     intro q
     rcases q with q | q
     ·exact plb q.symm
     ·exact lalb q.symm)
    rw [nl] at this; cases this
  exact k lb' H4 m4 nlb ⟨⟨dx,fs3,d',n1,cl3,hb.but m4 ap2⟩,⟨ds++[d],n2,(pd.but m4 ap2).snoc (hd.but m4 ap2)⟩,⟨[],n3,PwD.nil⟩,lalb⟩
end
section
variable {P:Program} {w:World} {K:PySem.W.Frag} {mg:Str→Option Value} {base:Heap} {t:Ad}
def Done (C CH:Addr) (H:Hp) (p la:Addr) (past:List Bk) (now bk:Bk) (Q:VK):Prop:=∀ lb' H',ButL [p,la] H H'→H lb'=none→ChAt C CH H' p la lb' (past++[now]) bk []→Q .non H'
theorem Done.back {C CH:Addr} {H H1:Hp} {p la:Addr} {past:List Bk} {now bk:Bk} {Q:VK} (h:Done C CH H p la past now bk Q) (s:Same H H1):Done C CH H1 p la past now bk Q:=fun lb' H' m n c=>h lb' H' ((s.butL _).trans m) (s.free n) c
theorem CloV.mono {C:Addr} {H H':Hp} {v:V} {c:Clo} (s:Same H H') (h:CloV C H v c):CloV C H' v c:=h.but (s.butL []) Apt.nil
def sp_Chestbecomewith (C CH:Addr):Sp:=fun vs H Q _=>∃ (p la lb:Addr) (past ahead:List Bk) (now:Bk) (n:Str) (v:V) (c:Clo),vs=[.ref p,.str n,v]∧ChAt C CH H p la lb past now ahead∧past.length≤1000∧now.length≤1000∧CloV C H v c∧Done C CH H p la past now (bkPut now n c) Q
theorem ok_Chestbecomewith (T:Txt K mg t):FnOk P w K mg base CX0 2 t.f_Chestbecomewith t.d_Chestbecomewith ["self","name","cloth"] (sp_Chestbecomewith t.a_Cloth t.a_Chest):=by
 have G_Chestbecome:=ok_Chestbecome (P:=P) (w:=w) (base:=base) T
 refine T.F_Chestbecomewith.ok sc_Chestbecomewith (fun vs H Q E h=>?_) (fun cdv A outer s H vs Q E hr h=>?_)
 ·obtain ⟨p,la,lb,past,ahead,now,n,v,c,rfl,_⟩:=h; rfl
 ·obtain ⟨p,la,lb,past,ahead,now,n,v,c,rfl,hc,hz,hn,hv,k⟩:=h
  obtain ⟨dx,fs,d,e1,cl,kvs,e2,pw⟩:=hc.ob
  have lk:kvs.length=now.length:=Paired.length pw
  refine cutC (ps_set (i:=3) sc_Chestbecomewith.nd rfl (Or.inl rfl) (pe_callTy cI_dictC rfl T.no_dict (by rfl) (pa_cons (pe_fldK K rfl (pv 0) rfl) pa_nil))) fun _ _=>cutC (ps_dput (hu_of hr) (pv 3) (pv 1) (pv 2) rfl) fun _ _=>cutE (ps_expr (pe_meth (pv 0) T.cl_Chest T.m_Chestbecome G_Chestbecome (hr.mono (by first | decide | omega)) T.b_Chestbecome .nil pass0 (pa_cons (pv 3) pa_nil))) fun _ _=>?_
  walk_at "rd"
  refine rd_fldv e1 T.cl_Chest T.naC_cloths cl.c ?_
  walk_at "rd"
  refine ⟨d,kvs,rfl,e2,fun d2 n2=>?_⟩
  have s1:=Same.new (o:=HO.dK kvs) n2
  have f2:=upd_same (H:=H) (a:=d2) (o:=HO.dK kvs)
  generalize upd H d2 (HO.dK kvs)=H1 at s1 f2 ⊢
  walk_at "rd"
  refine ⟨d2,_,rfl,DPut.k (k:=Sum.inr n) f2 (by rw [lk]; exact small1000 (by omega)),?_⟩
  have s2:Same H (upd H1 d2 (.dK (putK kvs (Sum.inr n) v))):=s1.later n2
  have g2:=upd_same (H:=H1) (a:=d2) (o:=HO.dK (putK kvs (Sum.inr n) v))
  generalize upd H1 d2 (.dK (putK kvs (Sum.inr n) v))=H2 at s2 g2 ⊢
  have hc2:=hc.mono s2
  obtain ⟨dx2,fs2,d3,i1,i2,_⟩:=hc2.ob
  walk_at "rd"
  refine rd_methv i1 (i2.no _ (by decide +kernel)) ?_
  walk_at "rd"
  refine ⟨p,la,lb,d2,past,ahead,now,bkPut now n c,rfl,hc2,hz,⟨_,g2,(pw.but (s2.butL []) Apt.nil).put n (hv.mono s2)⟩,fun lb' H3 m3 nl ch=>?_⟩
  walk_at "rd"
  exact k.back s2 lb' H3 m3 nl ch
def spx_Chestlay (C CH BN TK:Addr):Sp:=fun vs H Q E=>∃ (p la lb:Addr) (past ahead:List Bk) (now:Bk) (n:Str) (v:V) (c:Clo),vs=[.ref p,.str n,v]∧n.cps.size≤1000∧ChAt C CH H p la lb past now ahead∧past.length≤1000∧now.length≤1000∧CloV C H v c ∧
 (nameOk n=false→∀ H',Same H H'→E (.ref BN) none H')∧(nameOk n=true→(bkGet now n).isSome=true→∀ H',Same H H'→E (.ref TK) none H')∧(nameOk n=true→bkGet now n=none→Done C CH H p la past now (bkPut now n c) Q)
theorem okx_Chestlay (T:Txt K mg t):FnOk P w K mg base (CX1 P w) 3 t.f_Chestlay t.d_Chestlay ["self","name","cloth"] (spx_Chestlay t.a_Cloth t.a_Chest t.a_BadName t.a_Taken):=by
 have GX_Chestneedfree:=okx_Chestneedfree (P:=P) (w:=w) (base:=base) T
 have G_Chestbecomewith:=ok_Chestbecomewith (P:=P) (w:=w) (base:=base) T
 refine T.F_Chestlay.ok1 sc_Chestlay (fun vs H Q E h=>?_) (fun cdv A outer s H vs Q E hr h=>?_)
 ·obtain ⟨p,la,lb,past,ahead,now,n,v,c,rfl,_⟩:=h; rfl
 ·obtain ⟨p,la,lb,past,ahead,now,n,v,c,rfl,hsz,hc,hz,hn,hv,k1,k2,k3⟩:=h
  obtain ⟨dx,fs,d,e1,cl,_⟩:=hc.ob
  refine ⟨_,(pss_cons (ps_expr (pe_meth (pv 0) T.cl_Chest T.m_Chestneedfree GX_Chestneedfree (hr.mono (by first | decide | omega)) T.b_Chestneedfree .nil pass1 (pa_cons (pv 1) pa_nil))) (pss_one (ps_expr (pe_meth (pv 0) T.cl_Chest T.m_Chestbecomewith G_Chestbecomewith.up (hr.mono (by first | decide | omega)) T.b_Chestbecomewith .nil pass1 (pa_cons (pv 1) (pa_cons (pv 2) pa_nil)))))),?_⟩
  walk_at "rd"
  refine rd_methv e1 (cl.no _ (by decide +kernel)) ?_
  walk_at "rd"
  refine ⟨p,la,lb,past,ahead,now,n,rfl,hsz,hc,k1,k2,fun a1 a2 H1 s1=>?_⟩
  walk_at "rd"
  refine rd_methv (s1 _ _ e1) (cl.no _ (by decide +kernel)) ?_
  walk_at "rd"
  refine ⟨p,la,lb,past,ahead,now,n,v,c,rfl,hc.mono s1,hz,hn,hv.mono s1,fun lb' H2 m2 nl ch=>?_⟩
  walk_at "rd"
  exact (k3 a1 a2).back s1 lb' H2 m2 nl ch
def spx_Chestdrop (C CH NC:Addr):Sp:=fun vs H Q E=>∃ (p la lb:Addr) (past ahead:List Bk) (now:Bk) (n:Str),vs=[.ref p,.str n]∧ChAt C CH H p la lb past now ahead∧past.length≤1000∧now.length≤1000 ∧
 ((bkGet now n=none∧E (.ref NC) none H)∨((bkGet now n).isSome=true∧Done C CH H p la past now (bkDrop now n) Q))
theorem okx_Chestdrop (T:Txt K mg t):FnOk P w K mg base (CX1 P w) 2 t.f_Chestdrop t.d_Chestdrop ["self","name"] (spx_Chestdrop t.a_Cloth t.a_Chest t.a_NoCloth):=by
 have GX_Chestcloth:=okx_Chestcloth (P:=P) (w:=w) (base:=base) T
 have G_Chestbecome:=ok_Chestbecome (P:=P) (w:=w) (base:=base) T
 refine T.F_Chestdrop.ok1 sc_Chestdrop (fun vs H Q E h=>?_) (fun cdv A outer s H vs Q E hr h=>?_)
 ·obtain ⟨p,la,lb,past,ahead,now,n,rfl,_⟩:=h; rfl
 ·obtain ⟨p,la,lb,past,ahead,now,n,rfl,hc,hz,hn,k⟩:=h
  obtain ⟨dx,fs,d,e1,cl,kvs,e2,pw⟩:=hc.ob
  have lk:kvs.length=now.length:=Paired.length pw
  refine cutC (ps_expr (pe_meth (pv 0) T.cl_Chest T.m_Chestcloth GX_Chestcloth (hr.mono (by first | decide | omega)) T.b_Chestcloth .nil pass1 (pa_cons (pv 1) pa_nil))) fun _ _=>cutC (ps_set (i:=2) sc_Chestdrop.nd rfl (Or.inl rfl) (pe_callTy cI_dictC rfl T.no_dict (by rfl) (pa_cons (pe_fldK K rfl (pv 0) rfl) pa_nil))) fun _ _=>cutC (ps_expr (pe_dpop1 (pv 2) (pv 1) ⟨rfl,rfl,rfl,rfl⟩)) fun _ _=>cutE (ps_expr (pe_meth (pv 0) T.cl_Chest T.m_Chestbecome G_Chestbecome.up (hr.mono (by first | decide | omega)) T.b_Chestbecome .nil pass1 (pa_cons (pv 2) pa_nil))) fun _ _=>?_
  walk_at "rd"
  refine rd_methv e1 (cl.no _ (by decide +kernel)) ?_
  walk_at "rd"
  rcases k with ⟨g,k⟩ | ⟨g,k⟩
  ·exact ⟨p,la,lb,past,ahead,now,n,rfl,hc,.inl ⟨g,k⟩⟩
  ·obtain ⟨c,hg⟩:=Option.isSome_iff_exists.mp g
   refine ⟨p,la,lb,past,ahead,now,n,rfl,hc,.inr ⟨c,hg,fun v0 _=>?_⟩⟩
   walk_at "rd"
   refine rd_fldv e1 T.cl_Chest T.naC_cloths cl.c ?_
   walk_at "rd"
   refine ⟨d,kvs,rfl,e2,fun d2 n2=>?_⟩
   have s1:=Same.new (o:=HO.dK kvs) n2
   have f2:=upd_same (H:=H) (a:=d2) (o:=HO.dK kvs)
   generalize upd H d2 (HO.dK kvs)=H1 at s1 f2 ⊢
   obtain ⟨v,gv⟩:∃ v,valV kvs (Sum.inr n)=some v:=by
    rcases pw.get n with ⟨_,z⟩ | ⟨v,_,z,_⟩
    ·rw [hg] at z; cases z
    ·exact ⟨v,z⟩
   walk_at "rd"
   refine ⟨d2,rfl,.inl ⟨kvs,.inl f2⟩,?_⟩
   walk_at "rd"
   refine ⟨kvs,Sum.inr n,v,f2,rfl,gv,?_⟩
   have s2:Same H (upd H1 d2 (.dK (dropK kvs (Sum.inr n)))):=s1.later n2
   have g2:=upd_same (H:=H1) (a:=d2) (o:=HO.dK (dropK kvs (Sum.inr n)))
   generalize upd H1 d2 (.dK (dropK kvs (Sum.inr n)))=H2 at s2 g2 ⊢
   walk_at "rd"
   refine rd_methv (s2 _ _ e1) (cl.no _ (by decide +kernel)) ?_
   walk_at "rd"
   refine ⟨p,la,lb,d2,past,ahead,now,bkDrop now n,rfl,hc.mono s2,hz,⟨_,g2,(pw.but (s2.butL []) Apt.nil).drop n⟩,fun lb' H3 m3 nl ch=>?_⟩
   walk_at "rd"
   exact k.back s2 lb' H3 m3 nl ch
end
section
variable {P:Program} {w:World} {K:PySem.W.Frag} {mg:Str→Option Value} {base:Heap} {t:Ad}
def spx_Chestturn (C CH NC NL:Addr):Sp:=fun vs H Q E=>∃ (p la lb:Addr) (past ahead:List Bk) (now:Bk) (n wy:Str) (k:Int),vs=[.ref p,.str n,.str wy,.int k]∧ChAt C CH H p la lb past now ahead∧past.length≤1000∧now.length≤1000 ∧
 ((bkGet now n=none∧E (.ref NC) none H)∨∃ s cs rs,bkGet now n=some (s,cs,rs) ∧
  ((NoLn wy k cs rs∧E (.ref NL) none H)∨∃ bs cs' rs',IsWay wy cs rs bs∧0≤k∧k<bs.length∧Way2 wy cs rs (flip bs k.toNat) cs' rs'∧Bits cs'∧Bits rs'∧Done C CH H p la past now (bkPut now n (s,cs',rs')) Q))
theorem okx_Chestturn (T:Txt K mg t):FnOk P w K mg base (CX1 P w) 10 t.f_Chestturn t.d_Chestturn ["self","name","way","k"] (spx_Chestturn t.a_Cloth t.a_Chest t.a_NoCloth t.a_NoLine):=by
 have GX_Chestcloth:=okx_Chestcloth (P:=P) (w:=w) (base:=base) T
 have GX_turned:=okx_turned (P:=P) (w:=w) (base:=base) T
 have G_Chestbecomewith:=ok_Chestbecomewith (P:=P) (w:=w) (base:=base) T
 refine T.F_Chestturn.ok1 sc_Chestturn (fun vs H Q E h=>?_) (fun cdv A outer s H vs Q E hr h=>?_)
 ·obtain ⟨p,la,lb,past,ahead,now,n,wy,k,rfl,_⟩:=h; rfl
 ·obtain ⟨p,la,lb,past,ahead,now,n,wy,k,rfl,hc,hz,hn,q⟩:=h
  obtain ⟨dx,fs,d,e1,cl,_⟩:=hc.ob
  refine ⟨_,(pss_one (ps_expr (pe_meth (pv 0) T.cl_Chest T.m_Chestbecomewith G_Chestbecomewith.up (hr.mono (by first | decide | omega)) T.b_Chestbecomewith .nil pass1 (pa_cons (pv 1) (pa_cons (pe_call GX_turned (hr.mono (by first | decide | omega)) rfl T.mg_turned T.F_turned.kp T.b_turned .nil pass1 (pa_cons (pe_meth (pv 0) T.cl_Chest T.m_Chestcloth GX_Chestcloth (hr.mono (by first | decide | omega)) T.b_Chestcloth .nil pass1 (pa_cons (pv 1) pa_nil)) (pa_cons (pv 2) (pa_cons (pv 3) pa_nil)))) pa_nil))))),?_⟩
  walk_at "rd"
  refine rd_methv e1 (cl.no _ (by decide +kernel)) ?_
  walk_at "rd"
  refine rd_methv e1 (cl.no _ (by decide +kernel)) ?_
  walk_at "rd"
  rcases q with ⟨g,q⟩ | ⟨s,cs,rs,g,q⟩
  ·exact ⟨p,la,lb,past,ahead,now,n,rfl,hc,.inl ⟨g,q⟩⟩
  ·refine ⟨p,la,lb,past,ahead,now,n,rfl,hc,.inr ⟨_,g,fun v hv=>?_⟩⟩
   obtain ⟨x,rfl,hx,hs,bc,br⟩:=hv
   walk_at "rd"
   rcases q with ⟨a,q⟩ | ⟨bs,cs',rs',a1,a2,a3,a4,bc',br',q⟩
   ·exact ⟨x,wy,k,s,cs,rs,rfl,hx,hs,bc,br,.inr ⟨a,q⟩⟩
   ·refine ⟨x,wy,k,s,cs,rs,rfl,hx,hs,bc,br,.inl ⟨bs,cs',rs',a1,a2,a3,a4,fun x' H1 s1 hx'=>?_⟩⟩
    walk_at "rd"
    refine ⟨p,la,lb,past,ahead,now,n,.ref x',(s,cs',rs'),rfl,hc.mono s1,hz,hn,⟨x',rfl,hx',hs,bc',br'⟩,fun lb' H2 m2 nl ch=>?_⟩
    walk_at "rd"
    exact q.back s1 lb' H2 m2 nl ch
def spx_Chestundo (C CH NL:Addr):Sp:=fun vs H Q E=>∃ (p la lb:Addr) (past ahead:List Bk) (now:Bk),vs=[.ref p]∧ChAt C CH H p la lb past now ahead∧ahead.length≤1000 ∧
 ((past=[]∧E (.ref NL) none H)∨∃ ps b,past=ps++[b]∧∀ H',ButL [p,la,lb] H H'→ChAt C CH H' p la lb ps b (ahead++[now])→Q .non H')
theorem PwD.pop {C:Addr} {H:Hp} {ds:List Addr} {bks:List Bk} {bk:Bk} (h:PwD C H ds (bks++[bk])):∃ es d,ds=es++[d]∧PwD C H es bks∧BkAt C H d bk:=by
 have hl:=h.1
 rw [List.length_append,List.length_singleton] at hl
 rcases List.eq_nil_or_concat ds with z | ⟨es,d,rfl⟩
 ·subst z; simp at hl
 ·rw [List.concat_eq_append] at h hl ⊢
  rw [List.length_append,List.length_singleton] at hl
  have le:es.length=bks.length:=by omega
  refine ⟨es,d,rfl,⟨le,fun i d' bk' h1 h2=>?_⟩,?_⟩
  ·have hi:=(List.getElem?_eq_some_iff.mp h1).1
   exact h.2 i d' bk' (by rw [List.getElem?_append_left hi]; exact h1) (by rw [List.getElem?_append_left (by omega)]; exact h2)
  ·exact h.2 es.length d bk (by rw [List.getElem?_append_right (Nat.le_refl _),Nat.sub_self]; rfl) (by rw [le,List.getElem?_append_right (Nat.le_refl _),Nat.sub_self]; rfl)
theorem getLast_snoc {α β:Type} {f:α→β} {l:List α} {a:α}:(l.map f++[a].map f)[(l.map f++[a].map f).length - 1]?=some (f a):=by
 rw [List.map_singleton,← List.getLast?_eq_getElem?]; exact List.getLast?_concat ..
theorem okx_Chestundo (T:Txt K mg t):FnOk P w K mg base (CX1 P w) 1 t.f_Chestundo t.d_Chestundo ["self"] (spx_Chestundo t.a_Cloth t.a_Chest t.a_NothingLeft):=by
 refine T.F_Chestundo.ok1 sc_Chestundo (fun vs H Q E h=>?_) (fun cdv A outer s H vs Q E hr h=>?_)
 ·obtain ⟨p,la,lb,past,ahead,now,rfl,_⟩:=h; rfl
 ·obtain ⟨p,la,lb,past,ahead,now,rfl,hc,hz,q⟩:=h
  have ap:=hc.apt
  obtain ⟨dx,fs,d,e1,cl,hd⟩:=hc.ob
  obtain ⟨ds,e2,pd⟩:=hc.pa
  obtain ⟨as,e3,pa⟩:=hc.ah
  have lab:=hc.ne
  have pla:p≠la:=ne_of e1 e2 (fun z=>nomatch z)
  have plb:p≠lb:=ne_of e1 e3 (fun z=>nomatch z)
  refine cutC (ps_if (pt_cmpR op_eq (pe_callB (cI_lenK K rfl) rfl T.no_len (by rfl) (pa_cons (pe_fldK K rfl (pv 0) rfl) pa_nil)) pe_int (nomark _)) (pss_one (ps_raiseK T.mg_NothingLeft T.x_NothingLeft PySem.F.excBase_ValueError rfl rfl (fun _ _ _ _ _ _ _ _ I m q=>xe_new I m q) (pa_cons pe_str pa_nil))) pss_nil) fun _ _=>cutC (ps_expr (pe_bm PySem.F.plainAttrs_list PySem.F.slot_list_append PySem.F.type_list_append mt_append (pe_fldK K rfl (pv 0) rfl) (pa_cons (pe_fldK K rfl (pv 0) rfl) pa_nil))) fun _ _=>cutE (ps_fld (pv 0) (pe_bm0 PySem.F.plainAttrs_list PySem.F.slot_list_pop PySem.F.type_list_pop mt_pop (pe_fldK K rfl (pv 0) rfl)) rfl) fun _ _=>?_
  walk_at "rd"
  refine rd_fldv e1 T.cl_Chest T.naC_ahead_of_deeds cl.a ?_
  walk_at "rd"
  refine rd_lenL e2 ?_
  rw [List.length_map]
  walk_at "rd"
  rcases q with ⟨z,q⟩ | ⟨ps,b,z,q⟩
  ·subst z
   have:ds.length=0:=pd.1
   rw [this]
   walk_at "rd"
   exact ⟨by show 1≤sizeLine; decide,q⟩
  ·subst z
   obtain ⟨es,d',rfl,pe,hb⟩:=pd.pop
   rw [decide_eq_false (show ¬ (((es++[d']).length:Nat):Int)=0 by rw [List.length_append,List.length_singleton]; omega)]
   walk_at "rd"
   refine rd_fldv e1 T.cl_Chest T.naC_behind_undone cl.b ?_
   walk_at "rd"
   refine rd_bmL e3 ?_
   walk_at "rd"
   refine rd_fldv e1 T.cl_Chest T.naC_cloths cl.c ?_
   walk_at "rd"
   refine rd_append e3 (by rw [List.length_map,pa.1]; exact small1000 (by omega)) ?_
   have m1:ButL [p,la,lb] H (upd H lb (.lst (as.map V.ref++[.ref d]))):=(ButL.refl _ _).upd (by simp)
   have f1:upd H lb (.lst (as.map V.ref++[.ref d])) p=some (.ins t.a_Chest dx fs):=by rw [upd_ne plb]; exact e1
   have f2:upd H lb (.lst (as.map V.ref++[.ref d])) la=some (.lst ((es++[d']).map V.ref)):=by rw [upd_ne lab]; exact e2
   have f3:=upd_same (H:=H) (a:=lb) (o:=.lst (as.map V.ref++[.ref d]))
   generalize upd H lb (.lst (as.map V.ref++[.ref d]))=H1 at m1 f1 f2 f3 ⊢
   walk_at "rd"
   refine rd_fldv f1 T.cl_Chest T.naC_ahead_of_deeds cl.a ?_
   walk_at "rd"
   refine rd_bmL f2 ?_
   walk_at "rd"
   refine ⟨la,(es++[d']).map V.ref,.ref d',rfl,rfl,f2,by rw [List.map_append]; exact getLast_snoc,?_⟩
   have ed:((es++[d']).map V.ref).dropLast=es.map V.ref:=by rw [List.map_append]; exact List.dropLast_concat
   rw [ed]
   have m2:ButL [p,la,lb] H (upd H1 la (.lst (es.map V.ref))):=m1.upd (by simp)
   have g1:upd H1 la (.lst (es.map V.ref)) p=some (.ins t.a_Chest dx fs):=by rw [upd_ne pla]; exact f1
   have g2:=upd_same (H:=H1) (a:=la) (o:=.lst (es.map V.ref))
   have g3:upd H1 la (.lst (es.map V.ref)) lb=some (.lst (as.map V.ref++[.ref d])):=by rw [upd_ne (Ne.symm lab)]; exact f3
   generalize upd H1 la (.lst (es.map V.ref))=H2 at m2 g1 g2 g3 ⊢
   walk_at "rd"
   refine rd_sfldv g1 T.cl_Chest T.naC_cloths (Nat.lt_of_le_of_lt cl.len (by decide)) ?_
   have cl2:=cl.setC (d':=d')
   generalize hfs:putF (Str.ofString "cloths") (.ref d') fs=fs2 at cl2 ⊢
   have m3:ButL [p,la,lb] H (upd H2 p (.ins t.a_Chest dx fs2)):=m2.upd (by simp)
   have n1:=upd_same (H:=H2) (a:=p) (o:=.ins t.a_Chest dx fs2)
   have n2:upd H2 p (.ins t.a_Chest dx fs2) la=some (.lst (es.map V.ref)):=by rw [upd_ne (Ne.symm pla)]; exact g2
   have n3:upd H2 p (.ins t.a_Chest dx fs2) lb=some (.lst ((as++[d]).map V.ref)):=by rw [upd_ne (Ne.symm plb),g3,List.map_append]; rfl
   generalize upd H2 p (.ins t.a_Chest dx fs2)=H3 at m3 n1 n2 n3 ⊢
   walk_at "rd"
   exact q H3 m3 ⟨⟨dx,fs2,d',n1,cl2,hb.but m3 ap⟩,⟨es,n2,pe.but m3 ap⟩,⟨as++[d],n3,(pa.but m3 ap).snoc (hd.but m3 ap)⟩,lab⟩
end
section
variable {P:Program} {w:World} {K:PySem.W.Frag} {mg:Str→Option Value} {base:Heap} {t:Ad}
def spx_Chestredo (C CH NL:Addr):Sp:=fun vs H Q E=>∃ (p la lb:Addr) (past ahead:List Bk) (now:Bk),vs=[.ref p]∧ChAt C CH H p la lb past now ahead∧past.length≤1000 ∧
 ((ahead=[]∧E (.ref NL) none H)∨∃ ps b,ahead=ps++[b]∧∀ H',ButL [p,la,lb] H H'→ChAt C CH H' p la lb (past++[now]) b ps→Q .non H')
theorem okx_Chestredo (T:Txt K mg t):FnOk P w K mg base (CX1 P w) 1 t.f_Chestredo t.d_Chestredo ["self"] (spx_Chestredo t.a_Cloth t.a_Chest t.a_NothingLeft):=by
 refine T.F_Chestredo.ok1 sc_Chestredo (fun vs H Q E h=>?_) (fun cdv A outer s H vs Q E hr h=>?_)
 ·obtain ⟨p,la,lb,past,ahead,now,rfl,_⟩:=h; rfl
 ·obtain ⟨p,la,lb,past,ahead,now,rfl,hc,hz,q⟩:=h
  have ap:=hc.apt
  obtain ⟨dx,fs,d,e1,cl,hd⟩:=hc.ob
  obtain ⟨ds,e3,pd⟩:=hc.ah
  obtain ⟨as,e2,pa⟩:=hc.pa
  have lab:=Ne.symm hc.ne
  have pla:p≠la:=ne_of e1 e2 (fun z=>nomatch z)
  have plb:p≠lb:=ne_of e1 e3 (fun z=>nomatch z)
  refine cutC (ps_if (pt_cmpR op_eq (pe_callB (cI_lenK K rfl) rfl T.no_len (by rfl) (pa_cons (pe_fldK K rfl (pv 0) rfl) pa_nil)) pe_int (nomark _)) (pss_one (ps_raiseK T.mg_NothingLeft T.x_NothingLeft PySem.F.excBase_ValueError rfl rfl (fun _ _ _ _ _ _ _ _ I m q=>xe_new I m q) (pa_cons pe_str pa_nil))) pss_nil) fun _ _=>cutC (ps_expr (pe_bm PySem.F.plainAttrs_list PySem.F.slot_list_append PySem.F.type_list_append mt_append (pe_fldK K rfl (pv 0) rfl) (pa_cons (pe_fldK K rfl (pv 0) rfl) pa_nil))) fun _ _=>cutE (ps_fld (pv 0) (pe_bm0 PySem.F.plainAttrs_list PySem.F.slot_list_pop PySem.F.type_list_pop mt_pop (pe_fldK K rfl (pv 0) rfl)) rfl) fun _ _=>?_
  walk_at "rd"
  refine rd_fldv e1 T.cl_Chest T.naC_behind_undone cl.b ?_
  walk_at "rd"
  refine rd_lenL e3 ?_
  rw [List.length_map]
  walk_at "rd"
  rcases q with ⟨z,q⟩ | ⟨ps,b,z,q⟩
  ·subst z
   have:ds.length=0:=pd.1
   rw [this]
   walk_at "rd"
   exact ⟨by show 1≤sizeLine; decide,q⟩
  ·subst z
   obtain ⟨es,d',rfl,pe,hb⟩:=pd.pop
   rw [decide_eq_false (show ¬ (((es++[d']).length:Nat):Int)=0 by rw [List.length_append,List.length_singleton]; omega)]
   walk_at "rd"
   refine rd_fldv e1 T.cl_Chest T.naC_ahead_of_deeds cl.a ?_
   walk_at "rd"
   refine rd_bmL e2 ?_
   walk_at "rd"
   refine rd_fldv e1 T.cl_Chest T.naC_cloths cl.c ?_
   walk_at "rd"
   refine rd_append e2 (by rw [List.length_map,pa.1]; exact small1000 (by omega)) ?_
   have m1:ButL [p,la,lb] H (upd H la (.lst (as.map V.ref++[.ref d]))):=(ButL.refl _ _).upd (by simp)
   have f1:upd H la (.lst (as.map V.ref++[.ref d])) p=some (.ins t.a_Chest dx fs):=by rw [upd_ne pla]; exact e1
   have f2:upd H la (.lst (as.map V.ref++[.ref d])) lb=some (.lst ((es++[d']).map V.ref)):=by rw [upd_ne lab]; exact e3
   have f3:=upd_same (H:=H) (a:=la) (o:=.lst (as.map V.ref++[.ref d]))
   generalize upd H la (.lst (as.map V.ref++[.ref d]))=H1 at m1 f1 f2 f3 ⊢
   walk_at "rd"
   refine rd_fldv f1 T.cl_Chest T.naC_behind_undone cl.b ?_
   walk_at "rd"
   refine rd_bmL f2 ?_
   walk_at "rd"
   refine ⟨lb,(es++[d']).map V.ref,.ref d',rfl,rfl,f2,by rw [List.map_append]; exact getLast_snoc,?_⟩
   have ed:((es++[d']).map V.ref).dropLast=es.map V.ref:=by rw [List.map_append]; exact List.dropLast_concat
   rw [ed]
   have m2:ButL [p,la,lb] H (upd H1 lb (.lst (es.map V.ref))):=m1.upd (by simp)
   have g1:upd H1 lb (.lst (es.map V.ref)) p=some (.ins t.a_Chest dx fs):=by rw [upd_ne plb]; exact f1
   have g2:=upd_same (H:=H1) (a:=lb) (o:=.lst (es.map V.ref))
   have g3:upd H1 lb (.lst (es.map V.ref)) la=some (.lst (as.map V.ref++[.ref d])):=by rw [upd_ne (Ne.symm lab)]; exact f3
   generalize upd H1 lb (.lst (es.map V.ref))=H2 at m2 g1 g2 g3 ⊢
   walk_at "rd"
   refine rd_sfldv g1 T.cl_Chest T.naC_cloths (Nat.lt_of_le_of_lt cl.len (by decide)) ?_
   have cl2:=cl.setC (d':=d')
   generalize hfs:putF (Str.ofString "cloths") (.ref d') fs=fs2 at cl2 ⊢
   have m3:ButL [p,la,lb] H (upd H2 p (.ins t.a_Chest dx fs2)):=m2.upd (by simp)
   have n1:=upd_same (H:=H2) (a:=p) (o:=.ins t.a_Chest dx fs2)
   have n2:upd H2 p (.ins t.a_Chest dx fs2) lb=some (.lst (es.map V.ref)):=by rw [upd_ne (Ne.symm plb)]; exact g2
   have n3:upd H2 p (.ins t.a_Chest dx fs2) la=some (.lst ((as++[d]).map V.ref)):=by rw [upd_ne (Ne.symm pla),g3,List.map_append]; rfl
   generalize upd H2 p (.ins t.a_Chest dx fs2)=H3 at m3 n1 n2 n3 ⊢
   walk_at "rd"
   exact q H3 m3 ⟨⟨dx,fs2,d',n1,cl2,hb.but m3 ap⟩,⟨as++[d],n3,(pa.but m3 ap).snoc (hd.but m3 ap)⟩,⟨es,n2,pe.but m3 ap⟩,hc.ne⟩
end
section
variable {P:Program} {w:World} {K:PySem.W.Frag} {mg:Str→Option Value} {base:Heap} {t:Ad}
def sp_ChestInit (C CH:Addr):Sp:=fun vs H Q _=>∃ (p dx:Addr),vs=[.ref p]∧H p=some (.ins CH dx [])∧∀ la lb H',ButL [p] H H'→H la=none→H lb=none→ChAt C CH H' p la lb [] [] []→Q .non H'
theorem but_free {S:List Addr} {H H1:Hp} {a:Addr} (m:ButL S H H1) (n:H1 a=none) (h:a∉S):H a=none:=by
 cases z:H a with
 | none=>rfl
 | some o=>have:=m a o z h; rw [n] at this; cases this
theorem ok_ChestInit (T:Txt K mg t):FnOk P w K mg base CX0 1 t.f_ChestInit t.d_ChestInit ["self"] (sp_ChestInit t.a_Cloth t.a_Chest):=by
 refine T.F_ChestInit.ok sc_ChestInit (fun vs H Q E h=>?_) (fun cdv A outer s H vs Q E hr h=>?_)
 ·obtain ⟨p,dx,rfl,_⟩:=h; rfl
 ·obtain ⟨p,dx,rfl,hp,k⟩:=h
  refine cutC (ps_fld (pv 0) pe_dnewK rfl) fun _ _=>cutC (ps_fld (pv 0) (pe_lst pa_nil) rfl) fun _ _=>cutE (ps_fld (pv 0) (pe_lst pa_nil) rfl) fun _ _=>?_
  walk_at "rd"
  refine fun d nd=>?_
  have s1:=Same.new (o:=HO.dK []) nd
  have e1:=s1 _ _ hp
  have d1:=upd_same (H:=H) (a:=d) (o:=HO.dK [])
  have m1:ButL [p] H (upd H d (HO.dK [])):=s1.butL _
  generalize upd H d (HO.dK [])=H1 at e1 d1 m1 ⊢
  have pd:p≠d:=ne_of e1 d1 (fun z=>nomatch z)
  walk_at "rd"
  refine rd_sfldv e1 T.cl_Chest T.naC_cloths (by show 0<1000; decide) ?_
  generalize hf1:putF (Str.ofString "cloths") (.ref d) []=f1
  have e2:=upd_same (H:=H1) (a:=p) (o:=.ins t.a_Chest dx f1)
  have d2:upd H1 p (.ins t.a_Chest dx f1) d=some (.dK []):=by rw [upd_ne (Ne.symm pd)]; exact d1
  have m2:ButL [p] H (upd H1 p (.ins t.a_Chest dx f1)):=m1.upd (by simp)
  generalize upd H1 p (.ins t.a_Chest dx f1)=H2 at e2 d2 m2 ⊢
  walk_at "rd"
  refine ⟨Nat.zero_le _,fun la na=>?_⟩
  have s3:=Same.new (o:=HO.lst []) na
  have e3:=s3 _ _ e2
  have d3:=s3 _ _ d2
  have a3:=upd_same (H:=H2) (a:=la) (o:=HO.lst [])
  have m3:ButL [p] H (upd H2 la (HO.lst [])):=m2.new na
  generalize upd H2 la (HO.lst [])=H3 at e3 d3 a3 m3 ⊢
  have pla:p≠la:=ne_of e3 a3 (fun z=>nomatch z)
  walk_at "rd"
  refine rd_sfldv e3 T.cl_Chest T.naC_ahead_of_deeds (by rw [← hf1]; exact Nat.lt_of_le_of_lt (length_putF _ _ _) (by show 1<1000; decide)) ?_
  generalize hf2:putF (Str.ofString "ahead_of_deeds") (.ref la) f1=f2
  have l2:f2.length≤2:=by rw [← hf2,← hf1]; exact Nat.le_trans (length_putF _ _ _) (Nat.succ_le_succ (length_putF _ _ _))
  have e4:=upd_same (H:=H3) (a:=p) (o:=.ins t.a_Chest dx f2)
  have d4:upd H3 p (.ins t.a_Chest dx f2) d=some (.dK []):=by rw [upd_ne (Ne.symm pd)]; exact d3
  have a4:upd H3 p (.ins t.a_Chest dx f2) la=some (.lst []):=by rw [upd_ne (Ne.symm pla)]; exact a3
  have m4:ButL [p] H (upd H3 p (.ins t.a_Chest dx f2)):=m3.upd (by simp)
  generalize upd H3 p (.ins t.a_Chest dx f2)=H4 at e4 d4 a4 m4 ⊢
  walk_at "rd"
  refine ⟨Nat.zero_le _,fun lb nb=>?_⟩
  have s5:=Same.new (o:=HO.lst []) nb
  have e5:=s5 _ _ e4
  have d5:=s5 _ _ d4
  have a5:=s5 _ _ a4
  have b5:=upd_same (H:=H4) (a:=lb) (o:=HO.lst [])
  have m5:ButL [p] H (upd H4 lb (HO.lst [])):=m4.new nb
  have plb:p≠lb:=fun z=>by rw [z,nb] at e4; cases e4
  have lab:la≠lb:=fun z=>by rw [z,nb] at a4; cases a4
  generalize upd H4 lb (HO.lst [])=H5 at e5 d5 a5 b5 m5 ⊢
  walk_at "rd"
  refine rd_sfldv e5 T.cl_Chest T.naC_behind_undone (by omega) ?_
  generalize hf3:putF (Str.ofString "behind_undone") (.ref lb) f2=f3
  have e6:=upd_same (H:=H5) (a:=p) (o:=.ins t.a_Chest dx f3)
  have d6:upd H5 p (.ins t.a_Chest dx f3) d=some (.dK []):=by rw [upd_ne (Ne.symm pd)]; exact d5
  have a6:upd H5 p (.ins t.a_Chest dx f3) la=some (.lst (([]:List Addr).map V.ref)):=by rw [upd_ne (Ne.symm pla)]; exact a5
  have b6:upd H5 p (.ins t.a_Chest dx f3) lb=some (.lst (([]:List Addr).map V.ref)):=by rw [upd_ne (Ne.symm plb)]; exact b5
  have m6:ButL [p] H (upd H5 p (.ins t.a_Chest dx f3)):=m5.upd (by simp)
  generalize upd H5 p (.ins t.a_Chest dx f3)=H6 at e6 d6 a6 b6 m6 ⊢
  walk_at "rd"
  refine k la lb H6 m6 (but_free m2 na (by simpa using Ne.symm pla)) (but_free m4 nb (by simpa using Ne.symm plb)) ⟨⟨dx,f3,d,e6,?_,[],d6,.nil⟩,⟨[],a6,PwD.nil⟩,⟨[],b6,PwD.nil⟩,lab⟩
  rw [← hf3,← hf2,← hf1]
  refine ⟨?_,?_,?_,fun m z=>?_,?_⟩
  ·rw [lookup_putF,if_neg (by decide +kernel),lookup_putF,if_neg (by decide +kernel),lookup_putF,if_pos rfl]
  ·rw [lookup_putF,if_neg (by decide +kernel),lookup_putF,if_pos rfl]
  ·rw [lookup_putF,if_pos rfl]
  ·rw [lookup_putF,if_neg z.2.2,lookup_putF,if_neg z.2.1,lookup_putF,if_neg z.1]; rfl
  ·exact Nat.le_trans (length_putF _ _ _) (Nat.succ_le_succ (Nat.le_trans (length_putF _ _ _) (Nat.succ_le_succ (length_putF _ _ _))))
def spx_Chestcut (C CH NC NL:Addr):Sp:=fun vs H Q E=>∃ (p la lb:Addr) (past ahead:List Bk) (now:Bk) (n wy:Str) (k:Int),vs=[.ref p,.str n,.str wy,.int k]∧ChAt C CH H p la lb past now ahead∧past.length≤1000∧now.length≤1000 ∧
 ((bkGet now n=none∧E (.ref NC) none H)∨∃ s cs rs,bkGet now n=some (s,cs,rs) ∧
  ((NoLn wy k cs rs∧E (.ref NL) none H)∨∃ bs cs' rs',IsWay wy cs rs bs∧0≤k∧k<bs.length∧Way2 wy cs rs (bs.eraseIdx k.toNat) cs' rs'∧Bits cs'∧Bits rs'∧Done C CH H p la past now (bkPut now n (s,cs',rs')) Q))
theorem okx_Chestcut (T:Txt K mg t):FnOk P w K mg base (CX1 P w) 10 t.f_Chestcut t.d_Chestcut ["self","name","way","k"] (spx_Chestcut t.a_Cloth t.a_Chest t.a_NoCloth t.a_NoLine):=by
 have GX_Chestcloth:=okx_Chestcloth (P:=P) (w:=w) (base:=base) T
 have GX_cut:=okx_cut (P:=P) (w:=w) (base:=base) T
 have G_Chestbecomewith:=ok_Chestbecomewith (P:=P) (w:=w) (base:=base) T
 refine T.F_Chestcut.ok1 sc_Chestcut (fun vs H Q E h=>?_) (fun cdv A outer s H vs Q E hr h=>?_)
 ·obtain ⟨p,la,lb,past,ahead,now,n,wy,k,rfl,_⟩:=h; rfl
 ·obtain ⟨p,la,lb,past,ahead,now,n,wy,k,rfl,hc,hz,hn,q⟩:=h
  obtain ⟨dx,fs,d,e1,cl,_⟩:=hc.ob
  refine ⟨_,(pss_one (ps_expr (pe_meth (pv 0) T.cl_Chest T.m_Chestbecomewith G_Chestbecomewith.up (hr.mono (by first | decide | omega)) T.b_Chestbecomewith .nil pass1 (pa_cons (pv 1) (pa_cons (pe_call GX_cut (hr.mono (by first | decide | omega)) rfl T.mg_cutsew T.F_cut.kp T.b_cut .nil pass1 (pa_cons (pe_meth (pv 0) T.cl_Chest T.m_Chestcloth GX_Chestcloth (hr.mono (by first | decide | omega)) T.b_Chestcloth .nil pass1 (pa_cons (pv 1) pa_nil)) (pa_cons (pv 2) (pa_cons (pv 3) pa_nil)))) pa_nil))))),?_⟩
  walk_at "rd"
  refine rd_methv e1 (cl.no _ (by decide +kernel)) ?_
  walk_at "rd"
  refine rd_methv e1 (cl.no _ (by decide +kernel)) ?_
  walk_at "rd"
  rcases q with ⟨g,q⟩ | ⟨s,cs,rs,g,q⟩
  ·exact ⟨p,la,lb,past,ahead,now,n,rfl,hc,.inl ⟨g,q⟩⟩
  ·refine ⟨p,la,lb,past,ahead,now,n,rfl,hc,.inr ⟨_,g,fun v hv=>?_⟩⟩
   obtain ⟨x,rfl,hx,hs,bc,br⟩:=hv
   walk_at "rd"
   rcases q with ⟨a,q⟩ | ⟨bs,cs',rs',a1,a2,a3,a4,bc',br',q⟩
   ·exact ⟨x,wy,k,s,cs,rs,rfl,hx,hs,bc,br,.inr ⟨a,q⟩⟩
   ·refine ⟨x,wy,k,s,cs,rs,rfl,hx,hs,bc,br,.inl ⟨bs,cs',rs',a1,a2,a3,a4,fun x' H1 s1 hx'=>?_⟩⟩
    walk_at "rd"
    refine ⟨p,la,lb,past,ahead,now,n,.ref x',(s,cs',rs'),rfl,hc.mono s1,hz,hn,⟨x',rfl,hx',hs,bc',br'⟩,fun lb' H2 m2 nl ch=>?_⟩
    walk_at "rd"
    exact q.back s1 lb' H2 m2 nl ch
def spx_Chestput (C CH NC NL BB BS:Addr):Sp:=fun vs H Q E=>∃ (p la lb:Addr) (past ahead:List Bk) (now:Bk) (n wy:Str) (k bt:Int),vs=[.ref p,.str n,.str wy,.int k,.int bt]∧ChAt C CH H p la lb past now ahead∧past.length≤1000∧now.length≤1000 ∧
  ((bkGet now n=none∧E (.ref NC) none H)∨∃ s cs rs,bkGet now n=some (s,cs,rs) ∧
    (((¬ wy="col"∧¬ wy="row")∧E (.ref NL) none H)∨∃ bs,IsWay wy cs rs bs ∧
     ((¬ (0≤k∧k<(bs.length:Int)+1)∧∀ H',Same H H'→E (.ref NL) none H')∨((0≤k∧k<(bs.length:Int)+1)∧isBit bt=false∧∀ H',Same H H'→E (.ref BB) none H') ∨
      ((0≤k∧k<(bs.length:Int)+1)∧isBit bt=true∧bs.length=39∧∀ H',Same H H'→E (.ref BS) none H') ∨
      ((0≤k∧k<(bs.length:Int)+1)∧isBit bt=true∧bs.length<39∧∃ cs' rs',Way2 wy cs rs (putin bs k.toNat bt) cs' rs'∧Bits cs'∧Bits rs'∧Done C CH H p la past now (bkPut now n (s,cs',rs')) Q))))
theorem okx_Chestput (T:Txt K mg t):FnOk P w K mg base (CX1 P w) 10 t.f_Chestput t.d_Chestput ["self","name","way","k","bit"] (spx_Chestput t.a_Cloth t.a_Chest t.a_NoCloth t.a_NoLine t.a_BadBit t.a_BadSize):=by
 have GX_Chestcloth:=okx_Chestcloth (P:=P) (w:=w) (base:=base) T
 have GX_put:=okx_put (P:=P) (w:=w) (base:=base) T
 have G_Chestbecomewith:=ok_Chestbecomewith (P:=P) (w:=w) (base:=base) T
 refine T.F_Chestput.ok1 sc_Chestput (fun vs H Q E h=>?_) (fun cdv A outer s H vs Q E hr h=>?_)
 ·obtain ⟨p,la,lb,past,ahead,now,n,wy,k,bt,rfl,_⟩:=h; rfl
 ·obtain ⟨p,la,lb,past,ahead,now,n,wy,k,bt,rfl,hc,hz,hn,q⟩:=h
  obtain ⟨dx,fs,d,e1,cl,_⟩:=hc.ob
  refine ⟨_,(pss_one (ps_expr (pe_meth (pv 0) T.cl_Chest T.m_Chestbecomewith G_Chestbecomewith.up (hr.mono (by first | decide | omega)) T.b_Chestbecomewith .nil pass1 (pa_cons (pv 1) (pa_cons (pe_call GX_put (hr.mono (by first | decide | omega)) rfl T.mg_putsew T.F_put.kp T.b_put .nil pass1 (pa_cons (pe_meth (pv 0) T.cl_Chest T.m_Chestcloth GX_Chestcloth (hr.mono (by first | decide | omega)) T.b_Chestcloth .nil pass1 (pa_cons (pv 1) pa_nil)) (pa_cons (pv 2) (pa_cons (pv 3) (pa_cons (pv 4) pa_nil))))) pa_nil))))),?_⟩
  walk_at "rd"
  refine rd_methv e1 (cl.no _ (by decide +kernel)) ?_
  walk_at "rd"
  refine rd_methv e1 (cl.no _ (by decide +kernel)) ?_
  walk_at "rd"
  rcases q with ⟨g,q⟩ | ⟨s,cs,rs,g,q⟩
  ·exact ⟨p,la,lb,past,ahead,now,n,rfl,hc,.inl ⟨g,q⟩⟩
  ·refine ⟨p,la,lb,past,ahead,now,n,rfl,hc,.inr ⟨_,g,fun v hv=>?_⟩⟩
   obtain ⟨x,rfl,hx,hs,bc,br⟩:=hv
   walk_at "rd"
   refine ⟨x,wy,k,bt,s,cs,rs,rfl,hx,hs,bc,br,?_⟩
   rcases q with q | ⟨bs,a1,q⟩
   ·exact .inl q
   refine .inr ⟨bs,a1,?_⟩
   rcases q with q | q | q | ⟨a2,a3,a4,cs',rs',a5,bc',br',q⟩
   ·exact .inl q
   ·exact .inr (.inl q)
   ·exact .inr (.inr (.inl q))
   ·refine .inr (.inr (.inr ⟨a2,a3,a4,cs',rs',a5,fun x' H1 s1 hx'=>?_⟩))
    walk_at "rd"
    refine ⟨p,la,lb,past,ahead,now,n,.ref x',(s,cs',rs'),rfl,hc.mono s1,hz,hn,⟨x',rfl,hx',hs,bc',br'⟩,fun lb' H2 m2 nl ch=>?_⟩
    walk_at "rd"
    exact q.back s1 lb' H2 m2 nl ch
end
section
variable {P:Program} {w:World} {K:PySem.W.Frag} {mg:Str→Option Value} {base:Heap} {t:Ad}
theorem Sews.back {BS UF:Addr} {s:Int} {cs rs:List Int} {s2:Int} {cs2 rs2:List Int} {H H1:Hp} {Q Q':List Int→Hp→Addr→Prop} {E:XK} (h:Sews BS UF s cs rs s2 cs2 rs2 H Q E) (s1:Same H H1) (hq:∀ c H' x,Same H1 H'→Q c H' x→Q' c H' x):Sews BS UF s cs rs s2 cs2 rs2 H1 Q' E :=
 ⟨fun a H' z=>h.1 a H' (s1.trans z),fun a k hk b c d H' z e=>h.2.1 a k hk b c d H' (s1.trans z) e,fun a b x H' z=>hq _ H' x z (h.2.2 a b x H' (s1.trans z))⟩
def spx_Chestsew (C CH BN TK NC BS UF NL:Addr):Sp:=fun vs H Q E=>∃ (p la lb:Addr) (past ahead:List Bk) (now:Bk) (n o1 o2 wy:Str),vs=[.ref p,.str n,.str o1,.str o2,.str wy]∧n.cps.size≤1000∧ChAt C CH H p la lb past now ahead∧past.length≤1000∧now.length≤1000 ∧
 (nameOk n=false→∀ H',Same H H'→E (.ref BN) none H')∧(nameOk n=true→(bkGet now n).isSome=true→∀ H',Same H H'→E (.ref TK) none H') ∧
 (nameOk n=true→bkGet now n=none→(bkGet now o1=none→∀ H',Same H H'→E (.ref NC) none H')∧(∀ c1,bkGet now o1=some c1→bkGet now o2=none→∀ H',Same H H'→E (.ref NC) none H') ∧
  ∀ c1 c2,bkGet now o1=some c1→bkGet now o2=some c2 →
   (wy="col"→Sews BS UF c1.1 c1.2.1 c1.2.2 c2.1 c2.2.1 c2.2.2 H (fun cs' _ _=>Bits cs'∧Done C CH H p la past now (bkPut now n (c1.1,cs',c1.2.2)) Q) E) ∧
   (wy="row"→Sews BS UF c1.1 c1.2.2 c1.2.1 c2.1 c2.2.2 c2.2.1 H (fun rs' _ _=>Bits rs'∧Done C CH H p la past now (bkPut now n (c1.1,c1.2.1,rs')) Q) E) ∧
   (¬ wy="col"→¬ wy="row"→∀ H',Same H H'→E (.ref NL) none H'))
theorem okx_Chestsew (T:Txt K mg t):FnOk P w K mg base (CX1 P w) 11 t.f_Chestsew t.d_Chestsew ["self","name","one","other","way"] (spx_Chestsew t.a_Cloth t.a_Chest t.a_BadName t.a_Taken t.a_NoCloth t.a_BadSize t.a_Unfit t.a_NoLine):=by
 have GX_Chestneedfree:=okx_Chestneedfree (P:=P) (w:=w) (base:=base) T
 have GX_Chestcloth:=okx_Chestcloth (P:=P) (w:=w) (base:=base) T
 have GX_sewntogether:=okx_sewntogether (P:=P) (w:=w) (base:=base) T
 have G_Chestbecomewith:=ok_Chestbecomewith (P:=P) (w:=w) (base:=base) T
 refine T.F_Chestsew.ok1 sc_Chestsew (fun vs H Q E h=>?_) (fun cdv A outer s H vs Q E hr h=>?_)
 ·obtain ⟨p,la,lb,past,ahead,now,n,o1,o2,wy,rfl,_⟩:=h; rfl
 ·obtain ⟨p,la,lb,past,ahead,now,n,o1,o2,wy,rfl,hsz,hc,hz,hn,k1,k2,k3⟩:=h
  obtain ⟨dx,fs,d,e1,cl,_⟩:=hc.ob
  refine ⟨_,(pss_cons (ps_expr (pe_meth (pv 0) T.cl_Chest T.m_Chestneedfree GX_Chestneedfree (hr.mono (by first | decide | omega)) T.b_Chestneedfree .nil pass1 (pa_cons (pv 1) pa_nil))) (pss_one (ps_expr (pe_meth (pv 0) T.cl_Chest T.m_Chestbecomewith G_Chestbecomewith.up (hr.mono (by first | decide | omega)) T.b_Chestbecomewith .nil pass1 (pa_cons (pv 1) (pa_cons (pe_call GX_sewntogether (hr.mono (by first | decide | omega)) rfl T.mg_sewntogether T.F_sewntogether.kp T.b_sewntogether .nil pass1 (pa_cons (pe_meth (pv 0) T.cl_Chest T.m_Chestcloth GX_Chestcloth (hr.mono (by first | decide | omega)) T.b_Chestcloth .nil pass1 (pa_cons (pv 2) pa_nil)) (pa_cons (pe_meth (pv 0) T.cl_Chest T.m_Chestcloth GX_Chestcloth (hr.mono (by first | decide | omega)) T.b_Chestcloth .nil pass1 (pa_cons (pv 3) pa_nil)) (pa_cons (pv 4) pa_nil)))) pa_nil)))))),?_⟩
  walk_at "rd"
  refine rd_methv e1 (cl.no _ (by decide +kernel)) ?_
  walk_at "rd"
  refine ⟨p,la,lb,past,ahead,now,n,rfl,hsz,hc,k1,k2,fun a1 a2 H1 s1=>?_⟩
  obtain ⟨k4,k5,k6⟩:=k3 a1 a2
  have hc1:=hc.mono s1
  have e1':=s1 _ _ e1
  walk_at "rd"
  refine rd_methv e1' (cl.no _ (by decide +kernel)) ?_
  walk_at "rd"
  refine rd_methv e1' (cl.no _ (by decide +kernel)) ?_
  walk_at "rd"
  cases g1:bkGet now o1 with
  | none => exact ⟨p, la, lb, past, ahead, now, o1, rfl, hc1, .inl ⟨g1, k4 g1 H1 s1⟩⟩
  | some c1 =>
   refine ⟨p,la,lb,past,ahead,now,o1,rfl,hc1,.inr ⟨c1,g1,fun v1 hv1=>?_⟩⟩
   obtain ⟨x1,rfl,hx1,hs1,bc1,br1⟩:=hv1
   walk_at "rd"
   refine rd_methv e1' (cl.no _ (by decide +kernel)) ?_
   walk_at "rd"
   cases g2:bkGet now o2 with
   | none=>exact ⟨p,la,lb,past,ahead,now,o2,rfl,hc1,.inl ⟨g2,k5 c1 g1 g2 H1 s1⟩⟩
   | some c2 =>
    refine ⟨p,la,lb,past,ahead,now,o2,rfl,hc1,.inr ⟨c2,g2,fun v2 hv2=>?_⟩⟩
    obtain ⟨x2,rfl,hx2,hs2,bc2,br2⟩:=hv2
    obtain ⟨k7,k8,k9⟩:=k6 c1 c2 g1 g2
    walk_at "rd"
    refine ⟨x1,x2,wy,c1.1,c2.1,c1.2.1,c1.2.2,c2.2.1,c2.2.2,rfl,hx1,hx2,hs1,hs2,bc1,br1,bc2,br2,fun z=>(k7 z).back s1 fun cs' H2 x s2 q hx=>?_,fun z=>(k8 z).back s1 fun rs' H2 x s2 q hx=>?_,fun z1 z2=>k9 z1 z2 H1 s1⟩
    ·obtain ⟨bc',q⟩:=q
     walk_at "rd"
     refine ⟨p,la,lb,past,ahead,now,n,.ref x,(c1.1,cs',c1.2.2),rfl,hc1.mono s2,hz,hn,⟨x,rfl,hx,hs1,bc',br1⟩,fun lb' H3 m3 nl ch=>?_⟩
     walk_at "rd"
     exact q.back (s1.trans s2) lb' H3 m3 nl ch
    ·obtain ⟨br',q⟩:=q
     walk_at "rd"
     refine ⟨p,la,lb,past,ahead,now,n,.ref x,(c1.1,c1.2.1,rs'),rfl,hc1.mono s2,hz,hn,⟨x,rfl,hx,hs1,bc1,br'⟩,fun lb' H3 m3 nl ch=>?_⟩
     walk_at "rd"
     exact q.back (s1.trans s2) lb' H3 m3 nl ch
def spx_Chestpart (C CH NC BN TK NL:Addr):Sp:=fun vs H Q E=>∃ (p la lb:Addr) (past ahead:List Bk) (now:Bk) (n wy:Str) (k:Int) (o:Str),vs=[.ref p,.str n,.str wy,.int k,.str o]∧o.cps.size≤1000∧ChAt C CH H p la lb past now ahead ∧
 ((bkGet now n=none∧E (.ref NC) none H)∨∃ c,bkGet now n=some c∧((nameOk o=false∧∀ H',Same H H'→E (.ref BN) none H')∨(nameOk o=true∧(bkGet now o).isSome=true∧∀ H',Same H H'→E (.ref TK) none H')∨(nameOk o=true∧bkGet now o=none∧NoLn wy k c.2.1 c.2.2∧∀ H',Same H H'→E (.ref NL) none H')))
theorem okx_Chestpart (T:Txt K mg t):FnOk P w K mg base (CX1 P w) 11 t.f_Chestpart t.d_Chestpart ["self","name","way","k","other"] (spx_Chestpart t.a_Cloth t.a_Chest t.a_NoCloth t.a_BadName t.a_Taken t.a_NoLine):=by
 have GX_Chestneedfree:=okx_Chestneedfree (P:=P) (w:=w) (base:=base) T
 have GX_Chestcloth:=okx_Chestcloth (P:=P) (w:=w) (base:=base) T
 have GX_parted:=okx_parted (P:=P) (w:=w) (base:=base) T
 refine T.F_Chestpart.ok1 sc_Chestpart (fun vs H Q E h=>?_) (fun cdv A outer s H vs Q E hr h=>?_)
 ·obtain ⟨p,la,lb,past,ahead,now,n,wy,k,o,rfl,_⟩:=h; rfl
 ·obtain ⟨p,la,lb,past,ahead,now,n,wy,k,o,rfl,hsz,hc,q⟩:=h
  obtain ⟨dx,fs,d,e1,cl,_⟩:=hc.ob
  refine ⟨_,(pss_cons (ps_set (i:=5) sc_Chestpart.nd rfl (Or.inl rfl) (pe_meth (pv 0) T.cl_Chest T.m_Chestcloth GX_Chestcloth (hr.mono (by first | decide | omega)) T.b_Chestcloth .nil pass1 (pa_cons (pv 1) pa_nil))) (pss_cons (ps_expr (pe_meth (pv 0) T.cl_Chest T.m_Chestneedfree GX_Chestneedfree (hr.mono (by first | decide | omega)) T.b_Chestneedfree .nil pass1 (pa_cons (pv 4) pa_nil))) (pss_cons (ps_set (i:=6) sc_Chestpart.nd rfl (Or.inl rfl) (pe_call GX_parted (hr.mono (by first | decide | omega)) rfl T.mg_parted T.F_parted.kp T.b_parted .nil pass1 (pa_cons (pv 5) (pa_cons (pv 2) (pa_cons (pv 3) pa_nil))))) pss_never))),?_⟩
  walk_at "rd"
  refine rd_methv e1 (cl.no _ (by decide +kernel)) ?_
  walk_at "rd"
  rcases q with ⟨g,q⟩ | ⟨c,g,q⟩
  ·exact ⟨p,la,lb,past,ahead,now,n,rfl,hc,.inl ⟨g,q⟩⟩
  ·refine ⟨p,la,lb,past,ahead,now,n,rfl,hc,.inr ⟨c,g,fun v hv=>?_⟩⟩
   obtain ⟨x,rfl,hx,hs,bc,br⟩:=hv
   walk_at "rd"
   refine rd_methv e1 (cl.no _ (by decide +kernel)) ?_
   walk_at "rd"
   rcases q with ⟨a,q⟩ | ⟨a,b,q⟩ | ⟨a,b,nl,q⟩
   ·exact ⟨p,la,lb,past,ahead,now,o,rfl,hsz,hc,fun _=>q,fun z=>absurd (z.symm.trans a) (by decide),fun z=>absurd (z.symm.trans a) (by decide)⟩
   ·exact ⟨p,la,lb,past,ahead,now,o,rfl,hsz,hc,fun z=>absurd (z.symm.trans a) (by decide),fun _ _=>q,fun _ z=>by rw [z] at b; cases b⟩
   ·refine ⟨p,la,lb,past,ahead,now,o,rfl,hsz,hc,fun z=>absurd (z.symm.trans a) (by decide),fun _ z=>(by rw [b] at z; cases z),fun _ _ H1 s1=>?_⟩
    walk_at "rd"
    exact ⟨x,wy,k,c.1,c.2.1,c.2.2,rfl,hx.mono s1,hs,bc,br,.inr ⟨nl,q H1 s1⟩⟩
end
section
variable {P:Program} {w:World} {K:PySem.W.Frag} {mg:Str→Option Value} {base:Heap} {t:Ad}
def kg (wd W:Str) (l:List V):List V:=if decide (wd=W)=true then l++[V.str W] else l
theorem kg_len {wd W:Str} {l:List V} {n:Nat} (h:l.length≤n):(kg wd W l).length≤n+1:=by
 unfold kg
 split
 ·rw [List.length_append,List.length_singleton]; omega
 ·omega
structure Cls8 (K:PySem.W.Frag) (t:Ad) (C:Addr) (wd:Str):Prop where
 xi:ExcIn K C
 k1:PySem.W.kitOne K (.ref C) (.ref t.a_BadName)=some (decide (wd="name"))
 k2:PySem.W.kitOne K (.ref C) (.ref t.a_Taken)=some (decide (wd="taken"))
 k3:PySem.W.kitOne K (.ref C) (.ref t.a_NoCloth)=some (decide (wd="cloth"))
 k4:PySem.W.kitOne K (.ref C) (.ref t.a_NoLine)=some (decide (wd="line"))
 k5:PySem.W.kitOne K (.ref C) (.ref t.a_BadBit)=some (decide (wd="bit"))
 k6:PySem.W.kitOne K (.ref C) (.ref t.a_BadSize)=some (decide (wd="size"))
 k7:PySem.W.kitOne K (.ref C) (.ref t.a_Unfit)=some (decide (wd="unfit"))
 k8:PySem.W.kitOne K (.ref C) (.ref t.a_NothingLeft)=some (decide (wd="left"))
 fin:(kg wd "left" (kg wd "unfit" (kg wd "size" (kg wd "bit" (kg wd "line" (kg wd "cloth" (kg wd "taken" (kg wd "name" []))))))))=[V.str wd]
theorem Txt.c8_BadName (T:Txt K mg t):Cls8 K t t.a_BadName "name":=⟨T.xi_BadName,T.kt_BadName_BadName,T.kt_BadName_Taken,T.kt_BadName_NoCloth,T.kt_BadName_NoLine,T.kt_BadName_BadBit,T.kt_BadName_BadSize,T.kt_BadName_Unfit,T.kt_BadName_NothingLeft,by decide +kernel⟩
theorem Txt.c8_Taken (T:Txt K mg t):Cls8 K t t.a_Taken "taken":=⟨T.xi_Taken,T.kt_Taken_BadName,T.kt_Taken_Taken,T.kt_Taken_NoCloth,T.kt_Taken_NoLine,T.kt_Taken_BadBit,T.kt_Taken_BadSize,T.kt_Taken_Unfit,T.kt_Taken_NothingLeft,by decide +kernel⟩
theorem Txt.c8_NoCloth (T:Txt K mg t):Cls8 K t t.a_NoCloth "cloth":=⟨T.xi_NoCloth,T.kt_NoCloth_BadName,T.kt_NoCloth_Taken,T.kt_NoCloth_NoCloth,T.kt_NoCloth_NoLine,T.kt_NoCloth_BadBit,T.kt_NoCloth_BadSize,T.kt_NoCloth_Unfit,T.kt_NoCloth_NothingLeft,by decide +kernel⟩
theorem Txt.c8_NoLine (T:Txt K mg t):Cls8 K t t.a_NoLine "line":=⟨T.xi_NoLine,T.kt_NoLine_BadName,T.kt_NoLine_Taken,T.kt_NoLine_NoCloth,T.kt_NoLine_NoLine,T.kt_NoLine_BadBit,T.kt_NoLine_BadSize,T.kt_NoLine_Unfit,T.kt_NoLine_NothingLeft,by decide +kernel⟩
theorem Txt.c8_BadBit (T:Txt K mg t):Cls8 K t t.a_BadBit "bit":=⟨T.xi_BadBit,T.kt_BadBit_BadName,T.kt_BadBit_Taken,T.kt_BadBit_NoCloth,T.kt_BadBit_NoLine,T.kt_BadBit_BadBit,T.kt_BadBit_BadSize,T.kt_BadBit_Unfit,T.kt_BadBit_NothingLeft,by decide +kernel⟩
theorem Txt.c8_BadSize (T:Txt K mg t):Cls8 K t t.a_BadSize "size":=⟨T.xi_BadSize,T.kt_BadSize_BadName,T.kt_BadSize_Taken,T.kt_BadSize_NoCloth,T.kt_BadSize_NoLine,T.kt_BadSize_BadBit,T.kt_BadSize_BadSize,T.kt_BadSize_Unfit,T.kt_BadSize_NothingLeft,by decide +kernel⟩
theorem Txt.c8_Unfit (T:Txt K mg t):Cls8 K t t.a_Unfit "unfit":=⟨T.xi_Unfit,T.kt_Unfit_BadName,T.kt_Unfit_Taken,T.kt_Unfit_NoCloth,T.kt_Unfit_NoLine,T.kt_Unfit_BadBit,T.kt_Unfit_BadSize,T.kt_Unfit_Unfit,T.kt_Unfit_NothingLeft,by decide +kernel⟩
def sp_Lkind (K:PySem.W.Frag) (t:Ad):Sp:=fun vs H Q _=>∃ (e C:Addr) (xo:Option Addr) (wd:Str),vs=[.ref e]∧H e=some (ExcX e C xo)∧Cls8 K t C wd∧∀ l H',Same H H'→H l=none→H' l=some (.lst [.str wd])→Q (.ref l) H'
theorem okq_Lkind (T:Txt K mg t):FnOkQ P w K mg base 1 t.f_Lkind t.d_Lkind ["_law_e"] (sp_Lkind K t):=by
 refine T.F_Lkind.okQ sc_Lkind (fun vs H Q E h=>?_) (fun cdv A outer s H vs Q E hr h=>?_)
 ·obtain ⟨e,C,xo,wd,rfl,_⟩:=h; rfl
 ·obtain ⟨e,C,xo,wd,rfl,he,c,k⟩:=h
  refine cutC (ps_set (i:=1) sc_Lkind.nd rfl (Or.inl rfl) (pe_lst pa_nil)) fun _ _=>cutC (ps_join (ps_if (pt_val (pe_callB (cI_isinstXK K rfl) rfl T.no_isinstance (by rfl) (pa_cons (pv 0) (pa_cons (pe_glob (v:=.ref _) rfl T.mg_BadName rfl) pa_nil)))) (pss_one (ps_expr (pe_bmK K rfl PySem.F.plainAttrs_list PySem.F.slot_list_append PySem.F.type_list_append mt_append (pv 1) (pa_cons pe_str pa_nil)))) pss_nil)) fun _ _=>cutC (ps_join (ps_if (pt_val (pe_callB (cI_isinstXK K rfl) rfl T.no_isinstance (by rfl) (pa_cons (pv 0) (pa_cons (pe_glob (v:=.ref _) rfl T.mg_Taken rfl) pa_nil)))) (pss_one (ps_expr (pe_bmK K rfl PySem.F.plainAttrs_list PySem.F.slot_list_append PySem.F.type_list_append mt_append (pv 1) (pa_cons pe_str pa_nil)))) pss_nil)) fun _ _=>cutC (ps_join (ps_if (pt_val (pe_callB (cI_isinstXK K rfl) rfl T.no_isinstance (by rfl) (pa_cons (pv 0) (pa_cons (pe_glob (v:=.ref _) rfl T.mg_NoCloth rfl) pa_nil)))) (pss_one (ps_expr (pe_bmK K rfl PySem.F.plainAttrs_list PySem.F.slot_list_append PySem.F.type_list_append mt_append (pv 1) (pa_cons pe_str pa_nil)))) pss_nil)) fun _ _=>cutC (ps_join (ps_if (pt_val (pe_callB (cI_isinstXK K rfl) rfl T.no_isinstance (by rfl) (pa_cons (pv 0) (pa_cons (pe_glob (v:=.ref _) rfl T.mg_NoLine rfl) pa_nil)))) (pss_one (ps_expr (pe_bmK K rfl PySem.F.plainAttrs_list PySem.F.slot_list_append PySem.F.type_list_append mt_append (pv 1) (pa_cons pe_str pa_nil)))) pss_nil)) fun _ _=>cutC (ps_join (ps_if (pt_val (pe_callB (cI_isinstXK K rfl) rfl T.no_isinstance (by rfl) (pa_cons (pv 0) (pa_cons (pe_glob (v:=.ref _) rfl T.mg_BadBit rfl) pa_nil)))) (pss_one (ps_expr (pe_bmK K rfl PySem.F.plainAttrs_list PySem.F.slot_list_append PySem.F.type_list_append mt_append (pv 1) (pa_cons pe_str pa_nil)))) pss_nil)) fun _ _=>cutC (ps_join (ps_if (pt_val (pe_callB (cI_isinstXK K rfl) rfl T.no_isinstance (by rfl) (pa_cons (pv 0) (pa_cons (pe_glob (v:=.ref _) rfl T.mg_BadSize rfl) pa_nil)))) (pss_one (ps_expr (pe_bmK K rfl PySem.F.plainAttrs_list PySem.F.slot_list_append PySem.F.type_list_append mt_append (pv 1) (pa_cons pe_str pa_nil)))) pss_nil)) fun _ _=>cutC (ps_join (ps_if (pt_val (pe_callB (cI_isinstXK K rfl) rfl T.no_isinstance (by rfl) (pa_cons (pv 0) (pa_cons (pe_glob (v:=.ref _) rfl T.mg_Unfit rfl) pa_nil)))) (pss_one (ps_expr (pe_bmK K rfl PySem.F.plainAttrs_list PySem.F.slot_list_append PySem.F.type_list_append mt_append (pv 1) (pa_cons pe_str pa_nil)))) pss_nil)) fun _ _=>cutC (ps_join (ps_if (pt_val (pe_callB (cI_isinstXK K rfl) rfl T.no_isinstance (by rfl) (pa_cons (pv 0) (pa_cons (pe_glob (v:=.ref _) rfl T.mg_NothingLeft rfl) pa_nil)))) (pss_one (ps_expr (pe_bmK K rfl PySem.F.plainAttrs_list PySem.F.slot_list_append PySem.F.type_list_append mt_append (pv 1) (pa_cons pe_str pa_nil)))) pss_nil)) fun _ _=>cutE (ps_ret (pv 1)) fun _ _=>?_
  walk_at "rd"
  refine ⟨Nat.zero_le _,fun l nl=>?_⟩
  have s0:Same H (upd H l (.lst [])):=Same.new nl
  have f0:=upd_same (H:=H) (a:=l) (o:=HO.lst [])
  have z0:([]:List V).length≤0:=Nat.le_refl _
  generalize upd H l (HO.lst [])=H0 at s0 f0 ⊢
  walk_at "rd"
  refine rd_join (fun σ' H'=>σ'=[some (.ref e),some (.ref l)]∧Same H H'∧H' l=some (.lst (kg wd "name" []))) ?_ ?_
  ·walk_at "rd"
   refine rd_isiX (s0 _ _ he) c.xi c.k1 ?_
   walk_at "rd"
   cases hd:decide (wd="name") with
   | false =>
    walk_at "rd"
    exact ⟨rfl,s0,by unfold kg; rw [hd]; exact f0⟩
   | true =>
    walk_at "rd"
    refine rd_bmL f0 ?_
    walk_at "rd"
    refine rd_append f0 (small1000 (by omega)) ?_
    walk_at "rd"
    exact ⟨rfl,s0.later nl,by rw [upd_same]; unfold kg; rw [hd]; rfl⟩
  rintro σ1 H1 ⟨rfl,s1,f1⟩
  have z1:=kg_len (wd:=wd) (W:="name") z0
  walk_at "rd"
  refine rd_join (fun σ' H'=>σ'=[some (.ref e),some (.ref l)]∧Same H H'∧H' l=some (.lst (kg wd "taken" (kg wd "name" [])))) ?_ ?_
  ·walk_at "rd"
   refine rd_isiX (s1 _ _ he) c.xi c.k2 ?_
   walk_at "rd"
   cases hd:decide (wd="taken") with
   | false =>
    walk_at "rd"
    exact ⟨rfl,s1,by unfold kg; rw [hd]; exact f1⟩
   | true =>
    walk_at "rd"
    refine rd_bmL f1 ?_
    walk_at "rd"
    refine rd_append f1 (small1000 (by omega)) ?_
    walk_at "rd"
    exact ⟨rfl,s1.later nl,by rw [upd_same]; unfold kg; rw [hd]; rfl⟩
  rintro σ2 H2 ⟨rfl,s2,f2⟩
  have z2:=kg_len (wd:=wd) (W:="taken") z1
  walk_at "rd"
  refine rd_join (fun σ' H'=>σ'=[some (.ref e),some (.ref l)]∧Same H H'∧H' l=some (.lst (kg wd "cloth" (kg wd "taken" (kg wd "name" []))))) ?_ ?_
  ·walk_at "rd"
   refine rd_isiX (s2 _ _ he) c.xi c.k3 ?_
   walk_at "rd"
   cases hd:decide (wd="cloth") with
   | false =>
    walk_at "rd"
    exact ⟨rfl,s2,by unfold kg; rw [hd]; exact f2⟩
   | true =>
    walk_at "rd"
    refine rd_bmL f2 ?_
    walk_at "rd"
    refine rd_append f2 (small1000 (by omega)) ?_
    walk_at "rd"
    exact ⟨rfl,s2.later nl,by rw [upd_same]; unfold kg; rw [hd]; rfl⟩
  rintro σ3 H3 ⟨rfl,s3,f3⟩
  have z3:=kg_len (wd:=wd) (W:="cloth") z2
  walk_at "rd"
  refine rd_join (fun σ' H'=>σ'=[some (.ref e),some (.ref l)]∧Same H H'∧H' l=some (.lst (kg wd "line" (kg wd "cloth" (kg wd "taken" (kg wd "name" [])))))) ?_ ?_
  ·walk_at "rd"
   refine rd_isiX (s3 _ _ he) c.xi c.k4 ?_
   walk_at "rd"
   cases hd:decide (wd="line") with
   | false =>
    walk_at "rd"
    exact ⟨rfl,s3,by unfold kg; rw [hd]; exact f3⟩
   | true =>
    walk_at "rd"
    refine rd_bmL f3 ?_
    walk_at "rd"
    refine rd_append f3 (small1000 (by omega)) ?_
    walk_at "rd"
    exact ⟨rfl,s3.later nl,by rw [upd_same]; unfold kg; rw [hd]; rfl⟩
  rintro σ4 H4 ⟨rfl,s4,f4⟩
  have z4:=kg_len (wd:=wd) (W:="line") z3
  walk_at "rd"
  refine rd_join (fun σ' H'=>σ'=[some (.ref e),some (.ref l)]∧Same H H'∧H' l=some (.lst (kg wd "bit" (kg wd "line" (kg wd "cloth" (kg wd "taken" (kg wd "name" []))))))) ?_ ?_
  ·walk_at "rd"
   refine rd_isiX (s4 _ _ he) c.xi c.k5 ?_
   walk_at "rd"
   cases hd:decide (wd="bit") with
   | false =>
    walk_at "rd"
    exact ⟨rfl,s4,by unfold kg; rw [hd]; exact f4⟩
   | true =>
    walk_at "rd"
    refine rd_bmL f4 ?_
    walk_at "rd"
    refine rd_append f4 (small1000 (by omega)) ?_
    walk_at "rd"
    exact ⟨rfl,s4.later nl,by rw [upd_same]; unfold kg; rw [hd]; rfl⟩
  rintro σ5 H5 ⟨rfl,s5,f5⟩
  have z5:=kg_len (wd:=wd) (W:="bit") z4
  walk_at "rd"
  refine rd_join (fun σ' H'=>σ'=[some (.ref e),some (.ref l)]∧Same H H'∧H' l=some (.lst (kg wd "size" (kg wd "bit" (kg wd "line" (kg wd "cloth" (kg wd "taken" (kg wd "name" [])))))))) ?_ ?_
  ·walk_at "rd"
   refine rd_isiX (s5 _ _ he) c.xi c.k6 ?_
   walk_at "rd"
   cases hd:decide (wd="size") with
   | false =>
    walk_at "rd"
    exact ⟨rfl,s5,by unfold kg; rw [hd]; exact f5⟩
   | true =>
    walk_at "rd"
    refine rd_bmL f5 ?_
    walk_at "rd"
    refine rd_append f5 (small1000 (by omega)) ?_
    walk_at "rd"
    exact ⟨rfl,s5.later nl,by rw [upd_same]; unfold kg; rw [hd]; rfl⟩
  rintro σ6 H6 ⟨rfl,s6,f6⟩
  have z6:=kg_len (wd:=wd) (W:="size") z5
  walk_at "rd"
  refine rd_join (fun σ' H'=>σ'=[some (.ref e),some (.ref l)]∧Same H H'∧H' l=some (.lst (kg wd "unfit" (kg wd "size" (kg wd "bit" (kg wd "line" (kg wd "cloth" (kg wd "taken" (kg wd "name" []))))))))) ?_ ?_
  ·walk_at "rd"
   refine rd_isiX (s6 _ _ he) c.xi c.k7 ?_
   walk_at "rd"
   cases hd:decide (wd="unfit") with
   | false =>
    walk_at "rd"
    exact ⟨rfl,s6,by unfold kg; rw [hd]; exact f6⟩
   | true =>
    walk_at "rd"
    refine rd_bmL f6 ?_
    walk_at "rd"
    refine rd_append f6 (small1000 (by omega)) ?_
    walk_at "rd"
    exact ⟨rfl,s6.later nl,by rw [upd_same]; unfold kg; rw [hd]; rfl⟩
  rintro σ7 H7 ⟨rfl,s7,f7⟩
  have z7:=kg_len (wd:=wd) (W:="unfit") z6
  walk_at "rd"
  refine rd_join (fun σ' H'=>σ'=[some (.ref e),some (.ref l)]∧Same H H'∧H' l=some (.lst (kg wd "left" (kg wd "unfit" (kg wd "size" (kg wd "bit" (kg wd "line" (kg wd "cloth" (kg wd "taken" (kg wd "name" [])))))))))) ?_ ?_
  ·walk_at "rd"
   refine rd_isiX (s7 _ _ he) c.xi c.k8 ?_
   walk_at "rd"
   cases hd:decide (wd="left") with
   | false =>
    walk_at "rd"
    exact ⟨rfl,s7,by unfold kg; rw [hd]; exact f7⟩
   | true =>
    walk_at "rd"
    refine rd_bmL f7 ?_
    walk_at "rd"
    refine rd_append f7 (small1000 (by omega)) ?_
    walk_at "rd"
    exact ⟨rfl,s7.later nl,by rw [upd_same]; unfold kg; rw [hd]; rfl⟩
  rintro σ8 H8 ⟨rfl,s8,f8⟩
  have z8:=kg_len (wd:=wd) (W:="left") z7
  walk_at "rd"
  rw [c.fin] at f8
  exact k l H8 s8 nl f8
end
section
variable {P:Program} {w:World} {K:PySem.W.Frag} {mg:Str→Option Value} {base:Heap} {t:Ad}
def sp_Lclothkind (C CH:Addr):Sp:=fun vs H Q _=>∃ (p la lb:Addr) (past ahead:List Bk) (now:Bk) (n:Str),vs=[.ref p,.str n]∧ChAt C CH H p la lb past now ahead∧bkGet now n=none∧∀ l H',Same H H'→H' l=some (.lst [.str "cloth"])→Q (.ref l) H'
theorem ok_Lclothkind (T:Txt K mg t):FnOk P w K mg base CX0 3 t.f_Lclothkind t.d_Lclothkind ["_law_chest","_law_name"] (sp_Lclothkind t.a_Cloth t.a_Chest):=by
 have GX_Chestcloth:=okx_Chestcloth (P:=P) (w:=w) (base:=base) T
 have GQ_Lkind:=okq_Lkind (P:=P) (w:=w) (base:=base) T
 refine T.F_Lclothkind.ok sc_Lclothkind (fun vs H Q E h=>?_) (fun cdv A outer s H vs Q E hr h=>?_)
 ·obtain ⟨p,la,lb,past,ahead,now,n,rfl,_⟩:=h; rfl
 ·obtain ⟨p,la,lb,past,ahead,now,n,rfl,hc,g,k⟩:=h
  obtain ⟨dx,fs,d,e1,cl,_⟩:=hc.ob
  refine ⟨_,(pss_cons (ps_try (i:=2) sc_Lclothkind.nd rfl rfl rfl T.mg_SewError (fun _ _=>(pss_one (ps_expr (pe_methS (pv 0) T.cl_Chest T.m_Chestcloth GX_Chestcloth (hr.mono (by first | decide | omega)) T.b_Chestcloth .nil passT (pa_cons (pv 1) pa_nil))))) (fun _=>(pss_one (ps_ret (pe_callQ GQ_Lkind (RoomQ.mark (RoomQ.mono hr.q (by first | decide | omega))) rfl T.mg_Lkind T.F_Lkind.kp T.b_Lkind .nil (pa_cons (pv 2) pa_nil)))))) (pss_one (ps_ret (pe_lst (pa_cons pe_str pa_nil))))),?_⟩
  walk_at "rd"
  refine rd_methv e1 (cl.no _ (by decide +kernel)) ?_
  walk_at "rd"
  refine ⟨p,la,lb,past,ahead,now,n,rfl,hc,.inl ⟨g,t.a_NoCloth,rfl,T.cat_NoCloth,fun e he=>?_⟩⟩
  walk_at "rd"
  refine ⟨e,t.a_NoCloth,none,"cloth",rfl,upd_same,T.c8_NoCloth,fun l H1 s1 nl el=>?_⟩
  walk_at "rd"
  exact k l H1 ((Same.new he).trans s1) el
end
section
variable {P:Program} {w:World} {K:PySem.W.Frag} {mg:Str→Option Value} {base:Heap} {t:Ad}
def sp_Ltold (C:Addr):Sp:=fun vs H Q _=>∃ (p:Addr) (s:Int) (cs rs:List Int),vs=[.ref p]∧ClothAt C H p s cs rs∧∀ tp c r H',Same H H'→H' tp=some (.tup [.int s,.ref c,.ref r])→H' c=some (.lst (cs.map V.int))→H' r=some (.lst (rs.map V.int))→Q (.ref tp) H'
theorem ok_Ltold (T:Txt K mg t):FnOk P w K mg base CX0 2 t.f_Ltold t.d_Ltold ["_law_cloth"] (sp_Ltold t.a_Cloth):=by
 have G_Clothshade:=ok_Clothshade (P:=P) (w:=w) (base:=base) T
 have G_Clothcols:=ok_Clothcols (P:=P) (w:=w) (base:=base) T
 have G_Clothrows:=ok_Clothrows (P:=P) (w:=w) (base:=base) T
 refine T.F_Ltold.ok sc_Ltold (fun vs H Q E h=>?_) (fun cdv A outer s H vs Q E hr h=>?_)
 ·obtain ⟨p,s,cs,rs,rfl,_⟩:=h; rfl
 ·obtain ⟨p,s,cs,rs,rfl,hc,z⟩:=h
  obtain ⟨dx,a,b,e1,e2,e3⟩:=hc.ob
  refine ⟨_,(pss_one (ps_ret (pe_tup (pa_cons (pe_meth0 (pv 0) T.cl_Cloth T.m_Clothshade G_Clothshade (hr.mono (by first | decide | omega)) T.b_Clothshade .nil pass0) (pa_cons (pe_meth0 (pv 0) T.cl_Cloth T.m_Clothcols G_Clothcols (hr.mono (by first | decide | omega)) T.b_Clothcols .nil pass0) (pa_cons (pe_meth0 (pv 0) T.cl_Cloth T.m_Clothrows G_Clothrows (hr.mono (by first | decide | omega)) T.b_Clothrows .nil pass0) pa_nil)))))),?_⟩
  walk_at "rd"
  refine rd_methv e1 (cfl_no _ _ _ (by decide +kernel)) ?_
  walk_at "rd"
  refine ⟨p,s,cs,rs,rfl,hc,?_⟩
  walk_at "rd"
  refine rd_methv e1 (cfl_no _ _ _ (by decide +kernel)) ?_
  walk_at "rd"
  refine ⟨p,s,cs,rs,rfl,hc,fun l1 n1=>?_⟩
  have s1:=Same.new (o:=HO.lst (cs.map V.int)) n1
  walk_at "rd"
  refine rd_methv (s1 _ _ e1) (cfl_no _ _ _ (by decide +kernel)) ?_
  walk_at "rd"
  refine ⟨p,s,cs,rs,rfl,hc.mono s1,fun l2 n2=>?_⟩
  have s2:=Same.new (o:=HO.lst (rs.map V.int)) n2
  walk_at "rd"
  refine ⟨by show 3≤sizeLine; decide,fun tp ntp=>?_⟩
  have s3:=Same.new (o:=HO.tup [V.int s,V.ref l1,V.ref l2]) ntp
  exact z tp l1 l2 _ (s1.trans (s2.trans s3)) upd_same (s3 _ _ (s2 _ _ upd_same)) (s3 _ _ upd_same)
def planD (s:Int) (cs rs:List Int):PyData:=.tuple [.int s,.list (cs.map PyData.int),.list (rs.map PyData.int)]
theorem planD_ok {s:Int} {cs rs:List Int} (bc:Bits cs) (br:Bits rs):Ok3 (planD s cs rs):=by
 refine .inr (.inr ⟨_,rfl,by show 3≤1000; decide,fun e he=>?_⟩)
 simp only [List.mem_cons,List.not_mem_nil,or_false] at he
 rcases he with rfl | rfl | rfl
 ·exact okS_int _
 ·exact okS_ints (by have:=bc.1; omega)
 ·exact okS_ints (by have:=br.1; omega)
theorem planD_rep {H:Hp} {tp c r:Addr} {s:Int} {cs rs:List Int} (h:H tp=some (.tup [.int s,.ref c,.ref r])) (hc:H c=some (.lst (cs.map V.int))) (hr:H r=some (.lst (rs.map V.int))):Rep H (planD s cs rs) (.ref tp):=by
 have r1:=rep_ints hc
 have r2:=rep_ints hr
 simp only [planD,Rep,RepL] at r1 r2 ⊢
 exact ⟨tp,_,rfl,h,_,_,rfl,rfl,_,_,rfl,r1,_,_,rfl,r2,rfl⟩
end
section
variable {P:Program} {w:World} {K:PySem.W.Frag} {mg:Str→Option Value} {base:Heap} {t:Ad}
set_option genInjectivity false in
set_option genSizeOf false in
inductive Dd
 | lay (n:Str) (c:Clo)
 | drop (n:Str)
 | turn (n wy:Str) (k:Int)
 | put (n wy:Str) (k b:Int)
 | cut (n wy:Str) (k:Int)
 | sew (n o1 o2 wy:Str)
 | part (n wy:Str) (k:Int) (o:Str)
 | redo
def PlAt (H:Hp) (q:Addr) (c:Clo):Prop:=∃ a b,H q=some (.tup [.int c.1,.ref a,.ref b])∧H a=some (.lst (c.2.1.map V.int))∧H b=some (.lst (c.2.2.map V.int))
def DdAt (H:Hp) (v:Addr):Dd→Prop
 | .lay n c=>∃ q,H v=some (.tup [.str "lay",.str n,.ref q])∧PlAt H q c
 | .drop n=>H v=some (.tup [.str "drop",.str n])
 | .turn n wy k=>H v=some (.tup [.str "turn",.str n,.str wy,.int k])
 | .put n wy k b=>H v=some (.tup [.str "put",.str n,.str wy,.int k,.int b])
 | .cut n wy k=>H v=some (.tup [.str "cut",.str n,.str wy,.int k])
 | .sew n a b wy=>H v=some (.tup [.str "sew",.str n,.str a,.str b,.str wy])
 | .part n wy k o=>H v=some (.tup [.str "part",.str n,.str wy,.int k,.str o])
 | .redo=>H v=some (.tup [.str "redo"])
theorem PlAt.mono {H H':Hp} {q:Addr} {c:Clo} (s:Same H H') (h:PlAt H q c):PlAt H' q c:=by
 obtain ⟨a,b,h1,h2,h3⟩:=h
 exact ⟨a,b,s _ _ h1,s _ _ h2,s _ _ h3⟩
theorem DdAt.mono {H H':Hp} {v:Addr} {d:Dd} (s:Same H H') (h:DdAt H v d):DdAt H' v d:=by
 cases d with
 | lay n c=>obtain ⟨q,h1,h2⟩:=h; exact ⟨q,s _ _ h1,h2.mono s⟩
 | _=>exact s _ _ h
def CloOk (c:Clo):Prop:=(c.1=0∨c.1=1)∧Bits c.2.1∧Bits c.2.2
def Refu (now:Bk):Dd→Str→Prop
  | .lay n c, wd => n.cps.size ≤ 1000 ∧ CloOk c ∧ ((nameOk n = false ∧ wd = "name") ∨ (nameOk n = true ∧ (bkGet now n).isSome = true ∧ wd = "taken"))
  | .drop n, wd => bkGet now n = none ∧ wd = "cloth"
  | .turn n wy k, wd => (bkGet now n = none ∧ wd = "cloth") ∨ ∃ c, bkGet now n = some c ∧ NoLn wy k c.2.1 c.2.2 ∧ wd = "line"
  | .cut n wy k, wd => (bkGet now n = none ∧ wd = "cloth") ∨ ∃ c, bkGet now n = some c ∧ NoLn wy k c.2.1 c.2.2 ∧ wd = "line"
  | .put n wy k b, wd => (bkGet now n = none ∧ wd = "cloth") ∨ ∃ c, bkGet now n = some c ∧ (((¬ wy = "col" ∧ ¬ wy = "row") ∧ wd = "line") ∨ ∃ bs, IsWay wy c.2.1 c.2.2 bs ∧
      ((¬ (0≤k∧k<(bs.length:Int)+1)∧wd="line")∨((0≤k∧k<(bs.length:Int)+1)∧isBit b=false∧wd="bit")∨((0≤k∧k<(bs.length:Int)+1)∧isBit b=true∧bs.length=39∧wd="size")))
  | .sew n o1 o2 wy, wd => n.cps.size ≤ 1000 ∧ ((nameOk n = false ∧ wd = "name") ∨ (nameOk n = true ∧ (bkGet now n).isSome = true ∧ wd = "taken") ∨ (nameOk n = true ∧ bkGet now n = none ∧
      ((bkGet now o1=none∧wd="cloth")∨∃ c1,bkGet now o1=some c1∧((bkGet now o2=none∧wd="cloth")∨∃ c2,bkGet now o2=some c2 ∧
        (((¬ wy="col"∧¬ wy="row")∧wd="line")∨(wy="row"∧¬ SzOk c1.2.2 c1.2.1 c2.2.2 c2.2.1∧wd="size")∨(wy="col"∧¬ SzOk c1.2.1 c1.2.2 c2.2.1 c2.2.2∧wd="size") ∨
         (wy="col"∧(∃ k:Nat,k<c1.2.2.length∧badAt c1.2.2 c2.2.2 ((c1.2.1.length:Int)+1) k=true)∧SzOk c1.2.1 c1.2.2 c2.2.1 c2.2.2∧wd="unfit"))))))
  | .part n wy k o, wd => o.cps.size ≤ 1000 ∧ ((bkGet now n = none ∧ wd = "cloth") ∨ ∃ c, bkGet now n = some c ∧ ((nameOk o = false ∧ wd = "name") ∨ (nameOk o = true ∧ (bkGet now o).isSome = true ∧ wd = "taken") ∨ (nameOk o = true ∧ bkGet now o = none ∧ NoLn wy k c.2.1 c.2.2 ∧ wd = "line")))
  | .redo, _ => False
theorem if_ne {c:Bool} {α β:Prop} (h:c=false) (q:β):if c=true then α else β:=by subst h; exact q
theorem if_yes {c:Bool} {α β:Prop} (h:c=true) (q:α):if c=true then α else β:=by subst h; exact q
theorem rd_tryF {K:PySem.W.Frag} {S:Addr} {i:Nat} {tb:(L2.St→XK)→TS} {ts:TS} {D:Ends} {σ:L2.St} {H:Hp} (F:(L2.St→XK)→Prop) (h1:F (ETof K S i ts D)) (h2:∀ ET,F ET→tb ET D σ H):tTry K S i tb ts D σ H:=h2 _ h1
def sp_Ldo (C CH:Addr):Sp:=fun vs H Q _=>∃ (p la lb v:Addr) (past ahead:List Bk) (now:Bk) (dd:Dd),vs=[.ref p,.ref v]∧ChAt C CH H p la lb past now ahead∧past.length≤900∧now.length≤900∧DdAt H v dd ∧
  ((∃ wd,Refu now dd wd∧∀ l H',Same H H'→H' l=some (.lst [.str wd])→Q (.ref l) H') ∨
   (∃ n c,dd=.lay n c∧n.cps.size≤1000∧CloOk c∧nameOk n=true∧bkGet now n=none∧∀ l lb' H',ButL [p,la] H H'→H lb'=none→ChAt C CH H' p la lb' (past++[now]) (bkPut now n c) []→H' l=some (.lst [])→Q (.ref l) H') ∨
   (dd=.redo∧∃ ps b,ahead=ps++[b]∧∀ l H',ButL [p,la,lb] H H'→ChAt C CH H' p la lb (past++[now]) b ps→H' l=some (.lst [])→Q (.ref l) H'))
theorem ok_Ldo (T:Txt K mg t):FnOk P w K mg base CX0 12 t.f_Ldo t.d_Ldo ["_law_chest","_law_deed"] (sp_Ldo t.a_Cloth t.a_Chest):=by
 have GX_ClothInit:=okx_ClothInit (P:=P) (w:=w) (base:=base) T
 have GX_Chestlay:=okx_Chestlay (P:=P) (w:=w) (base:=base) T
 have GX_Chestdrop:=okx_Chestdrop (P:=P) (w:=w) (base:=base) T
 have GX_Chestturn:=okx_Chestturn (P:=P) (w:=w) (base:=base) T
 have GX_Chestput:=okx_Chestput (P:=P) (w:=w) (base:=base) T
 have GX_Chestcut:=okx_Chestcut (P:=P) (w:=w) (base:=base) T
 have GX_Chestsew:=okx_Chestsew (P:=P) (w:=w) (base:=base) T
 have GX_Chestpart:=okx_Chestpart (P:=P) (w:=w) (base:=base) T
 have GX_Chestundo:=okx_Chestundo (P:=P) (w:=w) (base:=base) T
 have GX_Chestredo:=okx_Chestredo (P:=P) (w:=w) (base:=base) T
 have GQ_Lkind:=okq_Lkind (P:=P) (w:=w) (base:=base) T
 refine T.F_Ldo.ok sc_Ldo (fun vs H Q E h=>?_) (fun cdv A outer s H vs Q E hr h=>?_)
 ·obtain ⟨p,la,lb,v,past,ahead,now,dd,rfl,_⟩:=h; rfl
 ·obtain ⟨p,la,lb,v,past,ahead,now,dd,rfl,hc,hz,hn,hd,k0⟩:=h
  obtain ⟨dx,fs,d,e1,cl,_⟩:=hc.ob
  refine cutC (ps_set (i:=2) sc_Ldo.nd rfl (Or.inl rfl) pe_str) fun _ _=>cutC (ps_try (i:=4) sc_Ldo.nd rfl rfl rfl T.mg_SewError (fun _ _=>(pss_one (ps_if (pt_cmpR op_eq (pe_ix (ix_tupK K rfl) (pv 1) pe_int (fun _ _=>rfl)) pe_str (nomark _)) (pss_cons (ps_set (i:=3) sc_Ldo.nd rfl (Or.inl rfl) (pe_ix (ix_tupK K rfl) (pv 1) pe_int (fun _ _=>rfl))) (pss_one (ps_set (i:=2) sc_Ldo.nd rfl (Or.inl rfl) (pe_methS (pv 0) T.cl_Chest T.m_Chestlay GX_Chestlay (hr.mono (by first | decide | omega)) T.b_Chestlay .nil passT (pa_cons (pe_ix (ix_tupK K rfl) (pv 1) pe_int (fun _ _=>rfl)) (pa_cons (pe_makeS T.mk_Cloth GX_ClothInit (hr.mono (by first | decide | omega)) rfl T.mg_Cloth T.b_ClothInit .nil passT (pa_cons (pe_ix (ix_tupK K rfl) (pv 3) pe_int (fun _ _=>rfl)) (pa_cons (pe_callTy (cI_listK K rfl) rfl T.no_list (by rfl) (pa_cons (pe_ix (ix_tupK K rfl) (pv 3) pe_int (fun _ _=>rfl)) pa_nil)) (pa_cons (pe_callTy (cI_listK K rfl) rfl T.no_list (by rfl) (pa_cons (pe_ix (ix_tupK K rfl) (pv 3) pe_int (fun _ _=>rfl)) pa_nil)) pa_nil)))) pa_nil)))))) (pss_one (ps_if (pt_cmpR op_eq (pe_ix (ix_tupK K rfl) (pv 1) pe_int (fun _ _=>rfl)) pe_str (nomark _)) (pss_one (ps_set (i:=2) sc_Ldo.nd rfl (Or.inl rfl) (pe_methS (pv 0) T.cl_Chest T.m_Chestdrop GX_Chestdrop (hr.mono (by first | decide | omega)) T.b_Chestdrop .nil passT (pa_cons (pe_ix (ix_tupK K rfl) (pv 1) pe_int (fun _ _=>rfl)) pa_nil)))) (pss_one (ps_if (pt_cmpR op_eq (pe_ix (ix_tupK K rfl) (pv 1) pe_int (fun _ _=>rfl)) pe_str (nomark _)) (pss_one (ps_set (i:=2) sc_Ldo.nd rfl (Or.inl rfl) (pe_methS (pv 0) T.cl_Chest T.m_Chestturn GX_Chestturn (hr.mono (by first | decide | omega)) T.b_Chestturn .nil passT (pa_cons (pe_ix (ix_tupK K rfl) (pv 1) pe_int (fun _ _=>rfl)) (pa_cons (pe_ix (ix_tupK K rfl) (pv 1) pe_int (fun _ _=>rfl)) (pa_cons (pe_ix (ix_tupK K rfl) (pv 1) pe_int (fun _ _=>rfl)) pa_nil)))))) (pss_one (ps_if (pt_cmpR op_eq (pe_ix (ix_tupK K rfl) (pv 1) pe_int (fun _ _=>rfl)) pe_str (nomark _)) (pss_one (ps_set (i:=2) sc_Ldo.nd rfl (Or.inl rfl) (pe_methS (pv 0) T.cl_Chest T.m_Chestput GX_Chestput (hr.mono (by first | decide | omega)) T.b_Chestput .nil passT (pa_cons (pe_ix (ix_tupK K rfl) (pv 1) pe_int (fun _ _=>rfl)) (pa_cons (pe_ix (ix_tupK K rfl) (pv 1) pe_int (fun _ _=>rfl)) (pa_cons (pe_ix (ix_tupK K rfl) (pv 1) pe_int (fun _ _=>rfl)) (pa_cons (pe_ix (ix_tupK K rfl) (pv 1) pe_int (fun _ _=>rfl)) pa_nil))))))) (pss_one (ps_if (pt_cmpR op_eq (pe_ix (ix_tupK K rfl) (pv 1) pe_int (fun _ _=>rfl)) pe_str (nomark _)) (pss_one (ps_set (i:=2) sc_Ldo.nd rfl (Or.inl rfl) (pe_methS (pv 0) T.cl_Chest T.m_Chestcut GX_Chestcut (hr.mono (by first | decide | omega)) T.b_Chestcut .nil passT (pa_cons (pe_ix (ix_tupK K rfl) (pv 1) pe_int (fun _ _=>rfl)) (pa_cons (pe_ix (ix_tupK K rfl) (pv 1) pe_int (fun _ _=>rfl)) (pa_cons (pe_ix (ix_tupK K rfl) (pv 1) pe_int (fun _ _=>rfl)) pa_nil)))))) (pss_one (ps_if (pt_cmpR op_eq (pe_ix (ix_tupK K rfl) (pv 1) pe_int (fun _ _=>rfl)) pe_str (nomark _)) (pss_one (ps_set (i:=2) sc_Ldo.nd rfl (Or.inl rfl) (pe_methS (pv 0) T.cl_Chest T.m_Chestsew GX_Chestsew (hr.mono (by first | decide | omega)) T.b_Chestsew .nil passT (pa_cons (pe_ix (ix_tupK K rfl) (pv 1) pe_int (fun _ _=>rfl)) (pa_cons (pe_ix (ix_tupK K rfl) (pv 1) pe_int (fun _ _=>rfl)) (pa_cons (pe_ix (ix_tupK K rfl) (pv 1) pe_int (fun _ _=>rfl)) (pa_cons (pe_ix (ix_tupK K rfl) (pv 1) pe_int (fun _ _=>rfl)) pa_nil))))))) (pss_one (ps_if (pt_cmpR op_eq (pe_ix (ix_tupK K rfl) (pv 1) pe_int (fun _ _=>rfl)) pe_str (nomark _)) (pss_one (ps_set (i:=2) sc_Ldo.nd rfl (Or.inl rfl) (pe_methS (pv 0) T.cl_Chest T.m_Chestpart GX_Chestpart (hr.mono (by first | decide | omega)) T.b_Chestpart .nil passT (pa_cons (pe_ix (ix_tupK K rfl) (pv 1) pe_int (fun _ _=>rfl)) (pa_cons (pe_ix (ix_tupK K rfl) (pv 1) pe_int (fun _ _=>rfl)) (pa_cons (pe_ix (ix_tupK K rfl) (pv 1) pe_int (fun _ _=>rfl)) (pa_cons (pe_ix (ix_tupK K rfl) (pv 1) pe_int (fun _ _=>rfl)) pa_nil))))))) (pss_one (ps_if (pt_cmpR op_eq (pe_ix (ix_tupK K rfl) (pv 1) pe_int (fun _ _=>rfl)) pe_str (nomark _)) (pss_one (ps_set (i:=2) sc_Ldo.nd rfl (Or.inl rfl) (pe_meth0S (pv 0) T.cl_Chest T.m_Chestundo GX_Chestundo (hr.mono (by first | decide | omega)) T.b_Chestundo .nil passT))) (pss_one (ps_set (i:=2) sc_Ldo.nd rfl (Or.inl rfl) (pe_meth0S (pv 0) T.cl_Chest T.m_Chestredo GX_Chestredo (hr.mono (by first | decide | omega)) T.b_Chestredo .nil passT)))))))))))))))))))) (fun _=>(pss_one (ps_ret (pe_callQ GQ_Lkind (RoomQ.mark (RoomQ.mono hr.q (by first | decide | omega))) rfl T.mg_Lkind T.F_Lkind.kp T.b_Lkind .nil (pa_cons (pv 4) pa_nil)))))) fun _ _=>cutC (ps_if (pt_cmpR op_isN (pv 2) pe_non (nomark _)) (pss_one (ps_ret (pe_lst pa_nil))) pss_nil) fun _ _=>cutE (ps_ret (pe_lst (pa_cons pe_str pa_nil))) fun _ _=>?_
  refine rd_seqA fun _ _=>?_
  walk_at "rd1"
  walk_at "rd1"
  walk_at "rd1"
  walk_at "rd1"
  walk_at "rd1"
  walk_at "rd1"
  refine rd_seqA fun _ _=>?_
  walk_at "rd1"
  refine rd_tryF (fun ET=>∀ (a b c d f:Option V) (C:Addr) (xo:Option Addr) (wd:Str) (H1:Hp),Same H H1→Cls8 K t C wd→PySem.W.exmOne K (.ref C) (.ref t.a_SewError)=some true→(∀ l H',Same H H'→H' l=some (.lst [.str wd])→Q (.ref l) H')→ET [a,b,c,d,f] (.ref C) xo H1) (fun a b c d f C xo wd H1 s1 c8 ct kk=>⟨C,rfl,ct,fun e he=>?_⟩) (fun ET fin=>?_)
  ·walk_at "rd"
   refine ⟨e,C,xo,wd,rfl,upd_same,c8,fun l H2 s2 nl el=>?_⟩
   walk_at "rd"
   exact kk l H2 (s1.trans ((Same.new he).trans s2)) el
  walk_at "rd"
  cases dd with
  | drop n =>
   rcases k0 with ⟨wd,⟨g,rfl⟩,kk⟩ | ⟨n',c',z,_⟩ | ⟨z,_⟩
   rotate_left
   ·cases z
   ·cases z
   change H v=some (.tup _) at hd
   refine rd_ixT (SqT.of hd) rfl ?_
   walk_at "rd"
   refine if_ne (by decide +kernel) ?_
   walk_at "rd"
   refine rd_ixT (SqT.of hd) rfl ?_
   walk_at "rd"
   refine if_yes (by decide +kernel) ?_
   walk_at "rd"
   refine rd_methv e1 (cl.no _ (by decide +kernel)) ?_
   walk_at "rd"
   refine rd_ixT (SqT.of hd) rfl ?_
   walk_at "rd"
   exact ⟨p,la,lb,past,ahead,now,n,rfl,hc,by omega,by omega,.inl ⟨g,(fin _ _ _ _ _ _ _ _ _ (Same.refl _) T.c8_NoCloth T.cat_NoCloth kk)⟩⟩
  | turn n wy k =>
   rcases k0 with ⟨wd,rf,kk⟩ | ⟨n',c',z,_⟩ | ⟨z,_⟩
   rotate_left
   ·cases z
   ·cases z
   change H v=some (.tup _) at hd
   refine rd_ixT (SqT.of hd) rfl ?_
   walk_at "rd"
   refine if_ne (by decide +kernel) ?_
   walk_at "rd"
   refine rd_ixT (SqT.of hd) rfl ?_
   walk_at "rd"
   refine if_ne (by decide +kernel) ?_
   walk_at "rd"
   refine rd_ixT (SqT.of hd) rfl ?_
   walk_at "rd"
   refine if_yes (by decide +kernel) ?_
   walk_at "rd"
   refine rd_methv e1 (cl.no _ (by decide +kernel)) ?_
   walk_at "rd"
   refine rd_ixT (SqT.of hd) rfl ?_
   walk_at "rd"
   refine rd_ixT (SqT.of hd) rfl ?_
   walk_at "rd"
   refine rd_ixT (SqT.of hd) rfl ?_
   walk_at "rd"
   rcases rf with ⟨g,rfl⟩ | ⟨c,g,nl,rfl⟩
   ·exact ⟨p,la,lb,past,ahead,now,n,wy,k,rfl,hc,by omega,by omega,.inl ⟨g,(fin _ _ _ _ _ _ _ _ _ (Same.refl _) T.c8_NoCloth T.cat_NoCloth kk)⟩⟩
   ·exact ⟨p,la,lb,past,ahead,now,n,wy,k,rfl,hc,by omega,by omega,.inr ⟨c.1,c.2.1,c.2.2,g,.inl ⟨nl,(fin _ _ _ _ _ _ _ _ _ (Same.refl _) T.c8_NoLine T.cat_NoLine kk)⟩⟩⟩
  | cut n wy k =>
   rcases k0 with ⟨wd,rf,kk⟩ | ⟨n',c',z,_⟩ | ⟨z,_⟩
   rotate_left
   ·cases z
   ·cases z
   change H v=some (.tup _) at hd
   refine rd_ixT (SqT.of hd) rfl ?_
   walk_at "rd"
   refine if_ne (by decide +kernel) ?_
   walk_at "rd"
   refine rd_ixT (SqT.of hd) rfl ?_
   walk_at "rd"
   refine if_ne (by decide +kernel) ?_
   walk_at "rd"
   refine rd_ixT (SqT.of hd) rfl ?_
   walk_at "rd"
   refine if_ne (by decide +kernel) ?_
   walk_at "rd"
   refine rd_ixT (SqT.of hd) rfl ?_
   walk_at "rd"
   refine if_ne (by decide +kernel) ?_
   walk_at "rd"
   refine rd_ixT (SqT.of hd) rfl ?_
   walk_at "rd"
   refine if_yes (by decide +kernel) ?_
   walk_at "rd"
   refine rd_methv e1 (cl.no _ (by decide +kernel)) ?_
   walk_at "rd"
   refine rd_ixT (SqT.of hd) rfl ?_
   walk_at "rd"
   refine rd_ixT (SqT.of hd) rfl ?_
   walk_at "rd"
   refine rd_ixT (SqT.of hd) rfl ?_
   walk_at "rd"
   rcases rf with ⟨g,rfl⟩ | ⟨c,g,nl,rfl⟩
   ·exact ⟨p,la,lb,past,ahead,now,n,wy,k,rfl,hc,by omega,by omega,.inl ⟨g,(fin _ _ _ _ _ _ _ _ _ (Same.refl _) T.c8_NoCloth T.cat_NoCloth kk)⟩⟩
   ·exact ⟨p,la,lb,past,ahead,now,n,wy,k,rfl,hc,by omega,by omega,.inr ⟨c.1,c.2.1,c.2.2,g,.inl ⟨nl,(fin _ _ _ _ _ _ _ _ _ (Same.refl _) T.c8_NoLine T.cat_NoLine kk)⟩⟩⟩
  | put n wy k b =>
   rcases k0 with ⟨wd,rf,kk⟩ | ⟨n',c',z,_⟩ | ⟨z,_⟩
   rotate_left
   ·cases z
   ·cases z
   change H v=some (.tup _) at hd
   refine rd_ixT (SqT.of hd) rfl ?_
   walk_at "rd"
   refine if_ne (by decide +kernel) ?_
   walk_at "rd"
   refine rd_ixT (SqT.of hd) rfl ?_
   walk_at "rd"
   refine if_ne (by decide +kernel) ?_
   walk_at "rd"
   refine rd_ixT (SqT.of hd) rfl ?_
   walk_at "rd"
   refine if_ne (by decide +kernel) ?_
   walk_at "rd"
   refine rd_ixT (SqT.of hd) rfl ?_
   walk_at "rd"
   refine if_yes (by decide +kernel) ?_
   walk_at "rd"
   refine rd_methv e1 (cl.no _ (by decide +kernel)) ?_
   walk_at "rd"
   refine rd_ixT (SqT.of hd) rfl ?_
   walk_at "rd"
   refine rd_ixT (SqT.of hd) rfl ?_
   walk_at "rd"
   refine rd_ixT (SqT.of hd) rfl ?_
   walk_at "rd"
   refine rd_ixT (SqT.of hd) rfl ?_
   walk_at "rd"
   rcases rf with ⟨g,rfl⟩ | ⟨c,g,rf⟩
   ·exact ⟨p,la,lb,past,ahead,now,n,wy,k,b,rfl,hc,by omega,by omega,.inl ⟨g,(fin _ _ _ _ _ _ _ _ _ (Same.refl _) T.c8_NoCloth T.cat_NoCloth kk)⟩⟩
   refine ⟨p,la,lb,past,ahead,now,n,wy,k,b,rfl,hc,by omega,by omega,.inr ⟨c.1,c.2.1,c.2.2,g,?_⟩⟩
   rcases rf with ⟨a,rfl⟩ | ⟨bs,iw,rf⟩
   ·exact .inl ⟨a,(fin _ _ _ _ _ _ _ _ _ (Same.refl _) T.c8_NoLine T.cat_NoLine kk)⟩
   refine .inr ⟨bs,iw,?_⟩
   rcases rf with ⟨a,rfl⟩ | ⟨a,a2,rfl⟩ | ⟨a,a2,a3,rfl⟩
   ·exact .inl ⟨a,(fun H1 s1=>fin _ _ _ _ _ _ _ _ _ s1 T.c8_NoLine T.cat_NoLine kk)⟩
   ·exact .inr (.inl ⟨a,a2,(fun H1 s1=>fin _ _ _ _ _ _ _ _ _ s1 T.c8_BadBit T.cat_BadBit kk)⟩)
   ·exact .inr (.inr (.inl ⟨a,a2,a3,(fun H1 s1=>fin _ _ _ _ _ _ _ _ _ s1 T.c8_BadSize T.cat_BadSize kk)⟩))
  | sew n o1 o2 wy =>
   rcases k0 with ⟨wd,⟨hz1,rf⟩,kk⟩ | ⟨n',c',z,_⟩ | ⟨z,_⟩
   rotate_left
   ·cases z
   ·cases z
   change H v=some (.tup _) at hd
   refine rd_ixT (SqT.of hd) rfl ?_
   walk_at "rd"
   refine if_ne (by decide +kernel) ?_
   walk_at "rd"
   refine rd_ixT (SqT.of hd) rfl ?_
   walk_at "rd"
   refine if_ne (by decide +kernel) ?_
   walk_at "rd"
   refine rd_ixT (SqT.of hd) rfl ?_
   walk_at "rd"
   refine if_ne (by decide +kernel) ?_
   walk_at "rd"
   refine rd_ixT (SqT.of hd) rfl ?_
   walk_at "rd"
   refine if_ne (by decide +kernel) ?_
   walk_at "rd"
   refine rd_ixT (SqT.of hd) rfl ?_
   walk_at "rd"
   refine if_ne (by decide +kernel) ?_
   walk_at "rd"
   refine rd_ixT (SqT.of hd) rfl ?_
   walk_at "rd"
   refine if_yes (by decide +kernel) ?_
   walk_at "rd"
   refine rd_methv e1 (cl.no _ (by decide +kernel)) ?_
   walk_at "rd"
   refine rd_ixT (SqT.of hd) rfl ?_
   walk_at "rd"
   refine rd_ixT (SqT.of hd) rfl ?_
   walk_at "rd"
   refine rd_ixT (SqT.of hd) rfl ?_
   walk_at "rd"
   refine rd_ixT (SqT.of hd) rfl ?_
   walk_at "rd"
   rcases rf with ⟨a,rfl⟩ | ⟨a,a2,rfl⟩ | ⟨a,a2,rf⟩
   ·exact ⟨p,la,lb,past,ahead,now,n,o1,o2,wy,rfl,hz1,hc,by omega,by omega,fun _=>(fun H1 s1=>fin _ _ _ _ _ _ _ _ _ s1 T.c8_BadName T.cat_BadName kk),fun z=>absurd (z.symm.trans a) (by decide),fun z=>absurd (z.symm.trans a) (by decide)⟩
   ·exact ⟨p,la,lb,past,ahead,now,n,o1,o2,wy,rfl,hz1,hc,by omega,by omega,fun z=>absurd (z.symm.trans a) (by decide),fun _ _=>(fun H1 s1=>fin _ _ _ _ _ _ _ _ _ s1 T.c8_Taken T.cat_Taken kk),fun _ z=>by rw [z] at a2; cases a2⟩
   refine ⟨p,la,lb,past,ahead,now,n,o1,o2,wy,rfl,hz1,hc,by omega,by omega,fun z=>absurd (z.symm.trans a) (by decide),fun _ z=>(by rw [a2] at z; cases z),fun _ _=>?_⟩
   rcases rf with ⟨g,rfl⟩ | ⟨c1,g1,rf⟩
   ·exact ⟨fun _=>(fun H1 s1=>fin _ _ _ _ _ _ _ _ _ s1 T.c8_NoCloth T.cat_NoCloth kk),fun c1 z=>(by rw [g] at z; cases z),fun c1 c2 z=>(by rw [g] at z; cases z)⟩
   rcases rf with ⟨g,rfl⟩ | ⟨c2,g2,rf⟩
   ·exact ⟨fun z=>(by rw [g1] at z; cases z),fun _ _ _=>(fun H1 s1=>fin _ _ _ _ _ _ _ _ _ s1 T.c8_NoCloth T.cat_NoCloth kk),fun c1 c2 _ z=>(by rw [g] at z; cases z)⟩
   refine ⟨fun z=>(by rw [g1] at z; cases z),fun _ _ z=>(by rw [g2] at z; cases z),fun c1' c2' z1 z2=>?_⟩
   rw [g1] at z1
   rw [g2] at z2
   cases z1
   cases z2
   rcases rf with ⟨⟨b1,b2⟩,rfl⟩ | ⟨rfl,b2,rfl⟩ | ⟨rfl,b2,rfl⟩ | ⟨rfl,⟨m,b1,b2⟩,b3,rfl⟩
   ·exact ⟨fun z=>absurd z b1,fun z=>absurd z b2,fun _ _=>(fun H1 s1=>fin _ _ _ _ _ _ _ _ _ s1 T.c8_NoLine T.cat_NoLine kk)⟩
   ·exact ⟨fun z=>absurd z (by decide +kernel),fun _=>⟨fun _=>(fun H1 s1=>fin _ _ _ _ _ _ _ _ _ s1 T.c8_BadSize T.cat_BadSize kk),fun z=>absurd z b2,fun z=>absurd z b2⟩,fun _ z=>absurd rfl z⟩
   ·exact ⟨fun _=>⟨fun _=>(fun H1 s1=>fin _ _ _ _ _ _ _ _ _ s1 T.c8_BadSize T.cat_BadSize kk),fun z=>absurd z b2,fun z=>absurd z b2⟩,fun z=>absurd z (by decide +kernel),fun z=>absurd rfl z⟩
   ·exact ⟨fun _=>⟨fun z=>absurd b3 z,fun _ j _ _ _ d H1 s1 _=>fin _ _ _ _ _ _ _ _ _ s1 T.c8_Unfit T.cat_Unfit kk,fun _ z=>(by rw [z m b1] at b2; cases b2)⟩,fun z=>absurd z (by decide +kernel),fun z=>absurd rfl z⟩
  | part n wy k o =>
   rcases k0 with ⟨wd,⟨hz1,rf⟩,kk⟩ | ⟨n',c',z,_⟩ | ⟨z,_⟩
   rotate_left
   ·cases z
   ·cases z
   change H v=some (.tup _) at hd
   refine rd_ixT (SqT.of hd) rfl ?_
   walk_at "rd"
   refine if_ne (by decide +kernel) ?_
   walk_at "rd"
   refine rd_ixT (SqT.of hd) rfl ?_
   walk_at "rd"
   refine if_ne (by decide +kernel) ?_
   walk_at "rd"
   refine rd_ixT (SqT.of hd) rfl ?_
   walk_at "rd"
   refine if_ne (by decide +kernel) ?_
   walk_at "rd"
   refine rd_ixT (SqT.of hd) rfl ?_
   walk_at "rd"
   refine if_ne (by decide +kernel) ?_
   walk_at "rd"
   refine rd_ixT (SqT.of hd) rfl ?_
   walk_at "rd"
   refine if_ne (by decide +kernel) ?_
   walk_at "rd"
   refine rd_ixT (SqT.of hd) rfl ?_
   walk_at "rd"
   refine if_ne (by decide +kernel) ?_
   walk_at "rd"
   refine rd_ixT (SqT.of hd) rfl ?_
   walk_at "rd"
   refine if_yes (by decide +kernel) ?_
   walk_at "rd"
   refine rd_methv e1 (cl.no _ (by decide +kernel)) ?_
   walk_at "rd"
   refine rd_ixT (SqT.of hd) rfl ?_
   walk_at "rd"
   refine rd_ixT (SqT.of hd) rfl ?_
   walk_at "rd"
   refine rd_ixT (SqT.of hd) rfl ?_
   walk_at "rd"
   refine rd_ixT (SqT.of hd) rfl ?_
   walk_at "rd"
   rcases rf with ⟨g,rfl⟩ | ⟨c,g,rf⟩
   ·exact ⟨p,la,lb,past,ahead,now,n,wy,k,o,rfl,hz1,hc,.inl ⟨g,(fin _ _ _ _ _ _ _ _ _ (Same.refl _) T.c8_NoCloth T.cat_NoCloth kk)⟩⟩
   refine ⟨p,la,lb,past,ahead,now,n,wy,k,o,rfl,hz1,hc,.inr ⟨c,g,?_⟩⟩
   rcases rf with ⟨a,rfl⟩ | ⟨a,a2,rfl⟩ | ⟨a,a2,a3,rfl⟩
   ·exact .inl ⟨a,(fun H1 s1=>fin _ _ _ _ _ _ _ _ _ s1 T.c8_BadName T.cat_BadName kk)⟩
   ·exact .inr (.inl ⟨a,a2,(fun H1 s1=>fin _ _ _ _ _ _ _ _ _ s1 T.c8_Taken T.cat_Taken kk)⟩)
   ·exact .inr (.inr ⟨a,a2,a3,(fun H1 s1=>fin _ _ _ _ _ _ _ _ _ s1 T.c8_NoLine T.cat_NoLine kk)⟩)
  | redo =>
   rcases k0 with ⟨wd,z,kk⟩ | ⟨n',c',z,_⟩ | ⟨_,ps,b,eh,kk⟩
   ·cases z
   ·cases z
   change H v=some (.tup _) at hd
   refine rd_ixT (SqT.of hd) rfl ?_
   walk_at "rd"
   refine if_ne (by decide +kernel) ?_
   walk_at "rd"
   refine rd_ixT (SqT.of hd) rfl ?_
   walk_at "rd"
   refine if_ne (by decide +kernel) ?_
   walk_at "rd"
   refine rd_ixT (SqT.of hd) rfl ?_
   walk_at "rd"
   refine if_ne (by decide +kernel) ?_
   walk_at "rd"
   refine rd_ixT (SqT.of hd) rfl ?_
   walk_at "rd"
   refine if_ne (by decide +kernel) ?_
   walk_at "rd"
   refine rd_ixT (SqT.of hd) rfl ?_
   walk_at "rd"
   refine if_ne (by decide +kernel) ?_
   walk_at "rd"
   refine rd_ixT (SqT.of hd) rfl ?_
   walk_at "rd"
   refine if_ne (by decide +kernel) ?_
   walk_at "rd"
   refine rd_ixT (SqT.of hd) rfl ?_
   walk_at "rd"
   refine if_ne (by decide +kernel) ?_
   walk_at "rd"
   refine rd_ixT (SqT.of hd) rfl ?_
   walk_at "rd"
   refine if_ne (by decide +kernel) ?_
   walk_at "rd"
   refine rd_methv e1 (cl.no _ (by decide +kernel)) ?_
   walk_at "rd"
   refine ⟨p,la,lb,past,ahead,now,rfl,hc,by omega,.inr ⟨ps,b,eh,fun H1 m1 ch=>?_⟩⟩
   walk_at "rd"
   refine ⟨rfl,_,rfl,if_yes (decide_eq_true rfl) ?_⟩
   walk_at "rd"
   refine ⟨Nat.zero_le _,fun l nl=>?_⟩
   exact kk l _ (m1.new nl) (ch.mono (Same.new nl)) upd_same
  | lay n c =>
   obtain ⟨q,hd,a,b,hq,ha,hb⟩:=hd
   refine rd_ixT (SqT.of hd) rfl ?_
   walk_at "rd"
   refine if_yes (by decide +kernel) ?_
   walk_at "rd"
   refine rd_ixT (SqT.of hd) rfl ?_
   walk_at "rd"
   refine rd_methv e1 (cl.no _ (by decide +kernel)) ?_
   walk_at "rd"
   refine rd_ixT (SqT.of hd) rfl ?_
   walk_at "rd"
   refine rd_ixT (SqT.of hq) rfl ?_
   walk_at "rd"
   refine rd_ixT (SqT.of hq) rfl ?_
   walk_at "rd"
   refine rd_listL ha fun l1 n1=>?_
   have s1:=Same.new (o:=HO.lst (c.2.1.map V.int)) n1
   have q1:=upd_same (H:=H) (a:=l1) (o:=HO.lst (c.2.1.map V.int))
   generalize upd H l1 (HO.lst (c.2.1.map V.int))=H1 at s1 q1 ⊢
   walk_at "rd"
   refine rd_ixT (SqT.of (s1 _ _ hq)) rfl ?_
   walk_at "rd"
   refine rd_listL (s1 _ _ hb) fun l2 n2=>?_
   have s2:=Same.new (o:=HO.lst (c.2.2.map V.int)) n2
   have q2:=upd_same (H:=H1) (a:=l2) (o:=HO.lst (c.2.2.map V.int))
   generalize upd H1 l2 (HO.lst (c.2.2.map V.int))=H2 at s2 q2 ⊢
   have s12:=s1.trans s2
   walk_at "rd"
   intro x dxx nx ndx nex
   have sM:Same H2 (upd (upd H2 dxx (.own x)) x (.ins t.a_Cloth dxx [])):=(Same.new ndx).later nx
   have ok:n.cps.size≤1000∧CloOk c:=by
    rcases k0 with ⟨wd,rf,kk⟩ | ⟨n',c',z,a1,a2,_⟩ | ⟨z,_⟩
    ·exact ⟨rf.1,rf.2.1⟩
    ·cases z; exact ⟨a1,a2⟩
    ·cases z
   obtain ⟨hsz,sh,bc,br⟩:=ok
   have lc:=bc.1
   have lr:=br.1
   have sb:isBit c.1=true:=by rcases sh with e | e<;>rw [e]<;>rfl
   refine ⟨x,dxx,l1,l2,c.1,c.2.1,c.2.2,rfl,upd_same,sM _ _ (s2 _ _ q1),sM _ _ q2,by omega,by omega,.inr (.inr ⟨⟨lc,lr⟩,by unfold bitsOk; rw [sb,bc.all,br.all]; rfl,fun H4 kp hC=>⟨rfl,?_⟩⟩)⟩
   have s4:=s12.trans (made_at (c:=0) (r:=0) nx ndx kp)
   walk_at "rd"
   refine ⟨p,la,lb,past,ahead,now,n,.ref x,c,rfl,hsz,hc.mono s4,by omega,by omega,⟨x,rfl,hC,sh,bc,br⟩,?_⟩
   rcases k0 with ⟨wd,⟨_,_,rf⟩,kk⟩ | ⟨n',c',z,_,_,g1,g2,kk⟩ | ⟨z,_⟩
   ·rcases rf with ⟨g,rfl⟩ | ⟨g,g2,rfl⟩
    ·exact ⟨fun _=>(fun H1 s1=>fin _ _ _ _ _ _ _ _ _ (s4.trans s1) T.c8_BadName T.cat_BadName kk),fun z=>absurd (z.symm.trans g) (by decide),fun z=>absurd (z.symm.trans g) (by decide)⟩
    ·exact ⟨fun z=>absurd (z.symm.trans g) (by decide),fun _ _=>(fun H1 s1=>fin _ _ _ _ _ _ _ _ _ (s4.trans s1) T.c8_Taken T.cat_Taken kk),fun _ z=>by rw [z] at g2; cases g2⟩
   ·cases z
    refine ⟨fun z=>absurd (z.symm.trans g1) (by decide),fun _ z=>(by rw [g2] at z; cases z),fun _ _ lb' H5 m5 n5 ch=>?_⟩
    walk_at "rd"
    refine ⟨rfl,_,rfl,if_yes (decide_eq_true rfl) ?_⟩
    walk_at "rd"
    refine ⟨Nat.zero_le _,fun l nl=>?_⟩
    exact kk l lb' _ (((s4.butL _).trans m5).new nl) (s4.free n5) (ch.mono (Same.new nl)) upd_same
   ·cases z
end
section
variable {P:Program} {w:World} {K:PySem.W.Frag} {mg:Str→Option Value} {base:Heap} {t:Ad}
theorem ix_strK {X:Cx} (K:PySem.W.Frag) (h:X.K=K):IxR X rIxS:=ix_str
theorem sl_textK {X:Cx} (K:PySem.W.Frag) (h:X.K=K):SlR X rSlX:=sl_text
theorem lt1 {c d:Nat}:[c]<[d]↔c<d:=by
 rw [List.cons_lt_cons_iff]
 exact ⟨fun h=>h.elim id fun h=>absurd h.2 (by decide),.inl⟩
theorem sgOk_of {c:Nat} (h1:97≤c) (h2:c≤122):sgOk c=true:=by
 unfold sgOk
 have ea:(("a":Str)).cps.toList=[97]:=by decide +kernel
 have ez:(("z":Str)).cps.toList=[122]:=by decide +kernel
 rw [ea,ez]
 have e1:¬ (sgn c).cps.toList<[97]:=fun h=>by have:=lt1.mp h; omega
 have e2:¬ [122]<(sgn c).cps.toList:=fun h=>by have:=lt1.mp h; omega
 rw [decide_eq_false e1,decide_eq_false e2]; rfl
structure Wd (x:Str):Prop where
 sz:0<x.cps.size∧x.cps.size≤12
 lt:∀ c∈x.cps.toList,97≤c∧c≤122
theorem Wd.ok {x:Str} (h:Wd x):nameOk x=true:=by
 unfold nameOk
 rw [decide_eq_true h.sz.1,decide_eq_true h.sz.2,List.all_eq_true.mpr fun c hc=>sgOk_of (h.lt c hc).1 (h.lt c hc).2]; rfl
theorem Wd.str {x:Str} (h:Wd x):PyData.strOk x=true:=by
 unfold PyData.strOk
 rw [Array.all_eq_true_iff_forall_mem]
 intro c hc
 have:=h.lt c (Array.mem_toList_iff.mpr hc)
 exact decide_eq_true (by omega)
def cc (n:Nat):Nat:=97+n%26
theorem cc_at {n:Nat}:((("abcdefghijklmnopqrstuvwxyz":Str)).cps.toList)[n%26]?=some (cc n):=by
 have:∀ m,m<26→((("abcdefghijklmnopqrstuvwxyz":Str)).cps.toList)[m]?=some (97+m):=by decide +kernel
 exact this _ (Nat.mod_lt _ (by decide))
theorem cc_int (u:Int):atI (("abcdefghijklmnopqrstuvwxyz":Str)).cps.toList (u%26)=some (cc (u%26).toNat):=by
 obtain ⟨m,hm⟩:∃ m:Nat,u%26=(m:Int):=⟨(u%26).toNat,by omega⟩
 have hl:m<26:=by omega
 rw [hm,Int.toNat_natCast]
 have h:=cc_at (n:=m)
 rw [Nat.mod_eq_of_lt hl] at h
 exact atI_nat h
theorem rep_strs {H:Hp} {l:Addr} {ns:List Str} (e:H l=some (.lst (ns.map V.str))):Rep H (.list (ns.map PyData.str)) (.ref l):=by
 simp only [Rep]
 refine ⟨l,_,rfl,e,?_⟩
 clear e
 induction ns with
 | nil=>simp [RepL]
 | cons a r ih=>simp only [List.map_cons,RepL]; exact ⟨_,_,rfl,rfl,ih⟩
theorem lay_strs {ns:List Str} (h:∀ x∈ns,PyData.strOk x=true):PyData.canLayAll0 (ns.map PyData.str)=true:=by
 induction ns with
 | nil=>rfl
 | cons a r ih =>
  simp only [List.map_cons,PyData.canLayAll0,PyData.canLay0]
  rw [h a List.mem_cons_self,ih fun x hx=>h x (List.mem_cons_of_mem _ hx)]; rfl
theorem set_cut {l:List Nat} {p c:Nat} (h:p<l.length):l.take p++[c]++l.drop (p+1)=l.set p c:=by
 rw [List.set_eq_take_append_cons_drop,if_pos h,List.append_assoc]; rfl
structure InvW (fl:List Str) (l0:List Nat) (p raw s:Nat) (x:Str):Prop where
 is:∃ c,(97≤c∧c≤122)∧x.cps.toList=l0.set p c
 un:x∈fl→(∀ j,j+1<s→∃ y∈fl,y.cps.toList=l0.set p (cc (raw+j)))∧(0<s→x.cps.toList=l0.set p (cc (raw+(s - 1))))
theorem set_inj {l:List Nat} {p c d:Nat} (hp:p<l.length) (h:l.set p c=l.set p d):c=d:=by
 have h1:=congrArg (·[p]?) h
 simpa only [List.getElem?_set_self hp,Option.some.injEq] using h1
theorem InvW.step {fl:List Str} {l0:List Nat} {p raw s:Nat} {x y:Str} (h:InvW fl l0 p raw s x) (hx:x∈fl) (hy:y.cps.toList=x.cps.toList.set p (cc (raw+s))):InvW fl l0 p raw (s+1) y:=by
 obtain ⟨c,hc,e⟩:=h.is
 have ey:y.cps.toList=l0.set p (cc (raw+s)):=by rw [hy,e,List.set_set]
 refine ⟨⟨_,by unfold cc; omega,ey⟩,fun _=>⟨fun j hj=>?_,fun _=>ey⟩⟩
 obtain ⟨h1,h2⟩:=h.un hx
 by_cases z:j+1<s
 ·exact h1 j z
 ·have hs:0<s:=by omega
  exact ⟨x,hx,by rw [h2 hs,show s - 1=j by omega]⟩
theorem InvW.stay {fl:List Str} {l0:List Nat} {p raw s:Nat} {x:Str} (h:InvW fl l0 p raw s x) (hx:¬ x∈fl):InvW fl l0 p raw (s+1) x:=⟨h.is,fun z=>absurd z hx⟩
theorem InvW.fin {fl:List Str} {l0:List Nat} {p raw:Nat} {x:Str} (h:InvW fl l0 p raw 26 x) (hp:p<l0.length) (hl:fl.length≤2):¬ x∈fl:=fun hx=>by
 obtain ⟨h1,_⟩:=h.un hx
 obtain ⟨y0,m0,e0⟩:=h1 0 (by decide)
 obtain ⟨y1,m1,e1⟩:=h1 1 (by decide)
 obtain ⟨y2,m2,e2⟩:=h1 2 (by decide)
 have n01:y0≠y1:=fun z=>by
  rw [z] at e0
  have:=set_inj hp (e0.symm.trans e1)
  unfold cc at this; omega
 have n02:y0≠y2:=fun z=>by
  rw [z] at e0
  have:=set_inj hp (e0.symm.trans e2)
  unfold cc at this; omega
 have n12:y1≠y2:=fun z=>by
  rw [z] at e1
  have:=set_inj hp (e1.symm.trans e2)
  unfold cc at this; omega
 match fl,hl,m0,m1,m2 with
 | [],_,m0,_,_=>cases m0
 | [a],_,m0,m1,_=>exact n01 ((List.mem_singleton.mp m0).trans (List.mem_singleton.mp m1).symm)
 | [a,b],_,m0,m1,m2 =>
  simp only [List.mem_cons,List.not_mem_nil,or_false] at m0 m1 m2
  rcases m0 with rfl | rfl<;>rcases m1 with rfl | rfl<;>rcases m2 with rfl | rfl<;>simp_all
theorem strs_any {fl:List Str} {x:Str}:((fl.map PyData.str).any fun y=>PyData.eqv y (.str x))=decide (x∈fl):=by
 induction fl with
 | nil=>rfl
 | cons a r ih =>
  rw [List.map_cons,List.any_cons,ih]
  have:PyData.eqv (.str a) (.str x)=decide (a=x):=rfl
  rw [this]
  by_cases h:a=x
  ·subst h; simp
  ·have h2:¬ x=a:=fun z=>h z.symm
   simp [h,h2]
def sp_Lnames:Sp:=fun vs H Q _=>∃ (q:Addr) (xs:List Int),vs=[.ref q,.int 3]∧H q=some (.lst (xs.map V.int))∧3≤xs.length∧∀ l n1 n2 n3 H',Same H H'→H' l=some (.lst [.str n1,.str n2,.str n3])→Wd n1→Wd n2→Wd n3→n1≠n2→n1≠n3→n2≠n3→Q (.ref l) H'
theorem ok_Lnames (T:Txt K mg t):FnOk P w K mg base CX0 1 t.f_Lnames t.d_Lnames ["_law_some","_law_many"] sp_Lnames:=by
 refine T.F_Lnames.ok sc_Lnames (fun vs H Q E h=>?_) (fun cdv A outer s H vs Q E hr h=>?_)
 ·obtain ⟨q,xs,rfl,_⟩:=h; rfl
 ·obtain ⟨q,xs,rfl,hq,hl,k⟩:=h
  refine cutC (ps_set (i:=2) sc_Lnames.nd rfl (Or.inr rfl) pe_str) fun _ _=>cutC (ps_set (i:=3) sc_Lnames.nd rfl (Or.inl rfl) (pe_lst pa_nil)) fun _ _=>cutC (ps_for PassesOwn.never rfl (pi_range1 rfl T.no_range (pa_cons (pv 1) pa_nil)) (pg_name (i:=4) sc_Lnames.nd rfl (Or.inl rfl)) (pss_cons (ps_set (i:=5) sc_Lnames.nd rfl (Or.inl rfl) (pe_callB cI_abs rfl T.no_abs (by rfl) (pa_cons (pe_ix (ix_listK K rfl) (pv 0) (pv 4) (fun _ _=>rfl)) pa_nil))) (pss_cons (ps_set (i:=6) sc_Lnames.nd rfl (Or.inl rfl) (pe_op op_add pe_int (pe_op op_mod (pv 5) pe_int))) (pss_cons (ps_set (i:=7) sc_Lnames.nd rfl (Or.inr rfl) (pe_op op_fdiv (pv 5) pe_int)) (pss_cons (ps_set (i:=8) sc_Lnames.nd rfl (Or.inr rfl) (pe_op op_mod (pe_op op_fdiv (pv 5) pe_int) pe_int)) (pss_cons (ps_set (i:=9) sc_Lnames.nd rfl (Or.inl rfl) (pe_bm PySem.F.plainAttrs_str PySem.F.slot_str_join PySem.F.type_str_join mt_join pe_str (pa_cons (pe_comp (N:=["_law_k","_law_letters","_law_first","_law_by"]) (cap:=[none,some 2,some 7,some 8]) rfl ⟨rfl,rfl,rfl,rfl,rfl,rfl⟩ (pi_range1 rfl T.no_range (pa_cons (pv 6) pa_nil)) (fun _ _ _=>(pg_name (i:=0) (show (["_law_k","_law_letters","_law_first","_law_by"]:List Str).Nodup by decide +kernel) rfl (Or.inl rfl))) (fun _ _ _=>pts_nil) (fun _ _ _=>(pe_ix (ix_strK K rfl) (pv 1) (pe_op op_mod (pe_op op_add (pv 2) (pe_op op_mul (pv 0) (pv 3))) pe_int) (fun _ _=>rfl)))) pa_nil))) (pss_cons (ps_set (i:=10) sc_Lnames.nd rfl (Or.inl rfl) (pe_op op_mod (pe_op op_fdiv (pv 5) pe_int) (pv 6))) (pss_cons (ps_for PassesOwn.never rfl (pi_range1 rfl T.no_range (pa_cons pe_int pa_nil)) (pg_name (i:=11) sc_Lnames.nd rfl (Or.inl rfl)) (pss_one (ps_if (pt_cmpR (op_inD hr.units) (pv 9) (pv 3) rfl) (pss_cons (ps_set (i:=12) sc_Lnames.nd rfl (Or.inl rfl) (pe_ix (ix_strK K rfl) (pv 2) (pe_op op_mod (pe_op op_add (pv 5) (pv 11)) pe_int) (fun _ _=>rfl))) (pss_one (ps_set (i:=9) sc_Lnames.nd rfl (Or.inl rfl) (pe_op op_add_str (pe_op op_add_str (pe_slice (sl_textK K rfl) (pv 9) po_none (po_some (pv 10))) (pv 12)) (pe_slice (sl_textK K rfl) (pv 9) (po_some (pe_op op_add (pv 10) pe_int)) po_none))))) pss_nil))) (pss_one (ps_expr (pe_bm PySem.F.plainAttrs_list PySem.F.slot_list_append PySem.F.type_list_append mt_append (pv 3) (pa_cons (pv 9) pa_nil)))))))))))) fun _ _=>cutE (ps_ret (pv 3)) fun _ _=>?_
  walk_at "rd"
  refine ⟨Nat.zero_le _,fun l nl=>?_⟩
  walk_at "rd"
  refine ⟨3,rfl,by decide,by decide,?_⟩
  refine forW_range (n:=3) (fun i σ' H'=>∃ (fl:List Str) (a4 a5 a6 a7 a8 a9 b0 b1 b2:Option V),σ'=[some (.ref q),some (.int 3),some (.str "abcdefghijklmnopqrstuvwxyz"),some (.ref l),a4,a5,a6,a7,a8,a9,b0,b1,b2]∧Same H H'∧H' l=some (.lst (fl.map V.str))∧fl.length=i∧fl.Nodup∧∀ x∈fl,Wd x)
   ⟨[],none,none,none,none,none,none,none,none,none,rfl,Same.new nl,upd_same,rfl,.nil,fun x hx=>by cases hx⟩ ?_ ?_
  ·rintro i σ' H1 hi ⟨fl,a4,a5,a6,a7,a8,a9,b0,b1,b2,rfl,s1,e1,lf,nd,hw⟩
   walk_at "rd"
   refine rd_ixL (SqL.of (s1 _ _ hq)) (atI_ints (by omega) (by omega)) ?_
   generalize xs.getD ((0:Int)+(i:Nat)).toNat 0=z
   walk_at "rd"
   obtain ⟨r,hr0⟩:∃ r:Nat,(if z<0 then -z else z)=(r:Int):=⟨z.natAbs,by split<;>omega⟩
   rw [hr0]
   refine rd_I (by decide) ?_
   walk_at "rd"
   obtain ⟨sz,hsz,h1,h2⟩:∃ sz:Nat,(1+(r:Int)%12)=(sz:Int)∧0<sz∧sz≤12:=⟨1+r%12,by omega,by omega,by omega⟩
   rw [hsz]
   refine rd_I ⟨by decide,by decide⟩ ?_
   walk_at "rd"
   refine rd_I ⟨by decide,by decide⟩ ?_
   walk_at "rd"
   refine rd_I (by decide) ?_
   generalize (r:Int) / 13=f
   generalize (r:Int) / 5%4=g
   walk_at "rd"
   refine ⟨rfl,?_⟩
   walk_at "rd"
   refine ⟨sz,rfl,by omega,by omega,fun l2 n2=>?_⟩
   rw [Int.toNat_natCast]
   have hle:(("abcdefghijklmnopqrstuvwxyz":Str)).length≤sizeLine:=by decide +kernel
   refine compW_range (fun j=>.str (sgn (cc ((f+((0:Int)+(j:Nat))*g)%26).toNat))) (by omega) n2 (fun j o H' Q' hj s2 qq=>?_) (fun H2 s2 e2=>?_)
   ·walk_at "rd"
    refine rd_I (.inl ⟨by omega,by omega⟩) ?_
    walk_at "rd"
    refine rd_I (by decide) ?_
    walk_at "rd"
    exact ⟨_,_,_,rfl,rfl,hle,cc_int _,qq _ (Same.refl _)⟩
   walk_at "rd"
   obtain ⟨cs,hcs⟩:∃ cs:List Nat,cs=(List.range sz).map fun j:Nat=>cc ((f+((0:Int)+(j:Nat))*g)%26).toNat:=⟨_,rfl⟩
   have lcs:cs.length=sz:=by rw [hcs,List.length_map,List.length_range]
   have e2:H2 l2=some (.lst ((cs.map sgn).map V.str)):=by rw [e2,hcs,List.map_map,List.map_map]; rfl
   refine ⟨"",l2,cs.map sgn,rfl,rfl,e2,joinOk_sgn (by omega),?_⟩
   have hx0:=join_sgn cs
   generalize Txt.join "" (cs.map sgn)=x0 at hx0 ⊢
   have wc:∀ c∈cs,97≤c∧c≤122:=fun c hc=>by
    rw [hcs] at hc
    obtain ⟨j,_,rfl⟩:=List.mem_map.mp hc
    unfold cc; omega
   clear hcs
   walk_at "rd"
   refine rd_I ⟨by decide,by decide⟩ ?_
   walk_at "rd"
   refine rd_I (by omega:(0:Int)<(sz:Nat)) ?_
   obtain ⟨p,hp,hps⟩:∃ p:Nat,(r:Int) / 7%(sz:Int)=(p:Int)∧p<sz:=⟨r / 7%sz,by rw [Int.natCast_emod,Int.natCast_ediv]; rfl,Nat.mod_lt _ h1⟩
   rw [hp]
   walk_at "rd"
   refine ⟨26,rfl,by decide,by decide,?_⟩
   have s12:=s1.trans s2
   have f1:=s2 _ _ e1
   refine forW_range (n:=26) (fun j σ' H'=>∃ (x:Str) (c1 c2:Option V),σ'=[some (.ref q),some (.int 3),some (.str "abcdefghijklmnopqrstuvwxyz"),some (.ref l),some (.int (0+(i:Nat))),some (.int r),some (.int sz),some (.int f),some (.int g),some (.str x),some (.int p),c1,c2]∧H'=H2∧InvW fl cs p r j x)
    ⟨x0,_,_,rfl,rfl,⟨cs.getD p 0,wc _ (L2.getD_mem (by omega)),by rw [hx0]; exact (List.ext_getElem? fun m=>by rw [List.getElem?_set]; split<;>simp_all [List.getD_eq_getElem?_getD])⟩,fun _=>⟨fun j hj=>absurd hj (by omega),fun h=>absurd h (by omega)⟩⟩ ?_ ?_
   ·rintro j σ' H' hj ⟨x,c1,c2,rfl,rfl,iv⟩
    obtain ⟨c,hc,ex⟩:=iv.is
    have lx:x.cps.size=sz:=by rw [← Array.length_toList,ex,List.length_set,lcs]
    have lx':x.length≤sizeLine:=Nat.le_trans (show x.cps.size≤1000 by omega) (by decide)
    have wx:PyData.strOk x=true:=by
     unfold PyData.strOk
     rw [Array.all_eq_true_iff_forall_mem]
     intro c' hc'
     have hc':=Array.mem_toList_iff.mpr hc'
     rw [ex] at hc'
     rcases List.mem_or_eq_of_mem_set hc' with h | h
     ·exact decide_eq_true (by have:=wc _ h; omega)
     ·exact decide_eq_true (by omega)
    walk_at "rd"
    refine ⟨fl.map PyData.str,.str x,rep_strs f1,rfl,lay_strs fun y hy=>(hw y hy).str,wx,by unfold PyData.depth; omega,?_⟩
    rw [strs_any]
    by_cases hx:x∈fl
    ·refine ⟨_,rfl,if_yes (decide_eq_true hx) ?_⟩
     walk_at "rd"
     refine rd_I (by decide) ?_
     refine ⟨_,_,_,rfl,rfl,hle,cc_int _,?_⟩
     rw [show cc (((r:Int)+(0+(j:Nat)))%26).toNat=cc (r+j) by unfold cc; omega]
     walk_at "rd"
     refine ⟨x,rfl,lx',?_⟩
     walk_at "rd"
     have z1:(Txt.slice x none (some (p:Int))).length≤x.cps.size:=Txt.slice_le x _ _
     have z2:(Txt.slice x (some ((p:Int)+1)) none).length≤x.cps.size:=Txt.slice_le x _ _
     have z3:(⟨#[cc (r+j)]⟩:Str).length=1:=rfl
     have zL:1000≤sizeLine:=by decide
     refine ⟨_,_,rfl,rfl,by omega,?_⟩
     have z4:(Txt.slice x none (some (p:Int))++(⟨#[cc (r+j)]⟩:Str)).length≤x.cps.size+1:=by
      show (Txt.slice x none (some (p:Int))++(⟨#[cc (r+j)]⟩:Str)).cps.size≤_
      rw [← Array.length_toList,catX,List.length_append,Array.length_toList]
      exact Nat.add_le_add z1 (Nat.le_refl 1)
     walk_at "rd"
     refine ⟨x,rfl,lx',?_⟩
     refine ⟨_,_,rfl,rfl,by omega,?_⟩
     walk_at "rd"
     refine ⟨_,_,_,rfl,rfl,iv.step hx ?_⟩
     rw [catX,catX,slX_take (by omega),show ((p:Int)+1)=((p+1:Nat):Int) by omega,slX_drop (by omega)]
     exact set_cut (by rw [Array.length_toList]; omega)
    ·refine ⟨_,rfl,if_ne (decide_eq_false hx) ?_⟩
     walk_at "rd"
     exact ⟨x,_,_,rfl,rfl,iv.stay hx⟩
   ·rintro σ' H' ⟨x,c1,c2,rfl,rfl,iv⟩
    walk_at "rd"
    refine rd_bmL f1 ?_
    walk_at "rd"
    refine rd_append f1 (by rw [List.length_map]; exact small1000 (by omega)) ?_
    walk_at "rd"
    obtain ⟨c,hc,ex⟩:=iv.is
    have lx:x.cps.size=sz:=by rw [← Array.length_toList,ex,List.length_set,lcs]
    refine ⟨fl++[x],_,_,_,_,_,_,_,_,_,rfl,s12.later nl,by rw [upd_same,List.map_append]; rfl,by rw [List.length_append,lf]; rfl,List.nodup_append.mpr ⟨nd,by simp,fun a ha b hb=>?_⟩,fun y hy=>?_⟩
    ·rw [List.mem_singleton] at hb
     subst hb
     intro z
     subst z
     exact iv.fin (by omega) (by omega) ha
    ·rcases List.mem_append.mp hy with h | h
     ·exact hw y h
     ·rw [List.mem_singleton.mp h]
      refine ⟨by omega,fun c' hc'=>?_⟩
      rw [ex] at hc'
      rcases List.mem_or_eq_of_mem_set hc' with h | h
      ·exact wc _ h
      ·rw [h]; exact hc
  ·rintro σ' H1 ⟨fl,a4,a5,a6,a7,a8,a9,b0,b1,b2,rfl,s1,e1,lf,nd,hw⟩
   walk_at "rd"
   match fl,lf,e1,nd,hw with
   | [n1,n2,n3],_,e1,nd,hw =>
    have h1:=List.nodup_cons.mp nd
    have h2:=List.nodup_cons.mp h1.2
    exact k l n1 n2 n3 H1 s1 e1 (hw _ (by simp)) (hw _ (by simp)) (hw _ (by simp)) (fun z=>h1.1 (by simp [z])) (fun z=>h1.1 (by simp [z])) (fun z=>h2.1 (by simp [z]))
end
section
variable {P:Program} {w:World} {K:PySem.W.Frag} {mg:Str→Option Value} {base:Heap} {t:Ad}
def tDGetF (P:Program) (w:World) (td ty:TE):TE:=fun σ H Q=>td σ H fun x H1=>ty σ H1 fun y H2=>∃ a kvs F k v,x=.ref a∧IsFz P w a kvs F∧H2 a=some F∧y=kV k∧valV kvs k=some v∧Q v H2
theorem pe_dgetF {X:Cx} {o i:Expr} {pos:Pos} {td ty:TE} (ho:PE X o td) (hi:PE X i ty) (hs:NoSl i):PE X (.Subscript o i pos) (tDGetF X.prog X.w td ty):=by
 intro pins s σ H Q I h
 refine subD_of PySem.F.slot_dict_getitem.lookup hs (thn (ho pins s σ H _ I h) fun u s1 ⟨x,H1,I1,rx,q1⟩=>thn (hi pins s1 σ H1 _ I1 q1) fun iv s2 ⟨y,H2,I2,ry,a,kvs,F,k,v,ex,hF,hd,ey,hv,q2⟩=>?_)
 subst ex ey
 obtain rfl:u=Value.ref a:=rx
 obtain ⟨vs,ep,rfl⟩:=hF
 obtain ⟨⟨z,lo,rel,at'⟩,_,_⟩:=(show ObjOk X.prog X.w H2 s2.heap a (.ext (FzAt X.prog X.w a kvs vs ep)) from I2.hok a _ hd)
 have dd:=at'.dictOf
 obtain ⟨w',hw,rw'⟩:=RelO.some_of (v:=v) (o:=valueAt vs k) (by rw [← hv]; exact rel.val k)
 exact ⟨dd.typeIs,wpAny_getItem_of (kV_is ry) dd.mapOf hw ⟨v,H2,I2.tok _,rw',q2⟩⟩
theorem rd_dgetF {P:Program} {w:World} {td ty:TE} {σ:L2.St} {H:Hp} {Q:VK} (h:td σ H fun x H1=>ty σ H1 fun y H2=>∃ a kvs F k v,x=.ref a∧IsFz P w a kvs F∧H2 a=some F∧y=kV k∧valV kvs k=some v∧Q v H2):tDGetF P w td ty σ H Q:=h
theorem forW_keys {σ:L2.St} {H:Hp} {d:Addr} {F:HO} {kvs:List (Key×V)} {g:TG} {tb:TS} {D:Ends} (Pv:Nat→L2.St→Hp→Prop) (h0:Pv 0 σ H) (hl:∀ i σ H,i≤kvs.length→Pv i σ H→H d=some F)
  (hs:∀ i k v σ H,kvs[i]?=some (k,v)→Pv i σ H→g (kV k) σ H fun σ2 H2=>tb { D with nx:=Pv (i+1),ct:=Pv (i+1),bk:=D.nx } σ2 H2) (hd:∀ σ H,Pv kvs.length σ H→D.nx σ H):ForW (Itk d F kvs) g tb D σ H:=by
 refine ⟨fun i m σ H=>m=kvs.length - i∧i≤kvs.length∧Pv i σ H,⟨kvs.length,by simp,Nat.zero_le _,h0⟩,?_⟩
 rintro i m σ H ⟨rfl,hi,p⟩
 have q:=hl i σ H hi p
 by_cases hlt:i<kvs.length
 ·refine .inr ⟨⟨q,hlt⟩,Pv (i+1),fun σ' H' p'=>⟨kvs.length - (i+1),by omega,rfl,hlt,p'⟩,fun x H' y=>?_⟩
  obtain ⟨rfl,k,v,hk,rfl⟩:=y
  exact hs i k v σ _ hk p
 ·have e:i=kvs.length:=by omega
  subst e
  exact .inl ⟨⟨q,Nat.le_refl _⟩,hd σ H p⟩
section
variable {C CH:Addr} {H H':Hp} {b q:Addr} {k:Key} {r:List (Key×V)} {xs:List V}
theorem CloV.frz {v:V} {c:Clo} (h:CloV C H v c) {kvs:List (Key×V)} (hb:H b=some (.dK kvs)) (m:ButL [b] H H'):CloV C H' v c:=by
 obtain ⟨x,rfl,hc,z⟩:=h
 obtain ⟨dx,a1,a2,e1,e2,e3⟩:=hc.ob
 have no:∀ {y:Addr} {o:HO},H y=some o→(∀ kvs,o≠.dK kvs)→H' y=some o:=fun {y o} e n=>m _ _ e fun z=>by
  rw [List.mem_singleton.mp z,hb] at e
  injection e with e
  exact n _ e.symm
 exact ⟨x,rfl,⟨dx,a1,a2,no e1 (fun _ z=>nomatch z),no e2 (fun _ z=>nomatch z),no e3 (fun _ z=>nomatch z)⟩,z⟩
theorem BkAt.frz {d:Addr} {bk:Bk} (h:BkAt C H d bk) (hb:H b=some (.dK ((k,.ref q)::r))) (hq:H q=some (.tup xs)) (m:ButL [b] H H'):BkAt C H' d bk:=by
 obtain ⟨kvs,e,pw⟩:=h
 refine ⟨kvs,m _ _ e fun z=>?_,Paired.mapP pw fun _ _ z=>⟨z.1,z.2.frz hb m⟩⟩
 rw [List.mem_singleton.mp z,hb] at e
 cases e
 cases pw with
 | cons w _ =>
  obtain ⟨x,e,hc,_⟩:=w.2
  cases e
  obtain ⟨dx,a1,a2,e1,_,_⟩:=hc.ob
  rw [hq] at e1
  cases e1
theorem ChAt.frz {p la lb:Addr} {past ahead:List Bk} {now:Bk} (h:ChAt C CH H p la lb past now ahead) (hb:H b=some (.dK ((k,.ref q)::r))) (hq:H q=some (.tup xs)) (m:ButL [b] H H'):ChAt C CH H' p la lb past now ahead:=by
 have no:∀ {y:Addr} {o:HO},H y=some o→(∀ kvs,o≠.dK kvs)→H' y=some o:=fun {y o} e n=>m _ _ e fun z=>by
  rw [List.mem_singleton.mp z,hb] at e
  injection e with e
  exact n _ e.symm
 obtain ⟨dx,fs,d,e1,e2,e3⟩:=h.ob
 obtain ⟨ds,f1,f2⟩:=h.pa
 obtain ⟨es,g1,g2⟩:=h.ah
 exact ⟨⟨dx,fs,d,no e1 (fun _ z=>nomatch z),e2,e3.frz hb hq m⟩,⟨ds,no f1 (fun _ z=>nomatch z),f2.1,fun i d bk h1 h2=>(f2.2 i d bk h1 h2).frz hb hq m⟩,⟨es,no g1 (fun _ z=>nomatch z),g2.1,fun i d bk h1 h2=>(g2.2 i d bk h1 h2).frz hb hq m⟩,h.ne⟩
end
def Bk2 (H:Hp) (b:Addr) (n1 n2:Str) (c1 c2:Clo):Prop:=∃ q1 q2,H b=some (.dK [(Sum.inr n1,.ref q1),(Sum.inr n2,.ref q2)])∧PlAt H q1 c1∧PlAt H q2 c2
theorem ok3_strs {ns:List Str} (hl:ns.length≤1000) (h:∀ x∈ns,PyData.strOk x=true):Ok3 (.list (ns.map PyData.str)) :=
 .inr (.inl ⟨_,rfl,by rw [List.length_map]; exact hl,fun e he=>by obtain ⟨x,hx,rfl⟩:=List.mem_map.mp he; exact okS_str (h x hx)⟩)
def sp_Lbookfits (C CH:Addr):Sp:=fun vs H Q _=>∃ (p la lb b:Addr) (past ahead:List Bk) (n1 n2:Str) (c1 c2:Clo),vs=[.ref p,.ref b]∧ChAt C CH H p la lb past [(n1,c1),(n2,c2)] ahead∧Bk2 H b n1 n2 c1 c2∧n1≠n2∧PyData.strOk n1=true∧PyData.strOk n2=true∧CloOk c1∧CloOk c2∧∀ H',Same H H'→Q (.bl true) H'
theorem ok_Lbookfits (T:Txt K mg t):FnOk P w K mg base CX0 4 t.f_Lbookfits t.d_Lbookfits ["_law_chest","_law_book"] (sp_Lbookfits t.a_Cloth t.a_Chest):=by
 have G_Chestnames:=ok_Chestnames (P:=P) (w:=w) (base:=base) T
 have G_Chestcloth:=ok_Chestcloth (P:=P) (w:=w) (base:=base) T
 have G_Ltold:=ok_Ltold (P:=P) (w:=w) (base:=base) T
 have G_Lsame:=ok_Lsame (P:=P) (w:=w) (base:=base) T
 refine T.F_Lbookfits.ok sc_Lbookfits (fun vs H Q E h=>?_) (fun cdv A outer s H vs Q E hr h=>?_)
 ·obtain ⟨p,la,lb,b,past,ahead,n1,n2,c1,c2,rfl,_⟩:=h; rfl
 ·obtain ⟨p,la,lb,b,past,ahead,n1,n2,c1,c2,rfl,hc,⟨q1,q2,hb,hq1,hq2⟩,ne,o1,o2,k1,k2,k⟩:=h
  obtain ⟨dx,fs,d,e1,cl,_⟩:=hc.ob
  refine cutC (ps_if (pt_not (pt_val (pe_call G_Lsame (hr.mono (by first | decide | omega)) rfl T.mg_Lsame T.F_Lsame.kp T.b_Lsame .nil pass0 (pa_cons (pe_meth0 (pv 0) T.cl_Chest T.m_Chestnames G_Chestnames (hr.mono (by first | decide | omega)) T.b_Chestnames .nil pass0) (pa_cons (pe_callTy (cI_listK' rfl) rfl T.no_list (by rfl) (pa_cons (pv 1) pa_nil)) pa_nil))))) (pss_one (ps_ret pe_bl)) pss_nil) fun _ _=>cutC (ps_thaw (ps_for PassesOwn.never rfl (pi_keys (pv 1)) (pg_name (i:=2) sc_Lbookfits.nd rfl (Or.inl rfl)) (pss_one (ps_if (pt_not (pt_val (pe_call G_Lsame (hr.mono (by first | decide | omega)) rfl T.mg_Lsame T.F_Lsame.kp T.b_Lsame .nil pass0 (pa_cons (pe_call G_Ltold (hr.mono (by first | decide | omega)) rfl T.mg_Ltold T.F_Ltold.kp T.b_Ltold .nil pass0 (pa_cons (pe_meth (pv 0) T.cl_Chest T.m_Chestcloth G_Chestcloth (hr.mono (by first | decide | omega)) T.b_Chestcloth .nil pass0 (pa_cons (pv 2) pa_nil)) pa_nil)) (pa_cons (pe_dgetF (pv 1) (pv 2) (fun _ _=>rfl)) pa_nil))))) (pss_one (ps_ret pe_bl)) pss_nil)))) fun _ _=>cutE (ps_ret pe_bl) fun _ _=>?_
  walk_at "rd"
  refine rd_methv e1 (cl.no _ (by decide +kernel)) ?_
  walk_at "rd"
  refine ⟨p,la,lb,past,ahead,_,rfl,hc,fun l1 m1=>?_⟩
  have s1:=Same.new (o:=HO.lst (namesV [(n1,c1),(n2,c2)])) m1
  have f1:upd H l1 (HO.lst (namesV [(n1,c1),(n2,c2)])) l1=some (.lst ([n1,n2].map V.str)):=upd_same
  generalize upd H l1 (HO.lst (namesV [(n1,c1),(n2,c2)]))=H1 at s1 f1 ⊢
  walk_at "rd"
  refine ⟨b,_,rfl,s1 _ _ hb,fun l2 m2=>?_⟩
  have s2:=Same.new (o:=HO.lst (List.map (fun p:Key×V=>kV p.fst) [(Sum.inr n1,V.ref q1),(Sum.inr n2,V.ref q2)])) m2
  have f2:upd H1 l2 (HO.lst (List.map (fun p:Key×V=>kV p.fst) [(Sum.inr n1,V.ref q1),(Sum.inr n2,V.ref q2)])) l2=some (.lst ([n1,n2].map V.str)):=upd_same
  generalize upd H1 l2 (HO.lst (List.map (fun p:Key×V=>kV p.fst) [(Sum.inr n1,V.ref q1),(Sum.inr n2,V.ref q2)]))=H2 at s2 f2 ⊢
  walk_at "rd"
  refine ⟨.ref l1,.ref l2,.list ([n1,n2].map PyData.str),rfl,ok3_strs (by show 2≤1000; decide) (fun x hx=>?_),rep_strs (s2 _ _ f1),rep_strs f2,fun H3 s3=>?_⟩
  ·simp only [List.mem_cons,List.not_mem_nil,or_false] at hx
   rcases hx with rfl | rfl
   ·exact o1
   ·exact o2
  have s03:=s1.trans (s2.trans s3)
  clear s1 s2 s3 f1 f2
  have hc:=hc.mono s03
  have hb:=s03 _ _ hb
  have hq1:=hq1.mono s03
  have hq2:=hq2.mono s03
  have k:=fun H' z=>k H' (s03.trans z)
  walk_at "rd"
  refine ⟨b,_,rfl,hb,fun F hF=>?_⟩
  obtain ⟨x1,y1,i1,i2,i3⟩:=id hq1
  have mF:ButL [b] H3 (upd H3 b F):=(ButL.refl _ _).upd List.mem_cons_self
  have hcF:=hc.frz hb i1 mF
  have nb:∀ {y:Addr} {o:HO},H3 y=some o→(∀ kvs,o≠.dK kvs)→upd H3 b F y=some o:=fun {y o} e n=>mF _ _ e fun z=>by
   rw [List.mem_singleton.mp z,hb] at e
   injection e with e
   exact n _ e.symm
  have plF:∀ {q:Addr} {c:Clo},PlAt H3 q c→PlAt (upd H3 b F) q c:=fun {q c} h=>by
   obtain ⟨x,y,j1,j2,j3⟩:=h
   exact ⟨x,y,nb j1 (fun _ z=>nomatch z),nb j2 (fun _ z=>nomatch z),nb j3 (fun _ z=>nomatch z)⟩
  have p1:=plF hq1
  have p2:=plF hq2
  have eF:=upd_same (H:=H3) (a:=b) (o:=F)
  refine forW_keys (fun i σ' H'=>∃ c:Option V,σ'=[some (.ref p),some (.ref b),c]∧Same (upd H3 b F) H') ⟨none,rfl,Same.refl _⟩ (fun i σ' H' _ ⟨_,_,z⟩=>z _ _ eF) ?_ ?_
  ·rintro i k0 v0 σ' H4 hi ⟨c0,rfl,s4⟩
   obtain ⟨n,q,c,rfl,rfl,gc,gv,pq,ck⟩:∃ n q c,k0=Sum.inr n∧v0=.ref q∧bkGet [(n1,c1),(n2,c2)] n=some c∧valV ([(Sum.inr n1,V.ref q1),(Sum.inr n2,V.ref q2)]:List (Key×V)) (Sum.inr n:Key)=some (V.ref q)∧PlAt (upd H3 b F) q c∧CloOk c:=by
    match i,hi with
    | 0,hi =>
     cases hi
     exact ⟨n1,q1,c1,rfl,rfl,by simp [bkGet],valV_pos (k:=(Sum.inr n1:Key)) rfl,p1,k1⟩
    | 1,hi =>
     cases hi
     exact ⟨n2,q2,c2,rfl,rfl,by simp [bkGet,ne],(valV_neg (k:=(Sum.inr n2:Key)) fun z=>ne (Sum.inr.inj z)).trans (valV_pos rfl),p2,k2⟩
    | i+2,hi=>cases hi
   have hc4:=hcF.mono s4
   obtain ⟨dx4,fs4,d4,j1,j2,_⟩:=hc4.ob
   walk_at "rd"
   refine rd_methv j1 (j2.no _ (by decide +kernel)) ?_
   walk_at "rd"
   refine ⟨p,la,lb,past,ahead,_,n,c,rfl,hc4,gc,fun v hv=>?_⟩
   obtain ⟨x,rfl,hx,_⟩:=hv
   walk_at "rd"
   refine ⟨x,c.1,c.2.1,c.2.2,rfl,hx,fun tp ca ra H5 s5 t1 t2 t3=>?_⟩
   walk_at "rd"
   refine rd_dgetF ?_
   walk_at "rd"
   have s45:=s4.trans s5
   refine ⟨b,_,F,Sum.inr n,_,rfl,hF,s45 _ _ eF,rfl,gv,?_⟩
   walk_at "rd"
   obtain ⟨x2,y2,j4,j5,j6⟩:=pq.mono s45
   refine ⟨.ref tp,.ref q,planD c.1 c.2.1 c.2.2,rfl,planD_ok ck.2.1 ck.2.2,planD_rep t1 t2 t3,planD_rep j4 j5 j6,fun H6 s6=>?_⟩
   walk_at "rd"
   exact ⟨_,rfl,s45.trans s6⟩
  ·rintro σ' H4 ⟨c0,rfl,s4⟩
   refine ⟨_,⟨b,_,F,hF,s4 _ _ eF,rfl⟩,?_⟩
   walk_at "rd"
   refine k _ fun y o e=>?_
   by_cases z:y=b
   ·rw [z,upd_same,← hb,← z,e]
   ·rw [upd_ne z]; exact s4 _ _ (by rw [upd_ne z]; exact e)
end
section
variable {P:Program} {w:World} {K:PySem.W.Frag} {mg:Str→Option Value} {base:Heap} {t:Ad}
def BadAt (R:Dd→Str→Prop) (H:Hp) (v:V):Prop:=∃ a b dd wd,v=.ref a∧H a=some (.tup [.ref b,.str wd])∧DdAt H b dd∧R dd wd
def BadP (R:Dd→Str→Prop) (H:Hp) (xs:List V):Prop:=∀ v∈xs,BadAt R H v
theorem BadAt.mono {R:Dd→Str→Prop} {H H':Hp} {v:V} (s:Same H H') (h:BadAt R H v):BadAt R H' v:=by
 obtain ⟨a,b,dd,wd,e,h1,h2,r⟩:=h
 exact ⟨a,b,dd,wd,e,s _ _ h1,h2.mono s,r⟩
theorem BadP.mono {R:Dd→Str→Prop} {H H':Hp} {xs:List V} (s:Same H H') (h:BadP R H xs):BadP R H' xs:=fun v hv=>(h v hv).mono s
theorem BadP.snoc {R:Dd→Str→Prop} {H:Hp} {xs:List V} {v:V} (h:BadP R H xs) (b:BadAt R H v):BadP R H (xs++[v]):=fun x hx=>by
 rcases List.mem_append.mp hx with h1 | h1
 ·exact h x h1
 ·rw [List.mem_singleton.mp h1]; exact b
theorem rd_gnS {i:Nat} {v:V} {σ:L2.St} (σ':L2.St) {H:Hp} {Q:L2.St→Hp→Prop} (e:σ.set i (some v)=σ') (h:Q σ' H):gName i v σ H Q:=by
 subst e; exact h
theorem rd_pairB {ts:TA} {xs:List V} {wd:Str} {σ:L2.St} {H:Hp} {Q:VK} (ev:∀ (H:Hp) (R:List V→Hp→Prop),R xs H→ts σ H R) (hz:xs.length≤sizeLine) (q:∀ b H1,Same H H1→(∃ a,H1 a=some (.tup xs)∧H1 b=some (.tup [.ref a,.str wd]))→Q (.ref b) H1):tTup (tCons (tTup ts) (tCons (tC (.str wd)) tNil)) σ H Q :=
 ev _ _ ⟨hz,fun a na=>⟨by show 2≤sizeLine; decide,fun b nb=>q b _ ((Same.new na).trans (Same.new nb)) ⟨a,(Same.new nb) _ _ upd_same,upd_same⟩⟩⟩
theorem rd_twoB {t1 t2:TA} {xs ys:List V} {w1 w2:Str} {σ:L2.St} {H:Hp} {Q:VK} (e1:∀ (H:Hp) (R:List V→Hp→Prop),R xs H→t1 σ H R) (e2:∀ (H:Hp) (R:List V→Hp→Prop),R ys H→t2 σ H R) (h1:xs.length≤sizeLine) (h2:ys.length≤sizeLine)
  (q:∀ l b c H1,Same H H1→H1 l=some (.lst [.ref b,.ref c])→(∃ a,H1 a=some (.tup xs)∧H1 b=some (.tup [.ref a,.str w1]))→(∃ a,H1 a=some (.tup ys)∧H1 c=some (.tup [.ref a,.str w2]))→Q (.ref l) H1):tLst (tCons (tTup (tCons (tTup t1) (tCons (tC (.str w1)) tNil))) (tCons (tTup (tCons (tTup t2) (tCons (tC (.str w2)) tNil))) tNil)) σ H Q :=
 by
 refine rd_lst (rd_cons ?_)
 refine rd_pairB e1 h1 fun b H1 s1 h=>?_
 obtain ⟨a,f1,f2⟩:=h
 refine rd_cons ?_
 refine rd_pairB e2 h2 fun c H2 s2 h=>?_
 obtain ⟨a',g1,g2⟩:=h
 exact ⟨by show 2≤sizeLine; decide,fun l nl=>q l b c _ (s1.trans (s2.trans (Same.new nl))) upd_same ⟨a,(Same.new nl) _ _ (s2 _ _ f1),(Same.new nl) _ _ (s2 _ _ f2)⟩ ⟨a',(Same.new nl) _ _ g1,(Same.new nl) _ _ g2⟩⟩
theorem BadP.two' {R:Dd→Str→Prop} {H A6:Hp} {xs:List V} {x2 y2:Addr} {d1 d2:Dd} {w1 w2:Str} (h:BadP R H xs) (s0:Same H A6) (e1:∃ a,DdAt A6 a d1∧A6 x2=some (.tup [.ref a,.str w1])) (e2:∃ a,DdAt A6 a d2∧A6 y2=some (.tup [.ref a,.str w2])) (r1:R d1 w1) (r2:R d2 w2):BadP R A6 (xs++[.ref x2,.ref y2]):=fun v hv=>by
 rcases List.mem_append.mp hv with z | z
 ·exact (h v z).mono s0
 ·simp only [List.mem_cons,List.not_mem_nil,or_false] at z
  obtain ⟨a,a1,a2⟩:=e1
  obtain ⟨b,b1,b2⟩:=e2
  rcases z with rfl | rfl
  ·exact ⟨x2,a,d1,w1,rfl,a2,a1,r1⟩
  ·exact ⟨y2,b,d2,w2,rfl,b2,b1,r2⟩
def BadS (R:Dd→Str→Prop) (G0 H:Hp) (l:Addr) (n:Nat):Prop:=∃ G xs,Same G0 G∧Same G H∧G l=none∧H l=some (.lst xs)∧xs.length=n∧BadP R G xs
theorem BadS.app {R:Dd→Str→Prop} {G0 H H1:Hp} {l a b:Addr} {n:Nat} {ys:List V} {dd:Dd} {wd:Str} (h:BadS R G0 H l n) (s:Same H H1) (eb:H1 b=some (.tup ys)) (hd:∀ G:Hp,G b=some (.tup ys)→DdAt G b dd) (ea:H1 a=some (.tup [.ref b,.str wd])) (r:R dd wd) :
  ∃ xs,H1 l=some (.lst xs)∧xs.length=n∧BadS R G0 (upd H1 l (.lst (xs++[.ref a]))) l (n+1):=by
 obtain ⟨G,xs,s0,s1,nl,el,hl,bp⟩:=h
 have el:=s _ _ el
 have s1:=s1.trans s
 have nb:b≠l:=ne_of eb el fun z=>nomatch z
 have na:a≠l:=ne_of ea el fun z=>nomatch z
 have sG:Same G fun x=>if x=l then none else H1 x:=fun x o e=>by
  show (if x=l then none else H1 x)=_
  rw [if_neg (fun z=>by rw [z,nl] at e; cases e)]
  exact s1 _ _ e
 refine ⟨xs,el,hl,_,xs++[.ref a],s0.trans sG,fun x o e=>?_,if_pos rfl,upd_same,by rw [List.length_append,hl]; rfl,(bp.mono sG).snoc ⟨a,b,dd,wd,rfl,?_,hd _ ?_,r⟩⟩
 ·dsimp only at e
  by_cases z:x=l
  ·rw [if_pos z] at e; cases e
  ·rw [if_neg z] at e
   rw [upd_ne z]; exact e
 ·show (if a=l then none else H1 a)=_
  rw [if_neg na]; exact ea
 ·show (if b=l then none else H1 b)=_
  rw [if_neg nb]; exact eb
def Rall (R:Dd→Str→Prop) (n1 n2 n3 no:Str) (wd tl:Int):Prop:=R (.lay no (0,[],[])) "name"∧R (.lay n1 (0,[],[])) "taken"∧R (.drop n3) "cloth"∧R (.turn n3 "cols" 0) "cloth"∧R (.turn n1 "cols" 0) "line"∧R (.turn n1 "col" wd) "line"∧R (.turn n1 "row" (-1)) "line"∧R (.cut n3 "row" 0) "cloth"∧R (.cut n1 "row" tl) "line"∧R (.put n3 "" 0 5) "cloth"∧R (.put n1 "" 0 5) "line"∧R (.put n1 "col" (wd+1) 5) "line"∧R (.put n1 "col" (-1) 0) "line"∧R (.put n1 "row" 0 2) "bit"∧R (.put n1 "row" tl (-1)) "bit"∧R (.sew no n3 n3 "x") "name"∧R (.sew n1 n3 n3 "x") "taken"∧R (.sew n3 n1 no "x") "cloth"∧R (.sew n3 n3 n1 "col") "cloth"∧R (.sew n3 n1 n2 "x") "line"∧R (.sew n3 n1 n2 "row") "size"∧R (.part n3 "col" 0 no) "cloth"∧R (.part n1 "x" 0 no) "name"∧R (.part n1 "x" 0 n2) "taken"∧R (.part n1 "x" 0 n1) "taken"∧R (.part n1 "col" wd n3) "line"∧R (.part n1 "row" (-2) n3) "line"
def sp_Lbad:Sp:=fun vs H Q _=>∃ (q:Addr) (n1 n2 n3 no:Str) (wd tl:Int) (R:Dd→Str→Prop),vs=[.ref q,.str no,.int wd,.int tl]∧H q=some (.lst [.str n1,.str n2,.str n3])∧Rall R n1 n2 n3 no wd tl∧∀ l H',BadS R H H' l 27→Q (.ref l) H'
theorem ok_Lbad (T:Txt K mg t):FnOk P w K mg base CX0 1 t.f_Lbad t.d_Lbad ["_law_names_here","_law_none","_law_wide","_law_tall"] sp_Lbad:=by
 refine T.F_Lbad.ok sc_Lbad (fun vs H Q E h=>?_) (fun cdv A outer s H vs Q E hr h=>?_)
 ·obtain ⟨q,n1,n2,n3,no,wd,tl,R,rfl,_⟩:=h; rfl
 ·obtain ⟨q,n1,n2,n3,no,wd,tl,R,rfl,hq,rr,k⟩:=h
  obtain ⟨r1,r2,r3,r4,r5,r6,r7,r8,r9,r10,r11,r12,r13,r14,r15,r16,r17,r18,r19,r20,r21,r22,r23,r24,r25,r26,r27⟩:=rr
  refine cutC (ps_asg (pv 0) (pg_lstK (n:=3) K rfl rfl (pgs_cons (pg_name (i:=4) sc_Lbad.nd rfl (Or.inl rfl)) (pgs_cons (pg_name (i:=5) sc_Lbad.nd rfl (Or.inl rfl)) (pgs_cons (pg_name (i:=6) sc_Lbad.nd rfl (Or.inl rfl)) pgs_nil))))) fun _ _=>cutC (ps_set (i:=7) sc_Lbad.nd rfl (Or.inl rfl) (pe_lst (pa_cons (pe_tup (pa_cons (pe_tup (pa_cons pe_str (pa_cons (pv 1) (pa_cons (pe_tup (pa_cons pe_int (pa_cons (pe_lst pa_nil) (pa_cons (pe_lst pa_nil) pa_nil)))) pa_nil)))) (pa_cons pe_str pa_nil))) (pa_cons (pe_tup (pa_cons (pe_tup (pa_cons pe_str (pa_cons (pv 4) (pa_cons (pe_tup (pa_cons pe_int (pa_cons (pe_lst pa_nil) (pa_cons (pe_lst pa_nil) pa_nil)))) pa_nil)))) (pa_cons pe_str pa_nil))) (pa_cons (pe_tup (pa_cons (pe_tup (pa_cons pe_str (pa_cons (pv 6) pa_nil))) (pa_cons pe_str pa_nil))) pa_nil))))) fun _ _=>cutC (ps_set (i:=7) sc_Lbad.nd rfl (Or.inl rfl) (pe_op op_cat (pv 7) (pe_lst (pa_cons (pe_tup (pa_cons (pe_tup (pa_cons pe_str (pa_cons (pv 6) (pa_cons pe_str (pa_cons pe_int pa_nil))))) (pa_cons pe_str pa_nil))) (pa_cons (pe_tup (pa_cons (pe_tup (pa_cons pe_str (pa_cons (pv 4) (pa_cons pe_str (pa_cons pe_int pa_nil))))) (pa_cons pe_str pa_nil))) pa_nil))))) fun _ _=>cutC (ps_set (i:=7) sc_Lbad.nd rfl (Or.inl rfl) (pe_op op_cat (pv 7) (pe_lst (pa_cons (pe_tup (pa_cons (pe_tup (pa_cons pe_str (pa_cons (pv 4) (pa_cons pe_str (pa_cons (pv 2) pa_nil))))) (pa_cons pe_str pa_nil))) (pa_cons (pe_tup (pa_cons (pe_tup (pa_cons pe_str (pa_cons (pv 4) (pa_cons pe_str (pa_cons (pe_un un_neg pe_int) pa_nil))))) (pa_cons pe_str pa_nil))) pa_nil))))) fun _ _=>cutC (ps_set (i:=7) sc_Lbad.nd rfl (Or.inl rfl) (pe_op op_cat (pv 7) (pe_lst (pa_cons (pe_tup (pa_cons (pe_tup (pa_cons pe_str (pa_cons (pv 6) (pa_cons pe_str (pa_cons pe_int pa_nil))))) (pa_cons pe_str pa_nil))) (pa_cons (pe_tup (pa_cons (pe_tup (pa_cons pe_str (pa_cons (pv 4) (pa_cons pe_str (pa_cons (pv 3) pa_nil))))) (pa_cons pe_str pa_nil))) pa_nil))))) fun _ _=>cutC (ps_set (i:=7) sc_Lbad.nd rfl (Or.inl rfl) (pe_op op_cat (pv 7) (pe_lst (pa_cons (pe_tup (pa_cons (pe_tup (pa_cons pe_str (pa_cons (pv 6) (pa_cons pe_str (pa_cons pe_int (pa_cons pe_int pa_nil)))))) (pa_cons pe_str pa_nil))) (pa_cons (pe_tup (pa_cons (pe_tup (pa_cons pe_str (pa_cons (pv 4) (pa_cons pe_str (pa_cons pe_int (pa_cons pe_int pa_nil)))))) (pa_cons pe_str pa_nil))) pa_nil))))) fun _ _=>cutC (ps_set (i:=7) sc_Lbad.nd rfl (Or.inl rfl) (pe_op op_cat (pv 7) (pe_lst (pa_cons (pe_tup (pa_cons (pe_tup (pa_cons pe_str (pa_cons (pv 4) (pa_cons pe_str (pa_cons (pe_op op_add (pv 2) pe_int) (pa_cons pe_int pa_nil)))))) (pa_cons pe_str pa_nil))) (pa_cons (pe_tup (pa_cons (pe_tup (pa_cons pe_str (pa_cons (pv 4) (pa_cons pe_str (pa_cons (pe_un un_neg pe_int) (pa_cons pe_int pa_nil)))))) (pa_cons pe_str pa_nil))) pa_nil))))) fun _ _=>cutC (ps_set (i:=7) sc_Lbad.nd rfl (Or.inl rfl) (pe_op op_cat (pv 7) (pe_lst (pa_cons (pe_tup (pa_cons (pe_tup (pa_cons pe_str (pa_cons (pv 4) (pa_cons pe_str (pa_cons pe_int (pa_cons pe_int pa_nil)))))) (pa_cons pe_str pa_nil))) (pa_cons (pe_tup (pa_cons (pe_tup (pa_cons pe_str (pa_cons (pv 4) (pa_cons pe_str (pa_cons (pv 3) (pa_cons (pe_un un_neg pe_int) pa_nil)))))) (pa_cons pe_str pa_nil))) pa_nil))))) fun _ _=>cutC (ps_set (i:=7) sc_Lbad.nd rfl (Or.inl rfl) (pe_op op_cat (pv 7) (pe_lst (pa_cons (pe_tup (pa_cons (pe_tup (pa_cons pe_str (pa_cons (pv 1) (pa_cons (pv 6) (pa_cons (pv 6) (pa_cons pe_str pa_nil)))))) (pa_cons pe_str pa_nil))) (pa_cons (pe_tup (pa_cons (pe_tup (pa_cons pe_str (pa_cons (pv 4) (pa_cons (pv 6) (pa_cons (pv 6) (pa_cons pe_str pa_nil)))))) (pa_cons pe_str pa_nil))) pa_nil))))) fun _ _=>cutC (ps_set (i:=7) sc_Lbad.nd rfl (Or.inl rfl) (pe_op op_cat (pv 7) (pe_lst (pa_cons (pe_tup (pa_cons (pe_tup (pa_cons pe_str (pa_cons (pv 6) (pa_cons (pv 4) (pa_cons (pv 1) (pa_cons pe_str pa_nil)))))) (pa_cons pe_str pa_nil))) (pa_cons (pe_tup (pa_cons (pe_tup (pa_cons pe_str (pa_cons (pv 6) (pa_cons (pv 6) (pa_cons (pv 4) (pa_cons pe_str pa_nil)))))) (pa_cons pe_str pa_nil))) pa_nil))))) fun _ _=>cutC (ps_set (i:=7) sc_Lbad.nd rfl (Or.inl rfl) (pe_op op_cat (pv 7) (pe_lst (pa_cons (pe_tup (pa_cons (pe_tup (pa_cons pe_str (pa_cons (pv 6) (pa_cons (pv 4) (pa_cons (pv 5) (pa_cons pe_str pa_nil)))))) (pa_cons pe_str pa_nil))) (pa_cons (pe_tup (pa_cons (pe_tup (pa_cons pe_str (pa_cons (pv 6) (pa_cons (pv 4) (pa_cons (pv 5) (pa_cons pe_str pa_nil)))))) (pa_cons pe_str pa_nil))) pa_nil))))) fun _ _=>cutC (ps_set (i:=7) sc_Lbad.nd rfl (Or.inl rfl) (pe_op op_cat (pv 7) (pe_lst (pa_cons (pe_tup (pa_cons (pe_tup (pa_cons pe_str (pa_cons (pv 6) (pa_cons pe_str (pa_cons pe_int (pa_cons (pv 1) pa_nil)))))) (pa_cons pe_str pa_nil))) (pa_cons (pe_tup (pa_cons (pe_tup (pa_cons pe_str (pa_cons (pv 4) (pa_cons pe_str (pa_cons pe_int (pa_cons (pv 1) pa_nil)))))) (pa_cons pe_str pa_nil))) pa_nil))))) fun _ _=>cutC (ps_set (i:=7) sc_Lbad.nd rfl (Or.inl rfl) (pe_op op_cat (pv 7) (pe_lst (pa_cons (pe_tup (pa_cons (pe_tup (pa_cons pe_str (pa_cons (pv 4) (pa_cons pe_str (pa_cons pe_int (pa_cons (pv 5) pa_nil)))))) (pa_cons pe_str pa_nil))) (pa_cons (pe_tup (pa_cons (pe_tup (pa_cons pe_str (pa_cons (pv 4) (pa_cons pe_str (pa_cons pe_int (pa_cons (pv 4) pa_nil)))))) (pa_cons pe_str pa_nil))) pa_nil))))) fun _ _=>cutE (ps_ret (pe_op op_cat (pv 7) (pe_lst (pa_cons (pe_tup (pa_cons (pe_tup (pa_cons pe_str (pa_cons (pv 4) (pa_cons pe_str (pa_cons (pv 2) (pa_cons (pv 6) pa_nil)))))) (pa_cons pe_str pa_nil))) (pa_cons (pe_tup (pa_cons (pe_tup (pa_cons pe_str (pa_cons (pv 4) (pa_cons pe_str (pa_cons (pe_un un_neg pe_int) (pa_cons (pv 6) pa_nil)))))) (pa_cons pe_str pa_nil))) pa_nil))))) fun _ _=>?_
  walk_at "rd"
  refine ⟨q,_,rfl,SqL.of hq,rfl,?_⟩
  walk_at "rd"
  have sun:=Same.refl H
  refine ⟨by show 0≤sizeLine; decide,fun xa1 nxa1=>?_⟩
  have sxa1:=Same.new (o:=HO.lst []) nxa1
  have exa1:=upd_same (H:=H) (a:=xa1) (o:=HO.lst [])
  generalize upd H xa1 (HO.lst [])=Ga1 at sxa1 exa1 ⊢
  walk_at "rd"
  refine ⟨by show 0≤sizeLine; decide,fun xa2 nxa2=>?_⟩
  have sxa2:=Same.new (o:=HO.lst []) nxa2
  have exa2:=upd_same (H:=Ga1) (a:=xa2) (o:=HO.lst [])
  generalize upd Ga1 xa2 (HO.lst [])=Ga2 at sxa2 exa2 ⊢
  walk_at "rd"
  refine ⟨by show 3≤sizeLine; decide,fun xa3 nxa3=>?_⟩
  have sxa3:=Same.new (o:=HO.tup [V.int 0,V.ref xa1,V.ref xa2]) nxa3
  have exa3:=upd_same (H:=Ga2) (a:=xa3) (o:=HO.tup [V.int 0,V.ref xa1,V.ref xa2])
  generalize upd Ga2 xa3 (HO.tup [V.int 0,V.ref xa1,V.ref xa2])=Ga3 at sxa3 exa3 ⊢
  walk_at "rd"
  have qa3:PlAt Ga3 xa3 (0,[],[]):=⟨xa1,xa2,exa3,sxa3 _ _ (sxa2 _ _ exa1),sxa3 _ _ exa2⟩
  refine ⟨by show 3≤sizeLine; decide,fun xa4 nxa4=>?_⟩
  have sxa4:=Same.new (o:=HO.tup [V.str "lay",V.str no,V.ref xa3]) nxa4
  have exa4:=upd_same (H:=Ga3) (a:=xa4) (o:=HO.tup [V.str "lay",V.str no,V.ref xa3])
  generalize upd Ga3 xa4 (HO.tup [V.str "lay",V.str no,V.ref xa3])=Ga4 at sxa4 exa4 ⊢
  walk_at "rd"
  have da4:DdAt Ga4 xa4 (.lay no (0,[],[])):=⟨xa3,exa4,qa3.mono sxa4⟩
  refine ⟨by show 2≤sizeLine; decide,fun xa5 nxa5=>?_⟩
  have sxa5:=Same.new (o:=HO.tup [V.ref xa4,V.str "name"]) nxa5
  have exa5:=upd_same (H:=Ga4) (a:=xa5) (o:=HO.tup [V.ref xa4,V.str "name"])
  generalize upd Ga4 xa5 (HO.tup [V.ref xa4,V.str "name"])=Ga5 at sxa5 exa5 ⊢
  walk_at "rd"
  refine ⟨by show 0≤sizeLine; decide,fun xa6 nxa6=>?_⟩
  have sxa6:=Same.new (o:=HO.lst []) nxa6
  have exa6:=upd_same (H:=Ga5) (a:=xa6) (o:=HO.lst [])
  generalize upd Ga5 xa6 (HO.lst [])=Ga6 at sxa6 exa6 ⊢
  walk_at "rd"
  refine ⟨by show 0≤sizeLine; decide,fun xa7 nxa7=>?_⟩
  have sxa7:=Same.new (o:=HO.lst []) nxa7
  have exa7:=upd_same (H:=Ga6) (a:=xa7) (o:=HO.lst [])
  generalize upd Ga6 xa7 (HO.lst [])=Ga7 at sxa7 exa7 ⊢
  walk_at "rd"
  refine ⟨by show 3≤sizeLine; decide,fun xa8 nxa8=>?_⟩
  have sxa8:=Same.new (o:=HO.tup [V.int 0,V.ref xa6,V.ref xa7]) nxa8
  have exa8:=upd_same (H:=Ga7) (a:=xa8) (o:=HO.tup [V.int 0,V.ref xa6,V.ref xa7])
  generalize upd Ga7 xa8 (HO.tup [V.int 0,V.ref xa6,V.ref xa7])=Ga8 at sxa8 exa8 ⊢
  walk_at "rd"
  have qa8:PlAt Ga8 xa8 (0,[],[]):=⟨xa6,xa7,exa8,sxa8 _ _ (sxa7 _ _ exa6),sxa8 _ _ exa7⟩
  refine ⟨by show 3≤sizeLine; decide,fun xa9 nxa9=>?_⟩
  have sxa9:=Same.new (o:=HO.tup [V.str "lay",V.str n1,V.ref xa8]) nxa9
  have exa9:=upd_same (H:=Ga8) (a:=xa9) (o:=HO.tup [V.str "lay",V.str n1,V.ref xa8])
  generalize upd Ga8 xa9 (HO.tup [V.str "lay",V.str n1,V.ref xa8])=Ga9 at sxa9 exa9 ⊢
  walk_at "rd"
  have da9:DdAt Ga9 xa9 (.lay n1 (0,[],[])):=⟨xa8,exa9,qa8.mono sxa9⟩
  refine ⟨by show 2≤sizeLine; decide,fun xa10 nxa10=>?_⟩
  have sxa10:=Same.new (o:=HO.tup [V.ref xa9,V.str "taken"]) nxa10
  have exa10:=upd_same (H:=Ga9) (a:=xa10) (o:=HO.tup [V.ref xa9,V.str "taken"])
  generalize upd Ga9 xa10 (HO.tup [V.ref xa9,V.str "taken"])=Ga10 at sxa10 exa10 ⊢
  walk_at "rd"
  refine ⟨by show 2≤sizeLine; decide,fun xa11 nxa11=>?_⟩
  have sxa11:=Same.new (o:=HO.tup [V.str "drop",V.str n3]) nxa11
  have exa11:=upd_same (H:=Ga10) (a:=xa11) (o:=HO.tup [V.str "drop",V.str n3])
  generalize upd Ga10 xa11 (HO.tup [V.str "drop",V.str n3])=Ga11 at sxa11 exa11 ⊢
  walk_at "rd"
  have da11:DdAt Ga11 xa11 (.drop n3):=exa11
  refine ⟨by show 2≤sizeLine; decide,fun xa12 nxa12=>?_⟩
  have sxa12:=Same.new (o:=HO.tup [V.ref xa11,V.str "cloth"]) nxa12
  have exa12:=upd_same (H:=Ga11) (a:=xa12) (o:=HO.tup [V.ref xa11,V.str "cloth"])
  generalize upd Ga11 xa12 (HO.tup [V.ref xa11,V.str "cloth"])=Ga12 at sxa12 exa12 ⊢
  walk_at "rd"
  refine ⟨by show 3≤sizeLine; decide,fun xa13 nxa13=>?_⟩
  have sxa13:=Same.new (o:=HO.lst [V.ref xa5,V.ref xa10,V.ref xa12]) nxa13
  have exa13:=upd_same (H:=Ga12) (a:=xa13) (o:=HO.lst [V.ref xa5,V.ref xa10,V.ref xa12])
  generalize upd Ga12 xa13 (HO.lst [V.ref xa5,V.ref xa10,V.ref xa12])=Ga13 at sxa13 exa13 ⊢
  refine rd_gnS [some (.ref q),some (.str no),some (.int wd),some (.int tl),some (.str n1),some (.str n2),some (.str n3),some (.ref xa13)] rfl ?_
  have b0:BadP R Ga13 [.ref xa5,.ref xa10,.ref xa12]:=by
   intro v hv
   simp only [List.mem_cons,List.not_mem_nil,or_false] at hv
   rcases hv with rfl | rfl | rfl
   ·exact ⟨_,_,_,_,rfl,(sxa6.trans (sxa7.trans (sxa8.trans (sxa9.trans (sxa10.trans (sxa11.trans (sxa12.trans sxa13))))))) _ _ exa5,da4.mono (sxa5.trans (sxa6.trans (sxa7.trans (sxa8.trans (sxa9.trans (sxa10.trans (sxa11.trans (sxa12.trans sxa13)))))))),r1⟩
   ·exact ⟨_,_,_,_,rfl,(sxa11.trans (sxa12.trans sxa13)) _ _ exa10,da9.mono (sxa10.trans (sxa11.trans (sxa12.trans sxa13))),r2⟩
   ·exact ⟨_,_,_,_,rfl,sxa13 _ _ exa12,da11.mono (sxa12.trans sxa13),r3⟩
  have S0:=sun.trans (sxa1.trans (sxa2.trans (sxa3.trans (sxa4.trans (sxa5.trans (sxa6.trans (sxa7.trans (sxa8.trans (sxa9.trans (sxa10.trans (sxa11.trans (sxa12.trans sxa13))))))))))))
  repeat ((fail_if_success (with_reducible refine rd_lst ?_)); walk_at "rd1")
  refine rd_twoB (xs:=[V.str "turn",V.str n3,V.str "cols",V.int 0]) (ys:=[V.str "turn",V.str n1,V.str "cols",V.int 0]) (fun H R h=>by walk_at "rd"; exact h) (fun H R h=>by walk_at "rd"; exact h) (by show 4≤sizeLine; decide) (by show 4≤sizeLine; decide) fun lb ub vb Ab sb eb fb gb=>?_
  refine rd_catS (sb _ _ exa13) eb (by show 5≤sizeLine; decide) fun mb Bb yb nb hb=>?_
  refine rd_gnS [some (.ref q),some (.str no),some (.int wd),some (.int tl),some (.str n1),some (.str n2),some (.str n3),some (.ref mb)] rfl ?_
  have zb:=sb.trans yb
  have b1:=b0.two' zb (d1:=(.turn n3 "cols" 0)) (d2:=(.turn n1 "cols" 0)) (let ⟨a,x,y⟩:=fb; ⟨a,yb _ _ x,yb _ _ y⟩) (let ⟨a,x,y⟩:=gb; ⟨a,yb _ _ x,yb _ _ y⟩) r4 r5
  have S1:=S0.trans zb
  clear eb fb gb sb yb zb
  repeat ((fail_if_success (with_reducible refine rd_lst ?_)); walk_at "rd1")
  refine rd_twoB (xs:=[V.str "turn",V.str n1,V.str "col",V.int wd]) (ys:=[V.str "turn",V.str n1,V.str "row",V.int (-1)]) (fun H R h=>by walk_at "rd"; exact h) (fun H R h=>by walk_at "rd"; exact h) (by show 4≤sizeLine; decide) (by show 4≤sizeLine; decide) fun lc uc vc Ac sc ec fc gc=>?_
  refine rd_catS (sc _ _ hb) ec (by show 7≤sizeLine; decide) fun mc Bc yc nc hc=>?_
  refine rd_gnS [some (.ref q),some (.str no),some (.int wd),some (.int tl),some (.str n1),some (.str n2),some (.str n3),some (.ref mc)] rfl ?_
  have zc:=sc.trans yc
  have b2:=b1.two' zc (d1:=(.turn n1 "col" wd)) (d2:=(.turn n1 "row" (-1))) (let ⟨a,x,y⟩:=fc; ⟨a,yc _ _ x,yc _ _ y⟩) (let ⟨a,x,y⟩:=gc; ⟨a,yc _ _ x,yc _ _ y⟩) r6 r7
  have S2:=S1.trans zc
  clear ec fc gc sc yc zc
  repeat ((fail_if_success (with_reducible refine rd_lst ?_)); walk_at "rd1")
  refine rd_twoB (xs:=[V.str "cut",V.str n3,V.str "row",V.int 0]) (ys:=[V.str "cut",V.str n1,V.str "row",V.int tl]) (fun H R h=>by walk_at "rd"; exact h) (fun H R h=>by walk_at "rd"; exact h) (by show 4≤sizeLine; decide) (by show 4≤sizeLine; decide) fun ld ud vd Ad sd ed fd gd=>?_
  refine rd_catS (sd _ _ hc) ed (by show 9≤sizeLine; decide) fun md Bd yd nd hd=>?_
  refine rd_gnS [some (.ref q),some (.str no),some (.int wd),some (.int tl),some (.str n1),some (.str n2),some (.str n3),some (.ref md)] rfl ?_
  have zd:=sd.trans yd
  have b3:=b2.two' zd (d1:=(.cut n3 "row" 0)) (d2:=(.cut n1 "row" tl)) (let ⟨a,x,y⟩:=fd; ⟨a,yd _ _ x,yd _ _ y⟩) (let ⟨a,x,y⟩:=gd; ⟨a,yd _ _ x,yd _ _ y⟩) r8 r9
  have S3:=S2.trans zd
  clear ed fd gd sd yd zd
  repeat ((fail_if_success (with_reducible refine rd_lst ?_)); walk_at "rd1")
  refine rd_twoB (xs:=[V.str "put",V.str n3,V.str "",V.int 0,V.int 5]) (ys:=[V.str "put",V.str n1,V.str "",V.int 0,V.int 5]) (fun H R h=>by walk_at "rd"; exact h) (fun H R h=>by walk_at "rd"; exact h) (by show 5≤sizeLine; decide) (by show 5≤sizeLine; decide) fun le ue ve Ae se ee fe ge=>?_
  refine rd_catS (se _ _ hd) ee (by show 11≤sizeLine; decide) fun me Be ye ne he=>?_
  refine rd_gnS [some (.ref q),some (.str no),some (.int wd),some (.int tl),some (.str n1),some (.str n2),some (.str n3),some (.ref me)] rfl ?_
  have ze:=se.trans ye
  have b4:=b3.two' ze (d1:=(.put n3 "" 0 5)) (d2:=(.put n1 "" 0 5)) (let ⟨a,x,y⟩:=fe; ⟨a,ye _ _ x,ye _ _ y⟩) (let ⟨a,x,y⟩:=ge; ⟨a,ye _ _ x,ye _ _ y⟩) r10 r11
  have S4:=S3.trans ze
  clear ee fe ge se ye ze
  repeat ((fail_if_success (with_reducible refine rd_lst ?_)); walk_at "rd1")
  refine rd_twoB (xs:=[V.str "put",V.str n1,V.str "col",V.int (wd+1),V.int 5]) (ys:=[V.str "put",V.str n1,V.str "col",V.int (-1),V.int 0]) (fun H R h=>by walk_at "rd"; exact h) (fun H R h=>by walk_at "rd"; exact h) (by show 5≤sizeLine; decide) (by show 5≤sizeLine; decide) fun lf uf vf Af sf ef ff gf=>?_
  refine rd_catS (sf _ _ he) ef (by show 13≤sizeLine; decide) fun mf Bf yf nf hf=>?_
  refine rd_gnS [some (.ref q),some (.str no),some (.int wd),some (.int tl),some (.str n1),some (.str n2),some (.str n3),some (.ref mf)] rfl ?_
  have zf:=sf.trans yf
  have b5:=b4.two' zf (d1:=(.put n1 "col" (wd+1) 5)) (d2:=(.put n1 "col" (-1) 0)) (let ⟨a,x,y⟩:=ff; ⟨a,yf _ _ x,yf _ _ y⟩) (let ⟨a,x,y⟩:=gf; ⟨a,yf _ _ x,yf _ _ y⟩) r12 r13
  have S5:=S4.trans zf
  clear ef ff gf sf yf zf
  repeat ((fail_if_success (with_reducible refine rd_lst ?_)); walk_at "rd1")
  refine rd_twoB (xs:=[V.str "put",V.str n1,V.str "row",V.int 0,V.int 2]) (ys:=[V.str "put",V.str n1,V.str "row",V.int tl,V.int (-1)]) (fun H R h=>by walk_at "rd"; exact h) (fun H R h=>by walk_at "rd"; exact h) (by show 5≤sizeLine; decide) (by show 5≤sizeLine; decide) fun lg ug vg Ag sg eg fg gg=>?_
  refine rd_catS (sg _ _ hf) eg (by show 15≤sizeLine; decide) fun mg Bg yg ng hg=>?_
  refine rd_gnS [some (.ref q),some (.str no),some (.int wd),some (.int tl),some (.str n1),some (.str n2),some (.str n3),some (.ref mg)] rfl ?_
  have zg:=sg.trans yg
  have b6:=b5.two' zg (d1:=(.put n1 "row" 0 2)) (d2:=(.put n1 "row" tl (-1))) (let ⟨a,x,y⟩:=fg; ⟨a,yg _ _ x,yg _ _ y⟩) (let ⟨a,x,y⟩:=gg; ⟨a,yg _ _ x,yg _ _ y⟩) r14 r15
  have S6:=S5.trans zg
  clear eg fg gg sg yg zg
  repeat ((fail_if_success (with_reducible refine rd_lst ?_)); walk_at "rd1")
  refine rd_twoB (xs:=[V.str "sew",V.str no,V.str n3,V.str n3,V.str "x"]) (ys:=[V.str "sew",V.str n1,V.str n3,V.str n3,V.str "x"]) (fun H R h=>by walk_at "rd"; exact h) (fun H R h=>by walk_at "rd"; exact h) (by show 5≤sizeLine; decide) (by show 5≤sizeLine; decide) fun lh uh vh Ah sh eh fh gh=>?_
  refine rd_catS (sh _ _ hg) eh (by show 17≤sizeLine; decide) fun mh Bh yh nh hh=>?_
  refine rd_gnS [some (.ref q),some (.str no),some (.int wd),some (.int tl),some (.str n1),some (.str n2),some (.str n3),some (.ref mh)] rfl ?_
  have zh:=sh.trans yh
  have b7:=b6.two' zh (d1:=(.sew no n3 n3 "x")) (d2:=(.sew n1 n3 n3 "x")) (let ⟨a,x,y⟩:=fh; ⟨a,yh _ _ x,yh _ _ y⟩) (let ⟨a,x,y⟩:=gh; ⟨a,yh _ _ x,yh _ _ y⟩) r16 r17
  have S7:=S6.trans zh
  clear eh fh gh sh yh zh
  repeat ((fail_if_success (with_reducible refine rd_lst ?_)); walk_at "rd1")
  refine rd_twoB (xs:=[V.str "sew",V.str n3,V.str n1,V.str no,V.str "x"]) (ys:=[V.str "sew",V.str n3,V.str n3,V.str n1,V.str "col"]) (fun H R h=>by walk_at "rd"; exact h) (fun H R h=>by walk_at "rd"; exact h) (by show 5≤sizeLine; decide) (by show 5≤sizeLine; decide) fun li ui vi Ai si ei fi gi=>?_
  refine rd_catS (si _ _ hh) ei (by show 19≤sizeLine; decide) fun mi Bi yi ni hi=>?_
  refine rd_gnS [some (.ref q),some (.str no),some (.int wd),some (.int tl),some (.str n1),some (.str n2),some (.str n3),some (.ref mi)] rfl ?_
  have zi:=si.trans yi
  have b8:=b7.two' zi (d1:=(.sew n3 n1 no "x")) (d2:=(.sew n3 n3 n1 "col")) (let ⟨a,x,y⟩:=fi; ⟨a,yi _ _ x,yi _ _ y⟩) (let ⟨a,x,y⟩:=gi; ⟨a,yi _ _ x,yi _ _ y⟩) r18 r19
  have S8:=S7.trans zi
  clear ei fi gi si yi zi
  repeat ((fail_if_success (with_reducible refine rd_lst ?_)); walk_at "rd1")
  refine rd_twoB (xs:=[V.str "sew",V.str n3,V.str n1,V.str n2,V.str "x"]) (ys:=[V.str "sew",V.str n3,V.str n1,V.str n2,V.str "row"]) (fun H R h=>by walk_at "rd"; exact h) (fun H R h=>by walk_at "rd"; exact h) (by show 5≤sizeLine; decide) (by show 5≤sizeLine; decide) fun lj uj vj Aj sj ej fj gj=>?_
  refine rd_catS (sj _ _ hi) ej (by show 21≤sizeLine; decide) fun mj Bj yj nj hj=>?_
  refine rd_gnS [some (.ref q),some (.str no),some (.int wd),some (.int tl),some (.str n1),some (.str n2),some (.str n3),some (.ref mj)] rfl ?_
  have zj:=sj.trans yj
  have b9:=b8.two' zj (d1:=(.sew n3 n1 n2 "x")) (d2:=(.sew n3 n1 n2 "row")) (let ⟨a,x,y⟩:=fj; ⟨a,yj _ _ x,yj _ _ y⟩) (let ⟨a,x,y⟩:=gj; ⟨a,yj _ _ x,yj _ _ y⟩) r20 r21
  have S9:=S8.trans zj
  clear ej fj gj sj yj zj
  repeat ((fail_if_success (with_reducible refine rd_lst ?_)); walk_at "rd1")
  refine rd_twoB (xs:=[V.str "part",V.str n3,V.str "col",V.int 0,V.str no]) (ys:=[V.str "part",V.str n1,V.str "x",V.int 0,V.str no]) (fun H R h=>by walk_at "rd"; exact h) (fun H R h=>by walk_at "rd"; exact h) (by show 5≤sizeLine; decide) (by show 5≤sizeLine; decide) fun lk uk vk Ak sk ek fk gk=>?_
  refine rd_catS (sk _ _ hj) ek (by show 23≤sizeLine; decide) fun mk Bk yk nk hk=>?_
  refine rd_gnS [some (.ref q),some (.str no),some (.int wd),some (.int tl),some (.str n1),some (.str n2),some (.str n3),some (.ref mk)] rfl ?_
  have zk:=sk.trans yk
  have b10:=b9.two' zk (d1:=(.part n3 "col" 0 no)) (d2:=(.part n1 "x" 0 no)) (let ⟨a,x,y⟩:=fk; ⟨a,yk _ _ x,yk _ _ y⟩) (let ⟨a,x,y⟩:=gk; ⟨a,yk _ _ x,yk _ _ y⟩) r22 r23
  have S10:=S9.trans zk
  clear ek fk gk sk yk zk
  repeat ((fail_if_success (with_reducible refine rd_lst ?_)); walk_at "rd1")
  refine rd_twoB (xs:=[V.str "part",V.str n1,V.str "x",V.int 0,V.str n2]) (ys:=[V.str "part",V.str n1,V.str "x",V.int 0,V.str n1]) (fun H R h=>by walk_at "rd"; exact h) (fun H R h=>by walk_at "rd"; exact h) (by show 5≤sizeLine; decide) (by show 5≤sizeLine; decide) fun ll ul vl Al sl el fl gl=>?_
  refine rd_catS (sl _ _ hk) el (by show 25≤sizeLine; decide) fun ml Bl yl nl hl=>?_
  refine rd_gnS [some (.ref q),some (.str no),some (.int wd),some (.int tl),some (.str n1),some (.str n2),some (.str n3),some (.ref ml)] rfl ?_
  have zl:=sl.trans yl
  have b11:=b10.two' zl (d1:=(.part n1 "x" 0 n2)) (d2:=(.part n1 "x" 0 n1)) (let ⟨a,x,y⟩:=fl; ⟨a,yl _ _ x,yl _ _ y⟩) (let ⟨a,x,y⟩:=gl; ⟨a,yl _ _ x,yl _ _ y⟩) r24 r25
  have S11:=S10.trans zl
  clear el fl gl sl yl zl
  repeat ((fail_if_success (with_reducible refine rd_lst ?_)); walk_at "rd1")
  refine rd_twoB (xs:=[V.str "part",V.str n1,V.str "col",V.int wd,V.str n3]) (ys:=[V.str "part",V.str n1,V.str "row",V.int (-2),V.str n3]) (fun H R h=>by walk_at "rd"; exact h) (fun H R h=>by walk_at "rd"; exact h) (by show 5≤sizeLine; decide) (by show 5≤sizeLine; decide) fun lm um vm Am sm em fm gm=>?_
  refine rd_catS (sm _ _ hl) em (by show 27≤sizeLine; decide) fun mm Bm ym nm hm=>?_
  have zm:=sm.trans ym
  have b12:=b11.two' sm (d1:=(.part n1 "col" wd n3)) (d2:=(.part n1 "row" (-2) n3)) fm gm r26 r27
  walk_at "rd"
  exact k mm Bm ⟨Am,_,S11.trans sm,ym,nm,hm,rfl,b12⟩
end
section
def RR (now:Bk) (dd:Dd) (wd:Str):Prop:=Refu now dd wd∧PyData.strOk wd=true
structure Two (n1 n2 n3 no:Str) (c1 c2:Clo) (wd tl:Nat):Prop where
 w1:Wd n1
 w2:Wd n2
 w3:Wd n3
 d12:n1≠n2
 d13:n1≠n3
 d23:n2≠n3
 nb:nameOk no=false
 nz:no.cps.size≤1000
 k1:CloOk c1
 k2:CloOk c2
 lc:c1.2.1.length=wd
 lr:c1.2.2.length=tl
 lc2:c2.2.1.length=wd - 1
 lr2:c2.2.2=c1.2.2.map fun b=>1 - (b+(wd:Int)+1)%2
 bw:1≤wd∧wd≤39
 bt:1≤tl∧tl≤39
theorem Wd.z {x:Str} (h:Wd x):x.cps.size≤1000:=by have:=h.sz; omega
section
variable {n1 n2 n3 no:Str} {c1 c2:Clo} {wd tl:Nat}
theorem Two.g1 (h:Two n1 n2 n3 no c1 c2 wd tl):bkGet [(n1,c1),(n2,c2)] n1=some c1:=by simp [bkGet]
theorem Two.g2 (h:Two n1 n2 n3 no c1 c2 wd tl):bkGet [(n1,c1),(n2,c2)] n2=some c2:=by simp [bkGet,h.d12]
theorem Two.g3 (h:Two n1 n2 n3 no c1 c2 wd tl):bkGet [(n1,c1),(n2,c2)] n3=none:=by simp [bkGet,h.d13,h.d23]
theorem Two.g0 (h:Two n1 n2 n3 no c1 c2 wd tl):bkGet [(n1,c1),(n2,c2)] no=none:=by
 have a1:¬ n1=no:=fun z=>by have:=h.w1.ok; rw [z,h.nb] at this; cases this
 have a2:¬ n2=no:=fun z=>by have:=h.w2.ok; rw [z,h.nb] at this; cases this
 simp [bkGet,a1,a2]
theorem Two.all (h:Two n1 n2 n3 no c1 c2 wd tl):Rall (RR [(n1,c1),(n2,c2)]) n1 n2 n3 no wd tl:=by
 have g1:=h.g1
 have g2:=h.g2
 have g3:=h.g3
 have g0:=h.g0
 have lc:=h.lc
 have lr:=h.lr
 have lc2:=h.lc2
 have bw:=h.bw
 have bt:=h.bt
 have z0:CloOk (0,[],[]):=⟨.inl rfl,⟨Nat.zero_le _,fun z hz=>nomatch hz⟩,⟨Nat.zero_le _,fun z hz=>nomatch hz⟩⟩
 have s1:(bkGet [(n1,c1),(n2,c2)] n1).isSome=true:=by rw [g1]; rfl
 have s2:(bkGet [(n1,c1),(n2,c2)] n2).isSome=true:=by rw [g2]; rfl
 have ic:IsWay "col" c1.2.1 c1.2.2 c1.2.1:=.inl ⟨rfl,rfl⟩
 have ir:IsWay "row" c1.2.1 c1.2.2 c1.2.2:=.inr ⟨rfl,rfl⟩
 have x1:(¬ ("x":Str)="col")∧¬ ("x":Str)="row":=by decide +kernel
 have x2:(¬ ("cols":Str)="col")∧¬ ("cols":Str)="row":=by decide +kernel
 have x3:(¬ ("":Str)="col")∧¬ ("":Str)="row":=by decide +kernel
 have y1:PyData.strOk "name"=true:=by decide +kernel
 have y2:PyData.strOk "taken"=true:=by decide +kernel
 have y3:PyData.strOk "cloth"=true:=by decide +kernel
 have y4:PyData.strOk "line"=true:=by decide +kernel
 have y5:PyData.strOk "bit"=true:=by decide +kernel
 have y6:PyData.strOk "size"=true:=by decide +kernel
 unfold Rall
 exact ⟨⟨⟨h.nz,z0,.inl ⟨h.nb,rfl⟩⟩,y1⟩,⟨⟨h.w1.z,z0,.inr ⟨h.w1.ok,s1,rfl⟩⟩,y2⟩,⟨⟨g3,rfl⟩,y3⟩,
  ⟨.inl ⟨g3,rfl⟩,y3⟩,⟨.inr ⟨c1,g1,.inl x2,rfl⟩,y4⟩,
  ⟨.inr ⟨c1,g1,.inr ⟨_,ic,by omega⟩,rfl⟩,y4⟩,⟨.inr ⟨c1,g1,.inr ⟨_,ir,by omega⟩,rfl⟩,y4⟩,
  ⟨.inl ⟨g3,rfl⟩,y3⟩,⟨.inr ⟨c1,g1,.inr ⟨_,ir,by omega⟩,rfl⟩,y4⟩,
  ⟨.inl ⟨g3,rfl⟩,y3⟩,⟨.inr ⟨c1,g1,.inl ⟨x3,rfl⟩⟩,y4⟩,
  ⟨.inr ⟨c1,g1,.inr ⟨_,ic,.inl ⟨by omega,rfl⟩⟩⟩,y4⟩,⟨.inr ⟨c1,g1,.inr ⟨_,ic,.inl ⟨by omega,rfl⟩⟩⟩,y4⟩,
  ⟨.inr ⟨c1,g1,.inr ⟨_,ir,.inr (.inl ⟨by omega,rfl,rfl⟩)⟩⟩,y5⟩,⟨.inr ⟨c1,g1,.inr ⟨_,ir,.inr (.inl ⟨by omega,rfl,rfl⟩)⟩⟩,y5⟩,
  ⟨⟨h.nz,.inl ⟨h.nb,rfl⟩⟩,y1⟩,⟨⟨h.w1.z,.inr (.inl ⟨h.w1.ok,s1,rfl⟩)⟩,y2⟩,
  ⟨⟨h.w3.z,.inr (.inr ⟨h.w3.ok,g3,.inr ⟨c1,g1,.inl ⟨g0,rfl⟩⟩⟩)⟩,y3⟩,⟨⟨h.w3.z,.inr (.inr ⟨h.w3.ok,g3,.inl ⟨g3,rfl⟩⟩)⟩,y3⟩,
  ⟨⟨h.w3.z,.inr (.inr ⟨h.w3.ok,g3,.inr ⟨c1,g1,.inr ⟨c2,g2,.inl ⟨x1,rfl⟩⟩⟩⟩)⟩,y4⟩,⟨⟨h.w3.z,.inr (.inr ⟨h.w3.ok,g3,.inr ⟨c1,g1,.inr ⟨c2,g2,.inr (.inl ⟨rfl,fun z=>by have:=z.1; omega,rfl⟩)⟩⟩⟩)⟩,y6⟩,
  ⟨⟨h.nz,.inl ⟨g3,rfl⟩⟩,y3⟩,⟨⟨h.nz,.inr ⟨c1,g1,.inl ⟨h.nb,rfl⟩⟩⟩,y1⟩,
  ⟨⟨h.w2.z,.inr ⟨c1,g1,.inr (.inl ⟨h.w2.ok,s2,rfl⟩)⟩⟩,y2⟩,⟨⟨h.w1.z,.inr ⟨c1,g1,.inr (.inl ⟨h.w1.ok,s1,rfl⟩)⟩⟩,y2⟩,
  ⟨⟨h.w3.z,.inr ⟨c1,g1,.inr (.inr ⟨h.w3.ok,g3,.inr ⟨_,ic,by omega⟩,rfl⟩)⟩⟩,y4⟩,⟨⟨h.w3.z,.inr ⟨c1,g1,.inr (.inr ⟨h.w3.ok,g3,.inr ⟨_,ir,by omega⟩,rfl⟩)⟩⟩,y4⟩⟩
theorem Two.wide (h:Two n1 n2 n3 no c1 c2 wd tl) (e:wd=39) {k:Int} (h0:0≤k) (h1:k<40):RR [(n1,c1),(n2,c2)] (.put n1 "col" k 1) "size"∧RR [(n1,c1),(n2,c2)] (.put n1 "col" k 2) "bit":=by
 have lc:=h.lc
 exact ⟨⟨.inr ⟨c1,h.g1,.inr ⟨_,.inl ⟨rfl,rfl⟩,.inr (.inr ⟨by omega,rfl,by omega,rfl⟩)⟩⟩,by decide +kernel⟩,⟨.inr ⟨c1,h.g1,.inr ⟨_,.inl ⟨rfl,rfl⟩,.inr (.inl ⟨by omega,rfl,rfl⟩)⟩⟩,by decide +kernel⟩⟩
theorem Two.last (h:Two n1 n2 n3 no c1 c2 wd tl):RR [(n1,c1),(n2,c2)] (.sew n3 n1 n2 "col") (if 2*(wd:Int)+1 > 40 then "size" else "unfit"):=by
 have lc:=h.lc
 have lr:=h.lr
 have lc2:=h.lc2
 have bw:=h.bw
 have bt:=h.bt
 have l2:c2.2.2.length=tl:=by rw [h.lr2,List.length_map,lr]
 by_cases c:2*(wd:Int)+1 > 40
 ·rw [if_pos c]
  exact ⟨⟨h.w3.z,.inr (.inr ⟨h.w3.ok,h.g3,.inr ⟨c1,h.g1,.inr ⟨c2,h.g2,.inr (.inr (.inl ⟨rfl,fun z=>by have:=z.2; omega,rfl⟩))⟩⟩⟩)⟩,by decide +kernel⟩
 ·rw [if_neg c]
  refine ⟨⟨h.w3.z,.inr (.inr ⟨h.w3.ok,h.g3,.inr ⟨c1,h.g1,.inr ⟨c2,h.g2,.inr (.inr (.inr ⟨rfl,⟨0,by omega,?_⟩,⟨by omega,by omega⟩,rfl⟩))⟩⟩⟩)⟩,by decide +kernel⟩
  have e:c2.2.2.getD 0 0=1 - (c1.2.2.getD 0 0+(wd:Int)+1)%2:=by
   rw [h.lr2,List.getD_eq_getElem?_getD,List.getD_eq_getElem?_getD,List.getElem?_map,List.getElem?_eq_getElem (by omega)]; rfl
  unfold badAt
  rw [e,lc]
  exact decide_eq_true (by omega)
end
theorem nameOk_bad {x:Str} {c:Nat} (h:c∈x.cps.toList) (hc:sgOk c=false):nameOk x=false:=by
 unfold nameOk
 have:x.cps.toList.all sgOk=false:=by
  rw [List.all_eq_false]
  exact ⟨c,h,by rw [hc]; decide⟩
 rw [this,Bool.and_false]
end
section
variable {P:Program} {w:World} {K:PySem.W.Frag} {mg:Str→Option Value} {base:Heap} {t:Ad}
def sp_Chestturn (C CH:Addr):Sp:=fun vs H Q _=>∃ (p la lb:Addr) (past ahead:List Bk) (now:Bk) (n:Str) (k:Nat) (s:Int) (cs rs:List Int),vs=[.ref p,.str n,.str "row",.int (k:Nat)]∧ChAt C CH H p la lb past now ahead∧past.length≤1000∧now.length≤1000∧bkGet now n=some (s,cs,rs)∧k<rs.length∧Bits cs∧Bits rs∧Done C CH H p la past now (bkPut now n (s,cs,flip rs k)) Q
theorem ok_Chestturn (T:Txt K mg t):FnOk P w K mg base CX0 10 t.f_Chestturn t.d_Chestturn ["self","name","way","k"] (sp_Chestturn t.a_Cloth t.a_Chest) :=
 (okx_Chestturn T).down fun vs H Q E hh=>by
  obtain ⟨p,la,lb,past,ahead,now,n,k,s,cs,rs,e,hc,hz,hn,g,hk,bc,br,d⟩:=hh
  exact ⟨p,la,lb,past,ahead,now,n,"row",k,e,hc,hz,hn,.inr ⟨s,cs,rs,g,.inr ⟨rs,cs,flip rs k,.inr ⟨rfl,rfl⟩,by omega,by omega,.inr ⟨rfl,rfl,by rw [Int.toNat_natCast]⟩,bc,flip_bits br hk,d⟩⟩⟩
def sp_Chestundo (C CH:Addr):Sp:=fun vs H Q _=>∃ (p la lb:Addr) (past ahead:List Bk) (now b:Bk),vs=[.ref p]∧ChAt C CH H p la lb (past++[b]) now ahead∧ahead.length≤1000∧∀ H',ButL [p,la,lb] H H'→ChAt C CH H' p la lb past b (ahead++[now])→Q .non H'
theorem ok_Chestundo (T:Txt K mg t):FnOk P w K mg base CX0 1 t.f_Chestundo t.d_Chestundo ["self"] (sp_Chestundo t.a_Cloth t.a_Chest) :=
 (okx_Chestundo T).down fun vs H Q E hh=>by
  obtain ⟨p,la,lb,past,ahead,now,b,e,hc,hz,d⟩:=hh
  exact ⟨p,la,lb,past++[b],ahead,now,e,hc,hz,.inr ⟨past,b,rfl,d⟩⟩
def msk (S:List Addr) (H:Hp):Hp:=fun a=>if a∈S then none else H a
theorem msk_same {S:List Addr} {H:Hp}:Same (msk S H) H:=fun a o e=>by
 unfold msk at e
 split at e
 ·cases e
 ·exact e
theorem msk_at {S:List Addr} {H:Hp} {a:Addr} {o:HO} (e:H a=some o) (n:a∉S):msk S H a=some o:=by unfold msk; rw [if_neg n]; exact e
theorem msk_no {S:List Addr} {H:Hp} {a:Addr} (n:a∈S):msk S H a=none:=by unfold msk; rw [if_pos n]
theorem same_but {S:List Addr} {B H H':Hp} (s:Same B H) (m:ButL S H H') (n:∀ x∈S,B x=none):Same B H':=fun a o e=>m a o (s a o e) fun z=>by rw [n a z] at e; cases e
theorem eqv_one {a b:Str}:PyData.eqv (.list [.str a]) (.list [.str b])=decide (a=b):=by
 show ((a==b)&&true)=_
 rw [Bool.and_true]; rfl
theorem rd_neW {H:Hp} {Q:VK} {a b:Addr} {x:Str} (ha:H a=some (.lst [.str x])) (hb:H b=some (.lst [.str x])) (o:PyData.strOk x=true) (q:Q (.bl false) H):rEqD true (.ref a) (.ref b) H Q:=by
 have sh:SeqAt.shaped (.list [.str x])=true:=by
  unfold SeqAt.shaped
  rw [show PyData.canLay0 (.list [.str x])=true by simp [PyData.canLay0,PyData.canLayAll0,o]]
  simp [PyData.depth,PyData.depthAll]
 refine ⟨.list [.str x],.list [.str x],rep_strs (ns:=[x]) ha,rep_strs (ns:=[x]) hb,sh,sh,?_⟩
 rw [eqv_one,decide_eq_true rfl]; exact q
theorem rd_neE {H:Hp} {Q:VK} {a b:Addr} (ha:H a=some (.lst [])) (hb:H b=some (.lst [])) (q:Q (.bl false) H):rEqD true (.ref a) (.ref b) H Q:=rd_neInts (ns:=[]) (ms:=[]) ha hb q
theorem rd_disp2K {tk1 tv1 tk2 tv2:TE} {σ:L2.St} {H:Hp} {Q:VK} {n1 n2:Str} {v1 v2:V} (ne:n1≠n2) (h1:∀ H' R,Same H H'→R (.str n1) H'→tk1 σ H' R) (h2:∀ H' R,R v1 H'→tv1 σ H' R) (h3:∀ H' R,Same H H'→R (.str n2) H'→tk2 σ H' R) (h4:∀ H' R,R v2 H'→tv2 σ H' R)
  (h:∀ p H',H p=none→Same H H'→H' p=some (.dK [(.inr n1,v1),(.inr n2,v2)])→Q (.ref p) H'):tDisp [(tk1,tv1),(tk2,tv2)] σ H Q:=by
 intro p hp
 refine h1 _ _ (Same.new hp) (h2 _ _ (h3 _ _ (Same.new hp) (h4 _ _ ?_)))
 refine ⟨upd_same,[(.inr n1,v1),(.inr n2,v2)],rfl,Nat.le_add_left 2 13,?_⟩
 rw [upd_upd]
 have e:mergeK [] [((Sum.inr n1:Key),v1),(Sum.inr n2,v2)]=[(Sum.inr n1,v1),(Sum.inr n2,v2)]:=by
  show putK (putK [] (Sum.inr n1:Key) v1) (.inr n2) v2=_
  rw [putK_new (kvs:=[]) (k:=(.inr n1:Key)) v1 rfl,List.nil_append,putK_new]
  ·rfl
  ·rw [valV_neg (by intro z; injection z with z; exact ne z)]; rfl
 rw [e]
 exact h p _ hp (Same.new hp) upd_same
end
section
variable {P:Program} {w:World} {K:PySem.W.Frag} {mg:Str→Option Value} {base:Heap} {t:Ad}
theorem rep0:∀ n:Nat,(List.replicate n [V.int 0]).flatten=(List.replicate n (0:Int)).map V.int
 | 0=>rfl
 | n+1=>by rw [List.replicate_succ,List.replicate_succ,List.flatten_cons,List.map_cons,rep0 n]; rfl
def sp_law (K:PySem.W.Frag):Sp:=fun vs H Q _=>∃ (a:Addr) (ns:List Int),vs=[.ref a]∧SqL K H a (ns.map V.int)∧ns.length≤63∧∀ H',Q (.bl true) H'
theorem ok_law (T:Txt K mg t):FnOk P w K mg base CX0 16 t.f_law t.d_law ["_law_script"] (sp_law K):=by
 have G_Ldraws:=ok_Ldraws (P:=P) (w:=w) (base:=base) T
 have G_Lnames:=ok_Lnames (P:=P) (w:=w) (base:=base) T
 have G_Lrow:=ok_Lrow (P:=P) (w:=w) (base:=base) T
 have G_ChestInit:=ok_ChestInit (P:=P) (w:=w) (base:=base) T
 have G_Ldo:=ok_Ldo (P:=P) (w:=w) (base:=base) T
 have G_Chestturn:=ok_Chestturn (P:=P) (w:=w) (base:=base) T
 have G_Chestundo:=ok_Chestundo (P:=P) (w:=w) (base:=base) T
 have G_Chestundoable:=ok_Chestundoable (P:=P) (w:=w) (base:=base) T
 have G_Chestredoable:=ok_Chestredoable (P:=P) (w:=w) (base:=base) T
 have G_Lbad:=ok_Lbad (P:=P) (w:=w) (base:=base) T
 have G_Lsame:=ok_Lsame (P:=P) (w:=w) (base:=base) T
 have G_Lclothkind:=ok_Lclothkind (P:=P) (w:=w) (base:=base) T
 have G_Lbookfits:=ok_Lbookfits (P:=P) (w:=w) (base:=base) T
 refine T.F_law.ok sc_law (fun vs H Q E h=>?_) (fun cdv A outer s H vs Q E hr h=>?_)
 ·obtain ⟨a,ns,rfl,_⟩:=h; rfl
 ·obtain ⟨a,ns,rfl,hS,hl,z⟩:=h
  refine cutC (ps_set (i:=1) sc_law.nd rfl (Or.inl rfl) (pe_call G_Ldraws (hr.mono (by first | decide | omega)) rfl T.mg_Ldraws T.F_Ldraws.kp T.b_Ldraws .nil pass0 (pa_cons (pv 0) (pa_cons pe_int pa_nil)))) fun _ _=>cutC (ps_set (i:=2) sc_law.nd rfl (Or.inl rfl) (pe_call G_Lnames (hr.mono (by first | decide | omega)) rfl T.mg_Lnames T.F_Lnames.kp T.b_Lnames .nil pass0 (pa_cons (pe_slice (sl_listK K rfl) (pv 1) (po_some pe_int) po_none) (pa_cons pe_int pa_nil)))) fun _ _=>cutC (ps_set (i:=3) sc_law.nd rfl (Or.inr rfl) (pe_op op_add pe_int (pe_op op_mod (pe_ix (ix_listK K rfl) (pv 1) pe_int (fun _ _=>rfl)) pe_int))) fun _ _=>cutC (ps_set (i:=4) sc_law.nd rfl (Or.inl rfl) (pe_op op_add pe_int (pe_op op_mod (pe_ix (ix_listK K rfl) (pv 1) pe_int (fun _ _=>rfl)) pe_int))) fun _ _=>cutC (ps_set (i:=5) sc_law.nd rfl (Or.inl rfl) (pe_tup (pa_cons (pe_op op_mod (pe_ix (ix_listK K rfl) (pv 1) pe_int (fun _ _=>rfl)) pe_int) (pa_cons (pe_call G_Lrow (hr.mono (by first | decide | omega)) rfl T.mg_Lrow T.F_Lrow.kp T.b_Lrow .nil pass0 (pa_cons (pe_slice (sl_listK K rfl) (pv 1) (po_some pe_int) po_none) (pa_cons (pv 3) pa_nil))) (pa_cons (pe_call G_Lrow (hr.mono (by first | decide | omega)) rfl T.mg_Lrow T.F_Lrow.kp T.b_Lrow .nil pass0 (pa_cons (pe_slice (sl_listK K rfl) (pv 1) (po_some pe_int) po_none) (pa_cons (pv 4) pa_nil))) pa_nil))))) fun _ _=>cutC (ps_set (i:=6) sc_law.nd rfl (Or.inl rfl) (pe_tup (pa_cons pe_int (pa_cons (pe_op op_rep (pe_lst (pa_cons pe_int pa_nil)) (pe_op op_sub (pv 3) pe_int)) (pa_cons (pe_comp (N:=["_law_bit","_law_wide"]) (cap:=[none,some 3]) rfl ⟨rfl,rfl,rfl,rfl,rfl,rfl⟩ (pi_list (pe_ix (ix_tupK K rfl) (pv 5) pe_int (fun _ _=>rfl))) (fun _ _ _=>(pg_name (i:=0) (show (["_law_bit","_law_wide"]:List Str).Nodup by decide +kernel) rfl (Or.inl rfl))) (fun _ _ _=>pts_nil) (fun _ _ _=>(pe_op op_sub pe_int (pe_op op_mod (pe_op op_add (pe_op op_add (pv 0) (pv 1)) pe_int) pe_int)))) pa_nil))))) fun _ _=>cutC (ps_set (i:=7) sc_law.nd rfl (Or.inl rfl) (pe_make0 T.mk_Chest G_ChestInit (hr.mono (by first | decide | omega)) rfl T.mg_Chest T.b_ChestInit .nil pass0 )) fun _ _=>cutC (ps_for PassesOwn.never rfl (pi_list (pe_lst (pa_cons (pe_tup (pa_cons (pe_ix (ix_listK K rfl) (pv 2) pe_int (fun _ _=>rfl)) (pa_cons (pv 5) pa_nil))) (pa_cons (pe_tup (pa_cons (pe_ix (ix_listK K rfl) (pv 2) pe_int (fun _ _=>rfl)) (pa_cons (pv 6) pa_nil))) pa_nil)))) (pg_tupK (n:=2) K rfl rfl (pgs_cons (pg_name (i:=8) sc_law.nd rfl (Or.inl rfl)) (pgs_cons (pg_name (i:=9) sc_law.nd rfl (Or.inl rfl)) pgs_nil))) (pss_one (ps_if (pt_cmpR (op_neD hr.units) (pe_call G_Ldo (hr.mono (by first | decide | omega)) rfl T.mg_Ldo T.F_Ldo.kp T.b_Ldo .nil pass0 (pa_cons (pv 7) (pa_cons (pe_tup (pa_cons pe_str (pa_cons (pv 8) (pa_cons (pv 9) pa_nil)))) pa_nil))) (pe_lst pa_nil) (nomark _)) (pss_one (ps_ret pe_bl)) pss_nil))) fun _ _=>cutC (ps_expr (pe_meth (pv 7) T.cl_Chest T.m_Chestturn G_Chestturn (hr.mono (by first | decide | omega)) T.b_Chestturn .nil pass0 (pa_cons (pe_ix (ix_listK K rfl) (pv 2) pe_int (fun _ _=>rfl)) (pa_cons pe_str (pa_cons pe_int pa_nil))))) fun _ _=>cutC (ps_expr (pe_meth0 (pv 7) T.cl_Chest T.m_Chestundo G_Chestundo (hr.mono (by first | decide | omega)) T.b_Chestundo .nil pass0)) fun _ _=>cutC (ps_set (i:=10) sc_law.nd rfl (Or.inl rfl) (pe_ix (ix_listK K rfl) (pe_lst (pa_cons pe_str (pa_cons (pe_op op_add_str (pe_ix (ix_listK K rfl) (pv 2) pe_int (fun _ _=>rfl)) pe_str) (pa_cons pe_str (pa_cons pe_str (pa_cons pe_str (pa_cons pe_str (pa_cons (pe_op op_add_str (pe_slice (sl_textK K rfl) (pe_ix (ix_listK K rfl) (pv 2) pe_int (fun _ _=>rfl)) po_none (po_some pe_int)) pe_str) pa_nil)))))))) (pe_op op_mod (pe_ix (ix_listK K rfl) (pv 1) pe_int (fun _ _=>rfl)) pe_int) (fun _ _=>rfl))) fun _ _=>cutC (ps_set (i:=11) sc_law.nd rfl (Or.inl rfl) (pe_disp (pps_cons (pe_ix (ix_listK K rfl) (pv 2) pe_int (fun _ _=>rfl)) (pv 5) (pps_cons (pe_ix (ix_listK K rfl) (pv 2) pe_int (fun _ _=>rfl)) (pv 6) pps_nil)) rfl rfl (fun z=>nomatch z) (by decide))) fun _ _=>cutC (ps_set (i:=12) sc_law.nd rfl (Or.inl rfl) (pe_call G_Lbad (hr.mono (by first | decide | omega)) rfl T.mg_Lbad T.F_Lbad.kp T.b_Lbad .nil pass0 (pa_cons (pv 2) (pa_cons (pv 10) (pa_cons (pv 3) (pa_cons (pv 4) pa_nil)))))) fun _ _=>cutC (ps_join (ps_if (pt_cmpR op_eq (pv 3) pe_int (nomark _)) (pss_cons (ps_expr (pe_bm PySem.F.plainAttrs_list PySem.F.slot_list_append PySem.F.type_list_append mt_append (pv 12) (pa_cons (pe_tup (pa_cons (pe_tup (pa_cons pe_str (pa_cons (pe_ix (ix_listK K rfl) (pv 2) pe_int (fun _ _=>rfl)) (pa_cons pe_str (pa_cons (pe_op op_mod (pe_ix (ix_listK K rfl) (pv 1) pe_int (fun _ _=>rfl)) pe_int) (pa_cons pe_int pa_nil)))))) (pa_cons pe_str pa_nil))) pa_nil))) (pss_one (ps_expr (pe_bm PySem.F.plainAttrs_list PySem.F.slot_list_append PySem.F.type_list_append mt_append (pv 12) (pa_cons (pe_tup (pa_cons (pe_tup (pa_cons pe_str (pa_cons (pe_ix (ix_listK K rfl) (pv 2) pe_int (fun _ _=>rfl)) (pa_cons pe_str (pa_cons (pe_op op_mod (pe_ix (ix_listK K rfl) (pv 1) pe_int (fun _ _=>rfl)) pe_int) (pa_cons pe_int pa_nil)))))) (pa_cons pe_str pa_nil))) pa_nil))))) pss_nil)) fun _ _=>cutC (ps_set (i:=13) sc_law.nd rfl (Or.inl rfl) pe_str) fun _ _=>cutC (ps_join (ps_if (pt_cmpR op_gt (pe_op op_add (pe_op op_mul pe_int (pv 3)) pe_int) pe_int (nomark _)) (pss_one (ps_set (i:=13) sc_law.nd rfl (Or.inl rfl) pe_str)) pss_nil)) fun _ _=>cutC (ps_expr (pe_bm PySem.F.plainAttrs_list PySem.F.slot_list_append PySem.F.type_list_append mt_append (pv 12) (pa_cons (pe_tup (pa_cons (pe_tup (pa_cons pe_str (pa_cons (pe_ix (ix_listK K rfl) (pv 2) pe_int (fun _ _=>rfl)) (pa_cons (pe_ix (ix_listK K rfl) (pv 2) pe_int (fun _ _=>rfl)) (pa_cons (pe_ix (ix_listK K rfl) (pv 2) pe_int (fun _ _=>rfl)) (pa_cons pe_str pa_nil)))))) (pa_cons (pv 13) pa_nil))) pa_nil))) fun _ _=>cutC (ps_for PassesOwn.never rfl (pi_list (pv 12)) (pg_tupK (n:=2) K rfl rfl (pgs_cons (pg_name (i:=14) sc_law.nd rfl (Or.inl rfl)) (pgs_cons (pg_name (i:=15) sc_law.nd rfl (Or.inl rfl)) pgs_nil))) (pss_one (ps_if (pt_cmpR (op_neD hr.units) (pe_call G_Ldo (hr.mono (by first | decide | omega)) rfl T.mg_Ldo T.F_Ldo.kp T.b_Ldo .nil pass0 (pa_cons (pv 7) (pa_cons (pv 14) pa_nil))) (pe_lst (pa_cons (pv 15) pa_nil)) (nomark _)) (pss_one (ps_ret pe_bl)) pss_nil))) fun _ _=>cutC (ps_if (PW.pt (pw_or (pt_not (pt_val (pe_call G_Lsame (hr.mono (by first | decide | omega)) rfl T.mg_Lsame T.F_Lsame.kp T.b_Lsame .nil pass0 (pa_cons (pe_lst (pa_cons (pe_meth0 (pv 7) T.cl_Chest T.m_Chestundoable G_Chestundoable (hr.mono (by first | decide | omega)) T.b_Chestundoable .nil pass0) (pa_cons (pe_meth0 (pv 7) T.cl_Chest T.m_Chestredoable G_Chestredoable (hr.mono (by first | decide | omega)) T.b_Chestredoable .nil pass0) pa_nil))) (pa_cons (pe_lst (pa_cons pe_int (pa_cons pe_int pa_nil))) pa_nil))))) (pw_or1 (pt_cmpR (op_neD hr.units) (pe_call G_Ldo (hr.mono (by first | decide | omega)) rfl T.mg_Ldo T.F_Ldo.kp T.b_Ldo .nil pass0 (pa_cons (pv 7) (pa_cons (pe_tup (pa_cons pe_str pa_nil)) pa_nil))) (pe_lst pa_nil) (nomark _))))) (pss_one (ps_ret pe_bl)) pss_nil) fun _ _=>cutC (ps_if (PW.pt (pw_or (pt_cmpR (op_neD hr.units) (pe_call G_Lclothkind (hr.mono (by first | decide | omega)) rfl T.mg_Lclothkind T.F_Lclothkind.kp T.b_Lclothkind .nil pass0 (pa_cons (pv 7) (pa_cons (pe_ix (ix_listK K rfl) (pv 2) pe_int (fun _ _=>rfl)) pa_nil))) (pe_lst (pa_cons pe_str pa_nil)) (nomark _)) (pw_or1 (pt_cmpR (op_neD hr.units) (pe_call G_Lclothkind (hr.mono (by first | decide | omega)) rfl T.mg_Lclothkind T.F_Lclothkind.kp T.b_Lclothkind .nil pass0 (pa_cons (pv 7) (pa_cons (pv 10) pa_nil))) (pe_lst (pa_cons pe_str pa_nil)) (nomark _))))) (pss_one (ps_ret pe_bl)) pss_nil) fun _ _=>cutC (ps_expr (pe_meth0 (pv 7) T.cl_Chest T.m_Chestundo G_Chestundo (hr.mono (by first | decide | omega)) T.b_Chestundo .nil pass0)) fun _ _=>cutE (ps_ret (pe_call G_Lbookfits (hr.mono (by first | decide | omega)) rfl T.mg_Lbookfits T.F_Lbookfits.kp T.b_Lbookfits .nil pass0 (pa_cons (pv 7) (pa_cons (pv 11) pa_nil)))) fun _ _=>?_
  walk_at "rd"
  refine ⟨a,24,ns,rfl,hS,hl,by decide,fun ls zs H1 s1 es lz _ sm=>?_⟩
  walk_at "rd"
  refine rd_slS es fun l2 H2 s2 _ e2=>?_
  rw [show (some 1:Option Int)=some ((1:Nat):Int) from rfl,cutV_drop] at e2
  walk_at "rd"
  refine ⟨l2,zs.drop 1,rfl,e2,by rw [List.length_drop]; omega,fun ln n1 n2 n3 H3 s3 en w1 w2 w3 d12 d13 d23=>?_⟩
  have es:=s3 _ _ (s2 _ _ es)
  clear e2 s1 s2 s3
  walk_at "rd"
  refine rd_ixL (SqL.of es) (atI_ints (i:=4) (by decide) (by omega)) ?_
  walk_at "rd"
  refine rd_I (by decide) ?_
  obtain ⟨wd,hwd,bw⟩:∃ wd:Nat,1+zs.getD (4:Int).toNat 0%39=(wd:Int)∧1≤wd∧wd≤39:=⟨(1+zs.getD (4:Int).toNat 0%39).toNat,by omega,by omega⟩
  walk_at "rd"
  rw [hwd]
  refine rd_ixL (SqL.of es) (atI_ints (i:=5) (by decide) (by omega)) ?_
  walk_at "rd"
  refine rd_I (by decide) ?_
  obtain ⟨tl,htl,bt⟩:∃ tl:Nat,1+zs.getD (5:Int).toNat 0%39=(tl:Int)∧1≤tl∧tl≤39:=⟨(1+zs.getD (5:Int).toNat 0%39).toNat,by omega,by omega⟩
  walk_at "rd"
  rw [htl]
  refine rd_ixL (SqL.of es) (atI_ints (i:=6) (by decide) (by omega)) ?_
  walk_at "rd"
  refine rd_I (by decide) ?_
  have sh:=mod2 (zs.getD (6:Int).toNat 0)
  generalize zs.getD (6:Int).toNat 0%2=sd at sh ⊢
  walk_at "rd"
  refine rd_slS es fun l4 H4 s4 _ e4=>?_
  rw [show (some 7:Option Int)=some ((7:Nat):Int) from rfl,cutV_drop] at e4
  walk_at "rd"
  refine ⟨l4,wd,zs.drop 7,rfl,e4,by rw [List.length_drop]; omega,by omega,fun lc cs H5 s5 _ ec lcs bc=>?_⟩
  have es:=s5 _ _ (s4 _ _ es)
  have en:=s5 _ _ (s4 _ _ en)
  clear e4 s4 s5
  walk_at "rd"
  refine rd_slS es fun l6 H6 s6 _ e6=>?_
  rw [show (some 11:Option Int)=some ((11:Nat):Int) from rfl,cutV_drop] at e6
  walk_at "rd"
  refine ⟨l6,tl,zs.drop 11,rfl,e6,by rw [List.length_drop]; omega,by omega,fun lr rs H7 s7 _ er lrs br=>?_⟩
  have s67:=s6.trans s7
  have es:=s67 _ _ es
  have en:=s67 _ _ en
  have ec:=s67 _ _ ec
  clear e6 s6 s7 s67
  walk_at "rd"
  refine ⟨by show 3≤sizeLine; decide,fun pp npp=>?_⟩
  have spp:=Same.new (o:=HO.tup [V.int sd,V.ref lc,V.ref lr]) npp
  have epp:=upd_same (H:=H7) (a:=pp) (o:=HO.tup [V.int sd,V.ref lc,V.ref lr])
  generalize upd H7 pp (HO.tup [V.int sd,V.ref lc,V.ref lr])=H8 at spp epp ⊢
  have es:=spp _ _ es
  have en:=spp _ _ en
  have ec:=spp _ _ ec
  have er:=spp _ _ er
  clear spp npp
  walk_at "rd"
  refine ⟨by show 1≤sizeLine; decide,fun l0 nl0=>?_⟩
  have sl0:=Same.new (o:=HO.lst [V.int 0]) nl0
  have el0:=upd_same (H:=H8) (a:=l0) (o:=HO.lst [V.int 0])
  generalize upd H8 l0 (HO.lst [V.int 0])=H9 at sl0 el0 ⊢
  walk_at "rd"
  refine rd_repS el0 (by omega) (by omega) (by rw [List.length_singleton]; exact Nat.le_trans (show 1*((wd:Int) - 1).toNat≤1000 by omega) (by decide)) fun lb2 HA sA _ eb=>?_
  rw [rep0,show ((wd:Int) - 1).toNat=wd - 1 by omega] at eb
  have s8A:=sl0.trans sA
  clear sl0 sA nl0 el0
  walk_at "rd"
  refine rd_ixT (SqT.of (s8A _ _ epp)) rfl ?_
  walk_at "rd"
  refine ⟨⟨_,SqL.of (s8A _ _ er)⟩,fun l3 n3'=>?_⟩
  refine compW_listL ((rs.map fun b=>1 - (b+(wd:Int)+1)%2).map V.int) (by rw [List.length_map,List.length_map,List.length_map]) (SqL.of (s8A _ _ er)) (by rw [List.length_map]; omega) n3' (fun i x y o H' Q' hx hy sB q=>?_) (fun HB sB eB=>?_)
  ·walk_at "rd"
   rw [List.getElem?_map] at hx
   rw [List.getElem?_map,List.getElem?_map] at hy
   cases hb:rs[i]? with
   | none=>rw [hb] at hx; cases hx
   | some b =>
    rw [hb] at hx hy
    cases hx
    cases hy
    walk_at "rd"
    refine rd_I (by decide) ?_
    walk_at "rd"
    exact q _ (Same.refl _)
  walk_at "rd"
  refine ⟨by show 3≤sizeLine; decide,fun qb nqb=>?_⟩
  have sqb:=Same.new (o:=HO.tup [V.int 1,V.ref lb2,V.ref l3]) nqb
  have eqb:=upd_same (H:=HB) (a:=qb) (o:=HO.tup [V.int 1,V.ref lb2,V.ref l3])
  generalize upd HB qb (HO.tup [V.int 1,V.ref lb2,V.ref l3])=HC at sqb eqb ⊢
  have s8C:=s8A.trans (sB.trans sqb)
  have es:=s8C _ _ es
  have en:=s8C _ _ en
  have hp1:PlAt HC pp (sd,cs,rs):=⟨lc,lr,s8C _ _ epp,s8C _ _ ec,s8C _ _ er⟩
  have hp2:PlAt HC qb (1,List.replicate (wd - 1) 0,rs.map fun b=>1 - (b+(wd:Int)+1)%2):=⟨lb2,l3,eqb,(sB.trans sqb) _ _ eb,sqb _ _ eB⟩
  have k1:CloOk (sd,cs,rs):=⟨sh,⟨by rw [lcs]; omega,bc⟩,⟨by rw [lrs]; omega,br⟩⟩
  have k2:CloOk (1,List.replicate (wd - 1) 0,rs.map fun b=>1 - (b+(wd:Int)+1)%2):=⟨.inr rfl,⟨by show (List.replicate (wd - 1) (0:Int)).length≤39; rw [List.length_replicate]; omega,fun z hz=>.inl (List.eq_of_mem_replicate hz)⟩,⟨by show (rs.map _).length≤39; rw [List.length_map,lrs]; omega,fun z hz=>by
   obtain ⟨b,_,rfl⟩:=List.mem_map.mp hz
   omega⟩⟩
  have tw:∀ no:Str,nameOk no=false→no.cps.size≤1000→Two n1 n2 n3 no (sd,cs,rs) (1,List.replicate (wd - 1) 0,rs.map fun b=>1 - (b+(wd:Int)+1)%2) wd tl:=fun no h1 h2=>⟨w1,w2,w3,d12,d13,d23,h1,h2,k1,k2,lcs,lrs,List.length_replicate,rfl,bw,bt⟩
  have ltl:0<rs.length:=by omega
  clear s8C s8A sB sqb epp ec er eb eB eqb nqb n3'
  generalize hc2:((1:Int),List.replicate (wd - 1) (0:Int),rs.map fun b=>1 - (b+(wd:Int)+1)%2)=c2 at hp2 k2 tw
  walk_at "rd"
  intro p dx np ndx nex
  have sI:Same HC (upd (upd HC dx (.own p)) p (.ins t.a_Chest dx [])):=(Same.new ndx).later np
  refine ⟨p,dx,rfl,upd_same,fun la lb HD mD nla nlb ch=>⟨rfl,?_⟩⟩
  have sD:Same HC HD:=same_but sI mD (fun x hx=>by rw [List.mem_singleton.mp hx]; exact np)
  have nla':HC la=none:=sI.free nla
  clear mD nlb nex sI nla ndx
  walk_at "rd"
  refine rd_ixL (SqL.of (sD _ _ en)) rfl ?_
  walk_at "rd"
  refine ⟨by show 2≤sizeLine; decide,fun a1 na1=>?_⟩
  have sa1:=Same.new (o:=HO.tup [V.str n1,V.ref pp]) na1
  have ea1:=upd_same (H:=HD) (a:=a1) (o:=HO.tup [V.str n1,V.ref pp])
  generalize upd HD a1 (HO.tup [V.str n1,V.ref pp])=HE at sa1 ea1 ⊢
  walk_at "rd"
  refine rd_ixL (SqL.of (sa1 _ _ (sD _ _ en))) rfl ?_
  walk_at "rd"
  refine ⟨by show 2≤sizeLine; decide,fun a2 na2=>?_⟩
  have sa2:=Same.new (o:=HO.tup [V.str n2,V.ref qb]) na2
  have ea2:=upd_same (H:=HE) (a:=a2) (o:=HO.tup [V.str n2,V.ref qb])
  generalize upd HE a2 (HO.tup [V.str n2,V.ref qb])=HF at sa2 ea2 ⊢
  walk_at "rd"
  refine ⟨by show 2≤sizeLine; decide,fun lw nlw=>?_⟩
  have slw:=Same.new (o:=HO.lst [V.ref a1,V.ref a2]) nlw
  have elw:=upd_same (H:=HF) (a:=lw) (o:=HO.lst [V.ref a1,V.ref a2])
  generalize upd HF lw (HO.lst [V.ref a1,V.ref a2])=HG at slw elw ⊢
  have chF:=ch.mono (sa1.trans sa2)
  have chG:=chF.mono slw
  have sG:=sD.trans (sa1.trans (sa2.trans slw))
  obtain ⟨B,sB,sCB,nBp,nBla,e1,e2,ew⟩:∃ B:Hp,Same B HG∧Same HC B∧B p=none∧B la=none∧B a1=some (.tup [.str n1,.ref pp])∧B a2=some (.tup [.str n2,.ref qb])∧B lw=some (.lst [.ref a1,.ref a2]):=by
   obtain ⟨dx',fs,d,f1,_,_⟩:=chG.ob
   obtain ⟨ds,f2,_⟩:=chG.pa
   obtain ⟨ds',f3,_⟩:=chF.pa
   have g1:=slw _ _ (sa2 _ _ ea1)
   have g2:=slw _ _ ea2
   have m:∀ {x:Addr},x≠p→x≠la→x∉[p,la]:=fun h1 h2 h=>by
    simp only [List.mem_cons,List.not_mem_nil,or_false] at h
    exact h.elim h1 h2
   refine ⟨msk [p,la] HG,msk_same,fun x o e=>msk_at (sG _ _ e) (m (fun z=>by rw [z,np] at e; cases e) (fun z=>by rw [z,nla'] at e; cases e)),msk_no (by simp),msk_no (by simp),msk_at g1 (m (ne_of g1 f1 fun z=>nomatch z) (ne_of g1 f2 fun z=>nomatch z)),msk_at g2 (m (ne_of g2 f1 fun z=>nomatch z) (ne_of g2 f2 fun z=>nomatch z)),msk_at elw (m (ne_of elw f1 fun z=>nomatch z) (fun z=>by rw [← z,nlw] at f3; cases f3))⟩
  have en:=sCB _ _ en
  have es:=sCB _ _ es
  have hp1:=hp1.mono sCB
  have hp2:=hp2.mono sCB
  clear sG sD sa1 sa2 slw ea1 ea2 elw na1 na2 nlw chF ch sCB np nla'
  walk_at "rd"
  refine ⟨⟨_,SqL.of (sB _ _ ew)⟩,?_⟩
  refine forW_list (K:=K) (a:=lw) (xs:=[V.ref a1,V.ref a2]) (fun i σ' H'=>∃ (o8 o9:Option V) (lb:Addr),σ'=[some (.ref a),some (.ref ls),some (.ref ln),some (.int wd),some (.int tl),some (.ref pp),some (.ref qb),some (.ref p),o8,o9,none,none,none,none,none,none]∧Same B H'∧ChAt t.a_Cloth t.a_Chest H' p la lb (([[],[(n1,(sd,cs,rs))]]:List Bk).take i) (([(n1,(sd,cs,rs)),(n2,c2)]:Bk).take i) [])
   ⟨none,none,lb,rfl,sB,chG⟩ (fun i σ' H' _ ⟨_,_,_,_,s6,_⟩=>SqL.of (s6 _ _ ew)) ?_ ?_
  ·rintro i v σ' H4 hv ⟨o8,o9,lb,rfl,s4,ch⟩
   obtain ⟨x,n,q,c,rfl,ex,hq,ck,wn,gn,ep,eq⟩:∃ x n q c,v=.ref x∧B x=some (.tup [.str n,.ref q])∧PlAt B q c∧CloOk c∧Wd n∧bkGet (([(n1,(sd,cs,rs)),(n2,c2)]:Bk).take i) n=none∧(([[],[(n1,(sd,cs,rs))]]:List Bk).take i)++[(([(n1,(sd,cs,rs)),(n2,c2)]:Bk).take i)]=(([[],[(n1,(sd,cs,rs))]]:List Bk).take (i+1))∧bkPut (([(n1,(sd,cs,rs)),(n2,c2)]:Bk).take i) n c=(([(n1,(sd,cs,rs)),(n2,c2)]:Bk).take (i+1)):=by
    match i,hv with
    | 0,e=>cases e; exact ⟨a1,n1,pp,_,rfl,e1,hp1,k1,w1,rfl,rfl,rfl⟩
    | 1,e=>cases e; exact ⟨a2,n2,qb,_,rfl,e2,hp2,k2,w2,by simp [bkGet,d12],rfl,by simp [bkPut,d12]⟩
    | i+2,e=>cases e
   walk_at "rd"
   refine rd_gtup (s4 _ _ ex) rfl ?_
   walk_at "rd"
   refine ⟨by show 3≤sizeLine; decide,fun dt ndt=>?_⟩
   have sdt:=Same.new (o:=HO.tup [V.str "lay",V.str n,V.ref q]) ndt
   have edt:=upd_same (H:=H4) (a:=dt) (o:=HO.tup [V.str "lay",V.str n,V.ref q])
   generalize upd H4 dt (HO.tup [V.str "lay",V.str n,V.ref q])=H5 at sdt edt ⊢
   walk_at "rd"
   refine ⟨p,la,lb,dt,_,[],_,.lay n c,rfl,ch.mono sdt,by rw [List.length_take]; exact Nat.le_trans (Nat.min_le_right _ _) (by show 2≤900; decide),by rw [List.length_take]; exact Nat.le_trans (Nat.min_le_right _ _) (by show 2≤900; decide),⟨q,edt,hq.mono (s4.trans sdt)⟩,.inr (.inl ⟨n,c,rfl,wn.z,ck,wn.ok,gn,fun l lb' H6 m6 n6 ch6 el=>?_⟩)⟩
   rw [ep,eq] at ch6
   have s6:Same B H6:=same_but (s4.trans sdt) m6 (fun x hx=>by
    simp only [List.mem_cons,List.not_mem_nil,or_false] at hx
    rcases hx with rfl | rfl
    ·exact nBp
    ·exact nBla)
   walk_at "rd"
   refine ⟨by show 0≤sizeLine; decide,fun em nem=>?_⟩
   have sem:=Same.new (o:=HO.lst []) nem
   have eem:=upd_same (H:=H6) (a:=em) (o:=HO.lst [])
   generalize upd H6 em (HO.lst [])=H7 at sem eem ⊢
   refine rd_neE (sem _ _ el) eem ?_
   walk_at "rd"
   exact ⟨_,_,lb',rfl,s6.trans sem,ch6.mono sem⟩
  rintro σ' H4 ⟨o8,o9,lb',rfl,s4,ch⟩
  change ChAt _ _ _ _ _ _ [[],[(n1,(sd,cs,rs))]] [(n1,(sd,cs,rs)),(n2,c2)] [] at ch
  obtain ⟨dx4,fs4,d4,f1,f2,_⟩:=ch.ob
  walk_at "rd"
  refine rd_methv f1 (f2.no _ (by decide +kernel)) ?_
  walk_at "rd"
  refine rd_ixL (SqL.of (s4 _ _ en)) rfl ?_
  walk_at "rd"
  refine ⟨p,la,lb',_,[],_,n1,0,sd,cs,rs,rfl,ch,by show 2≤1000; decide,by show 2≤1000; decide,by simp [bkGet],ltl,k1.2.1,k1.2.2,fun lx H5 m5 n5 ch5=>?_⟩
  have s5:Same B H5:=same_but s4 m5 (fun x hx=>by
   simp only [List.mem_cons,List.not_mem_nil,or_false] at hx
   rcases hx with rfl | rfl
   ·exact nBp
   ·exact nBla)
  have nBx:B lx=none:=s4.free n5
  obtain ⟨bt',hbt⟩:∃ b:Bk,b=bkPut [(n1,(sd,cs,rs)),(n2,c2)] n1 (sd,cs,flip rs 0):=⟨_,rfl⟩
  rw [← hbt] at ch5
  have nB:∀ x∈[p,la,lx],B x=none:=fun x hx=>by
   simp only [List.mem_cons,List.not_mem_nil,or_false] at hx
   rcases hx with rfl | rfl | rfl
   ·exact nBp
   ·exact nBla
   ·exact nBx
  obtain ⟨dx5,fs5,d5,g1,g2,_⟩:=ch5.ob
  walk_at "rd"
  refine rd_methv g1 (g2.no _ (by decide +kernel)) ?_
  walk_at "rd"
  refine ⟨p,la,lx,[[],[(n1,(sd,cs,rs))]],[],bt',_,rfl,ch5,by show 0≤1000; decide,fun H6 m6 ch6=>?_⟩
  have s6:Same B H6:=same_but s5 m6 nB
  change ChAt _ _ _ _ _ _ _ _ [bt'] at ch6
  clear s4 s5 m5 m6 n5 ch5 ch sB chG f1 f2 g1 g2 e1 e2 ew
  walk_at "rd"
  refine rd_ixL (SqL.of (s6 _ _ en)) rfl ?_
  walk_at "rd"
  have z3:=w3.sz
  have zL:1000≤sizeLine:=by decide
  refine ⟨_,_,rfl,rfl,Nat.le_trans (show n3.cps.size+1≤1000 by omega) zL,?_⟩
  walk_at "rd"
  refine rd_ixL (SqL.of (s6 _ _ en)) rfl ?_
  walk_at "rd"
  refine ⟨n3,rfl,Nat.le_trans (show n3.cps.size≤1000 by omega) zL,?_⟩
  walk_at "rd"
  have zs4:(Txt.slice n3 none (some 4)).cps.size≤n3.cps.size:=Txt.slice_le n3 none (some 4)
  refine ⟨_,_,rfl,rfl,Nat.le_trans (show (Txt.slice n3 none (some 4)).cps.size+1≤1000 by omega) zL,?_⟩
  have bad:∀ m:Nat,m<7→∃ no:Str,[V.str "",V.str (n3++"A"),V.str "Ab",V.str "abcdefghijklm",V.str "a b",V.str "a1",V.str (Txt.slice n3 none (some 4)++"-")][m]?=some (.str no)∧nameOk no=false∧no.cps.size≤1000:=fun m hm=>by
   have c1:∀ x:Str,(x++"A").cps.size=x.cps.size+1:=fun x=>by rw [← Array.length_toList,catX,List.length_append,Array.length_toList]; rfl
   have c2:∀ x:Str,(x++"-").cps.size=x.cps.size+1:=fun x=>by rw [← Array.length_toList,catX,List.length_append,Array.length_toList]; rfl
   match m,hm with
   | 0,_=>exact ⟨_,rfl,by decide +kernel,by decide +kernel⟩
   | 1,_=>exact ⟨_,rfl,nameOk_bad (c:=65) (by rw [catX]; exact List.mem_append_right _ (by decide +kernel)) (by decide +kernel),by rw [c1]; omega⟩
   | 2,_=>exact ⟨_,rfl,by decide +kernel,by decide +kernel⟩
   | 3,_=>exact ⟨_,rfl,by decide +kernel,by decide +kernel⟩
   | 4,_=>exact ⟨_,rfl,by decide +kernel,by decide +kernel⟩
   | 5,_=>exact ⟨_,rfl,by decide +kernel,by decide +kernel⟩
   | 6,_=>exact ⟨_,rfl,nameOk_bad (c:=45) (by rw [catX]; exact List.mem_append_right _ (by decide +kernel)) (by decide +kernel),by rw [c2]; omega⟩
   | m+7,h=>exact absurd h (by omega)
  walk_at "rd"
  refine ⟨by show 7≤sizeLine; decide,fun ll nll=>?_⟩
  have sll:=Same.new (o:=HO.lst [V.str "",V.str (n3++"A"),V.str "Ab",V.str "abcdefghijklm",V.str "a b",V.str "a1",V.str (Txt.slice n3 none (some 4)++"-")]) nll
  have ell:=upd_same (H:=H6) (a:=ll) (o:=HO.lst [V.str "",V.str (n3++"A"),V.str "Ab",V.str "abcdefghijklm",V.str "a b",V.str "a1",V.str (Txt.slice n3 none (some 4)++"-")])
  generalize upd H6 ll (HO.lst [V.str "",V.str (n3++"A"),V.str "Ab",V.str "abcdefghijklm",V.str "a b",V.str "a1",V.str (Txt.slice n3 none (some 4)++"-")])=H7 at sll ell ⊢
  have s7:=s6.trans sll
  walk_at "rd"
  refine rd_ixL (SqL.of (s7 _ _ es)) (atI_ints (i:=15) (by decide) (by omega)) ?_
  walk_at "rd"
  refine rd_I (by decide) ?_
  obtain ⟨no,hno,nob,noz⟩:=bad (zs.getD (15:Int).toNat 0%7).toNat (by omega)
  refine rd_ixL (SqL.of ell) (v:=.str no) (by rw [show zs.getD (15:Int).toNat 0%7=((zs.getD (15:Int).toNat 0%7).toNat:Int) by omega]; exact atI_nat hno) ?_
  have tw:=tw no nob noz
  have ch7:=ch6.mono sll
  clear hno bad sll ell nll ch6 s6 zs4
  walk_at "rd"
  refine rd_disp2K d12 (v1:=.ref pp) (v2:=.ref qb) (fun H' R s' q=>?_) (fun H' R q=>?_) (fun H' R s' q=>?_) (fun H' R q=>?_) (fun bk H8 nb s8 eb=>?_)
  ·walk_at "rd"
   exact rd_ixL (SqL.of (s' _ _ (s7 _ _ en))) rfl q
  ·walk_at "rd"
   exact q
  ·walk_at "rd"
   exact rd_ixL (SqL.of (s' _ _ (s7 _ _ en))) rfl q
  ·walk_at "rd"
   exact q
  have s8:=s7.trans s8
  have ch8:=ch7.mono ‹Same H7 H8›
  clear s7 ch7 nb
  walk_at "rd"
  refine ⟨ln,n1,n2,n3,no,wd,tl,RR [(n1,(sd,cs,rs)),(n2,c2)],rfl,s8 _ _ en,tw.all,fun lq H9 bl=>?_⟩
  have all8:∀ {H':Hp} {n:Nat},BadS (RR [(n1,(sd,cs,rs)),(n2,c2)]) H8 H' lq n→Same H8 H':=fun ⟨_,_,x1,x2,_⟩=>x1.trans x2
  have ze:=tw.bw
  walk_at "rd"
  refine rd_join (fun σ' H'=>σ'=[some (.ref a),some (.ref ls),some (.ref ln),some (.int wd),some (.int tl),some (.ref pp),some (.ref qb),some (.ref p),o8,o9,some (.str no),some (.ref bk),some (.ref lq),none,none,none]∧∃ n,n≤50∧BadS (RR [(n1,(sd,cs,rs)),(n2,c2)]) H8 H' lq n) ?_ ?_
  ·walk_at "rd"
   refine ite2 (fun hw=>?_) (fun _=>?_)
   ·have hw:wd=39:=by have:=of_decide_eq_true hw; omega
    have q9:=s8.trans (all8 bl)
    obtain ⟨k0,hk0,hk1,hk2⟩:∃ k0:Int,zs.getD (16:Int).toNat 0%40=k0∧0≤k0∧k0<40:=⟨_,rfl,by omega,by omega⟩
    obtain ⟨r1,r2⟩:=tw.wide hw hk1 hk2
    obtain ⟨xs9,f9,_⟩:=id bl
    obtain ⟨ys9,g9⟩:∃ ys,H9 lq=some (.lst ys):=by obtain ⟨_,ys,_,_,_,e,_⟩:=bl; exact ⟨ys,e⟩
    walk_at "rd"
    refine rd_bmL g9 ?_
    walk_at "rd"
    refine rd_ixL (SqL.of (q9 _ _ en)) rfl ?_
    walk_at "rd"
    refine rd_ixL (SqL.of (q9 _ _ es)) (atI_ints (i:=16) (by decide) (by omega)) ?_
    walk_at "rd"
    refine rd_I (by decide) ?_
    rw [hk0]
    walk_at "rd"
    refine ⟨by show 5≤sizeLine; decide,fun u1 nu1=>?_⟩
    have su1:=Same.new (o:=HO.tup [V.str "put",V.str n1,V.str "col",V.int k0,V.int 1]) nu1
    have eu1:=upd_same (H:=H9) (a:=u1) (o:=HO.tup [V.str "put",V.str n1,V.str "col",V.int k0,V.int 1])
    generalize upd H9 u1 (HO.tup [V.str "put",V.str n1,V.str "col",V.int k0,V.int 1])=HA at su1 eu1 ⊢
    walk_at "rd"
    refine ⟨by show 2≤sizeLine; decide,fun u2 nu2=>?_⟩
    have su2:=Same.new (o:=HO.tup [V.ref u1,V.str "size"]) nu2
    have eu2:=upd_same (H:=HA) (a:=u2) (o:=HO.tup [V.ref u1,V.str "size"])
    generalize upd HA u2 (HO.tup [V.ref u1,V.str "size"])=HB at su2 eu2 ⊢
    walk_at "rd"
    obtain ⟨xs,ex,lx9,bl2⟩:=bl.app (su1.trans su2) (su2 _ _ eu1) (dd:=.put n1 "col" k0 1) (fun _ z=>z) eu2 r1
    refine rd_append ex (by rw [lx9]; exact Nat.le_trans (show 27+1≤1000 by decide) zL) ?_
    have q9:=s8.trans (all8 bl2)
    generalize upd HB lq (.lst (xs++[.ref u2]))=HX1 at bl2 q9 ⊢
    obtain ⟨ys9,g9⟩:∃ ys,HX1 lq=some (.lst ys):=by obtain ⟨_,ys,_,_,_,e,_⟩:=bl2; exact ⟨ys,e⟩
    walk_at "rd"
    refine rd_bmL g9 ?_
    walk_at "rd"
    refine rd_ixL (SqL.of (q9 _ _ en)) rfl ?_
    walk_at "rd"
    refine rd_ixL (SqL.of (q9 _ _ es)) (atI_ints (i:=16) (by decide) (by omega)) ?_
    walk_at "rd"
    refine rd_I (by decide) ?_
    rw [hk0]
    walk_at "rd"
    refine ⟨by show 5≤sizeLine; decide,fun u3 nu3=>?_⟩
    have su3:=Same.new (o:=HO.tup [V.str "put",V.str n1,V.str "col",V.int k0,V.int 2]) nu3
    have eu3:=upd_same (H:=HX1) (a:=u3) (o:=HO.tup [V.str "put",V.str n1,V.str "col",V.int k0,V.int 2])
    generalize upd HX1 u3 (HO.tup [V.str "put",V.str n1,V.str "col",V.int k0,V.int 2])=HX2 at su3 eu3 ⊢
    walk_at "rd"
    refine ⟨by show 2≤sizeLine; decide,fun u4 nu4=>?_⟩
    have su4:=Same.new (o:=HO.tup [V.ref u3,V.str "bit"]) nu4
    have eu4:=upd_same (H:=HX2) (a:=u4) (o:=HO.tup [V.ref u3,V.str "bit"])
    generalize upd HX2 u4 (HO.tup [V.ref u3,V.str "bit"])=HX3 at su4 eu4 ⊢
    walk_at "rd"
    obtain ⟨xs,ex,lx9,bl3⟩:=bl2.app (su3.trans su4) (su4 _ _ eu3) (dd:=.put n1 "col" k0 2) (fun _ z=>z) eu4 r2
    refine rd_append ex (by rw [lx9]; exact Nat.le_trans (show 28+1≤1000 by decide) zL) ?_
    walk_at "rd"
    exact ⟨rfl,29,by decide,bl3⟩
   ·walk_at "rd"
    exact ⟨rfl,27,by decide,bl⟩
  rintro σ1 HA ⟨rfl,nA,lA,bA⟩
  walk_at "rd"
  refine rd_join (fun σ' H'=>σ'=[some (.ref a),some (.ref ls),some (.ref ln),some (.int wd),some (.int tl),some (.ref pp),some (.ref qb),some (.ref p),o8,o9,some (.str no),some (.ref bk),some (.ref lq),some (.str (if 2*(wd:Int)+1 > 40 then "size" else "unfit")),none,none]∧H'=HA) ?_ ?_
  ·walk_at "rd"
   refine rd_I (.inl (by decide)) ?_
   walk_at "rd"
   refine ite2 (fun hw=>?_) (fun hw=>?_)
   ·walk_at "rd"
    exact ⟨by rw [if_pos (of_decide_eq_true hw)]; rfl,rfl⟩
   ·walk_at "rd"
    exact ⟨by rw [if_neg (by simpa using hw)]; rfl,rfl⟩
  rintro σ1 HB ⟨rfl,rfl⟩
  have rl:=tw.last
  generalize (if 2*(wd:Int)+1 > 40 then ("size":Str) else "unfit")=wl at rl ⊢
  have qB:=s8.trans (all8 bA)
  obtain ⟨ys9,g9⟩:∃ ys,HB lq=some (.lst ys):=by obtain ⟨_,ys,_,_,_,e,_⟩:=bA; exact ⟨ys,e⟩
  walk_at "rd"
  refine rd_bmL g9 ?_
  walk_at "rd"
  refine rd_ixL (SqL.of (qB _ _ en)) rfl ?_
  walk_at "rd"
  refine rd_ixL (SqL.of (qB _ _ en)) rfl ?_
  walk_at "rd"
  refine rd_ixL (SqL.of (qB _ _ en)) rfl ?_
  walk_at "rd"
  refine ⟨by show 5≤sizeLine; decide,fun u1 nu1=>?_⟩
  have su1:=Same.new (o:=HO.tup [V.str "sew",V.str n3,V.str n1,V.str n2,V.str "col"]) nu1
  have eu1:=upd_same (H:=HB) (a:=u1) (o:=HO.tup [V.str "sew",V.str n3,V.str n1,V.str n2,V.str "col"])
  generalize upd HB u1 (HO.tup [V.str "sew",V.str n3,V.str n1,V.str n2,V.str "col"])=HX1 at su1 eu1 ⊢
  walk_at "rd"
  refine ⟨by show 2≤sizeLine; decide,fun u2 nu2=>?_⟩
  have su2:=Same.new (o:=HO.tup [V.ref u1,V.str wl]) nu2
  have eu2:=upd_same (H:=HX1) (a:=u2) (o:=HO.tup [V.ref u1,V.str wl])
  generalize upd HX1 u2 (HO.tup [V.ref u1,V.str wl])=HX2 at su2 eu2 ⊢
  walk_at "rd"
  obtain ⟨xs,ex,lx9,bZ⟩:=bA.app (su1.trans su2) (su2 _ _ eu1) (dd:=.sew n3 n1 n2 "col") (fun _ z=>z) eu2 rl
  refine rd_append ex (by rw [lx9]; exact Nat.le_trans (show nA+1≤1000 by omega) zL) ?_
  have sZ:=all8 bZ
  generalize upd HX2 lq (.lst (xs++[.ref u2]))=HZ at bZ sZ ⊢
  clear bA bl qB g9 ys9 su1 su2 eu1 eu2 ex lx9 xs nu1 nu2 all8
  have chZ:=ch8.mono sZ
  have eb:=sZ _ _ eb
  have sZ:=s8.trans sZ
  clear ch8 s8
  obtain ⟨G,xs,sg0,sg,nlG,eL,lxs,bp⟩:=bZ
  walk_at "rd"
  refine ⟨⟨_,SqL.of eL⟩,?_⟩
  refine forW_list (K:=K) (a:=lq) (xs:=xs) (fun i σ' H'=>∃ (x4 x5:Option V),σ'=[some (.ref a),some (.ref ls),some (.ref ln),some (.int wd),some (.int tl),some (.ref pp),some (.ref qb),some (.ref p),o8,o9,some (.str no),some (.ref bk),some (.ref lq),some (.str wl),x4,x5]∧Same HZ H')
   ⟨none,none,rfl,Same.refl _⟩ (fun i σ' H' _ ⟨_,_,_,s6⟩=>SqL.of (s6 _ _ eL)) ?_ ?_
  ·rintro i v σ' H4 hv ⟨x4,x5,rfl,s4⟩
   obtain ⟨x,y,dd,wq,rfl,f1,f2,r,ok⟩:=(bp v (List.mem_of_getElem? hv)).mono (sg.trans s4)
   walk_at "rd"
   refine rd_gtup f1 rfl ?_
   walk_at "rd"
   refine ⟨p,la,lx,y,_,[bt'],_,dd,rfl,chZ.mono s4,by show 2≤900; decide,by show 2≤900; decide,f2,.inl ⟨wq,r,fun l H6 s6 el=>?_⟩⟩
   walk_at "rd"
   refine ⟨by show 1≤sizeLine; decide,fun em nem=>?_⟩
   have sem:=Same.new (o:=HO.lst [V.str wq]) nem
   have eem:=upd_same (H:=H6) (a:=em) (o:=HO.lst [V.str wq])
   generalize upd H6 em (HO.lst [V.str wq])=H7 at sem eem ⊢
   refine rd_neW (sem _ _ el) eem ok ?_
   walk_at "rd"
   exact ⟨_,_,rfl,s4.trans (s6.trans sem)⟩
  rintro σ' HA ⟨x4,x5,rfl,sA⟩
  have chA:=chZ.mono sA
  have eb:=sA _ _ eb
  have sA:=sZ.trans sA
  clear sZ chZ bp eL lxs sg sg0 nlG
  obtain ⟨dxA,fsA,dA,f1,f2,_⟩:=chA.ob
  walk_at "rd"
  refine rd_methv f1 (f2.no _ (by decide +kernel)) ?_
  walk_at "rd"
  refine ⟨p,la,lx,_,_,_,rfl,chA,?_⟩
  walk_at "rd"
  refine rd_methv f1 (f2.no _ (by decide +kernel)) ?_
  walk_at "rd"
  refine ⟨p,la,lx,_,_,_,rfl,chA,?_⟩
  walk_at "rd"
  rw [show (([[],[(n1,(sd,cs,rs))]]:List Bk).length:Int)=2 from rfl,show (([bt']:List Bk).length:Int)=1 from rfl]
  refine ⟨by show 2≤sizeLine; decide,fun r1 nr1=>?_⟩
  have sr1:=Same.new (o:=HO.lst [V.int 2,V.int 1]) nr1
  have er1:=upd_same (H:=HA) (a:=r1) (o:=HO.lst [V.int 2,V.int 1])
  generalize upd HA r1 (HO.lst [V.int 2,V.int 1])=HB at sr1 er1 ⊢
  walk_at "rd"
  refine ⟨by show 2≤sizeLine; decide,fun r2 nr2=>?_⟩
  have sr2:=Same.new (o:=HO.lst [V.int 2,V.int 1]) nr2
  have er2:=upd_same (H:=HB) (a:=r2) (o:=HO.lst [V.int 2,V.int 1])
  generalize upd HB r2 (HO.lst [V.int 2,V.int 1])=HX1 at sr2 er2 ⊢
  walk_at "rd"
  refine ⟨.ref r1,.ref r2,.list (([2,1]:List Int).map PyData.int),rfl,okS_ints (by show 2≤1000; decide),rep_ints (ns:=[2,1]) (sr2 _ _ er1),rep_ints (ns:=[2,1]) er2,fun HX2 sX2=>?_⟩
  have q2:=sr1.trans (sr2.trans sX2)
  have chB:=chA.mono q2
  have eb:=q2 _ _ eb
  have sB:=sA.trans q2
  clear sA chA q2 sX2 sr1 sr2 er1 er2 f1 f2
  walk_at "rd"
  refine ⟨by show 1≤sizeLine; decide,fun dt ndt=>?_⟩
  have sdt:=Same.new (o:=HO.tup [V.str "redo"]) ndt
  have edt:=upd_same (H:=HX2) (a:=dt) (o:=HO.tup [V.str "redo"])
  generalize upd HX2 dt (HO.tup [V.str "redo"])=HX3 at sdt edt ⊢
  have chB:=chB.mono sdt
  have eb:=sdt _ _ eb
  have sB:=sB.trans sdt
  walk_at "rd"
  refine ⟨p,la,lx,dt,_,_,_,.redo,rfl,chB,by show 2≤900; decide,by show 2≤900; decide,edt,.inr (.inr ⟨rfl,[],bt',rfl,fun l HY1 mY chY el=>?_⟩)⟩
  have eb:=mY _ _ eb fun zz=>(chB.apt _ zz).2.1 _ eb
  have sY:Same B HY1:=same_but sB mY nB
  clear mY sB chB sdt
  walk_at "rd"
  refine ⟨by show 0≤sizeLine; decide,fun em nem=>?_⟩
  have sem:=Same.new (o:=HO.lst []) nem
  have eem:=upd_same (H:=HY1) (a:=em) (o:=HO.lst [])
  generalize upd HY1 em (HO.lst [])=HY2 at sem eem ⊢
  refine rd_neE (sem _ _ el) eem ?_
  have chY:=chY.mono sem
  have eb:=sem _ _ eb
  have sY:=sY.trans sem
  clear sem eem el
  have gx:∀ x:Str,n1≠x→n2≠x→bkGet bt' x=none:=fun x h1 h2=>by rw [hbt]; simp [bkPut,bkGet,d12,Ne.symm d12,h1,h2]
  have h1:n1≠no:=fun zz=>by have:=w1.ok; rw [zz,nob] at this; cases this
  have h2:n2≠no:=fun zz=>by have:=w2.ok; rw [zz,nob] at this; cases this
  have okc:PyData.strOk "cloth"=true:=by decide +kernel
  walk_at "rd"
  refine rd_ixL (SqL.of (sY _ _ en)) rfl ?_
  walk_at "rd"
  refine ⟨p,la,lx,_,_,bt',n3,rfl,chY,gx n3 d13 d23,fun l HY3 s3 el=>?_⟩
  walk_at "rd"
  refine ⟨by show 1≤sizeLine; decide,fun em nem=>?_⟩
  have sem:=Same.new (o:=HO.lst [V.str "cloth"]) nem
  have eem:=upd_same (H:=HY3) (a:=em) (o:=HO.lst [V.str "cloth"])
  generalize upd HY3 em (HO.lst [V.str "cloth"])=HY4 at sem eem ⊢
  refine rd_neW (sem _ _ el) eem okc ?_
  have q4:=s3.trans sem
  have chY:=chY.mono q4
  have eb:=q4 _ _ eb
  have sY:=sY.trans q4
  clear q4 s3 sem eem el
  walk_at "rd"
  refine ⟨p,la,lx,_,_,bt',no,rfl,chY,gx no h1 h2,fun l HY5 s5 el=>?_⟩
  walk_at "rd"
  refine ⟨by show 1≤sizeLine; decide,fun em nem=>?_⟩
  have sem:=Same.new (o:=HO.lst [V.str "cloth"]) nem
  have eem:=upd_same (H:=HY5) (a:=em) (o:=HO.lst [V.str "cloth"])
  generalize upd HY5 em (HO.lst [V.str "cloth"])=HY6 at sem eem ⊢
  refine rd_neW (sem _ _ el) eem okc ?_
  have q4:=s5.trans sem
  have chY:=chY.mono q4
  have eb:=q4 _ _ eb
  have sY:=sY.trans q4
  clear q4 s5 sem eem el
  obtain ⟨dxY,fsY,dY,f1,f2,_⟩:=chY.ob
  walk_at "rd"
  refine rd_methv f1 (f2.no _ (by decide +kernel)) ?_
  walk_at "rd"
  refine ⟨p,la,lx,_,[],bt',_,rfl,chY,by show 0≤1000; decide,fun HY7 m7 ch7=>?_⟩
  have eb:=m7 _ _ eb fun zz=>(chY.apt _ zz).2.1 _ eb
  have sY:=same_but sY m7 nB
  walk_at "rd"
  exact ⟨p,la,lx,bk,_,_,n1,n2,_,c2,rfl,ch7,⟨pp,qb,eb,hp1.mono sY,hp2.mono sY⟩,d12,w1.str,w2.str,k1,k2,fun H' _=>z _⟩
end
end My
set_option Elab.async false
set_option linter.all false
set_option maxRecDepth 100000
namespace PySem.W.Fast
theorem tw786296904720221737:True:=⟨⟩
theorem tw10688108077443746893:True:=⟨⟩
theorem tw4694485905330794679:True:=⟨⟩
theorem tw17373293221111142527:True:=⟨⟩
theorem tw13312408789610982459:True:=⟨⟩
theorem tw17429032883192025111:True:=⟨⟩
theorem tw9806386444401853715:True:=⟨⟩
theorem tw17462250227543702191:True:=⟨⟩
theorem tw519493886060483022:True:=⟨⟩
theorem tw12240811475908688016:True:=⟨⟩
theorem tw1280906320185859807:True:=⟨⟩
theorem tw6866515319763352782:True:=⟨⟩
theorem tw17092608815566642366:True:=⟨⟩
theorem tw627104890417333895:True:=⟨⟩
theorem tw3536841403628354300:True:=⟨⟩
theorem tw1869748508092715194:True:=⟨⟩
theorem tw15038956735112032831:True:=⟨⟩
theorem tw8906589891482718589:True:=⟨⟩
theorem tw17069982759714005071:True:=⟨⟩
theorem tw3461324746479623818:True:=⟨⟩
theorem tw15559187068398579021:True:=⟨⟩
theorem tw9016686771356919635:True:=⟨⟩
theorem tw12840346624952303904:True:=⟨⟩
theorem tw6372458833422449299:True:=⟨⟩
theorem tw18337498569753547134:True:=⟨⟩
theorem tw3753638481619309619:True:=⟨⟩
theorem tw2607550548706989609:True:=⟨⟩
theorem tw16341569786174116952:True:=⟨⟩
theorem tw13133602073995171169:True:=⟨⟩
theorem tw17217256192345429280:True:=⟨⟩
theorem tw3112326173302158165:True:=⟨⟩
theorem tw5321229692219557536:True:=⟨⟩
theorem tw11929617640946224572:True:=⟨⟩
theorem tw11911518222759177579:True:=⟨⟩
theorem tw4763911181144422903:True:=⟨⟩
theorem tw11777739340660653304:True:=⟨⟩
theorem tw8248667938692454034:True:=⟨⟩
theorem tw5106274850715459682:True:=⟨⟩
theorem tw11270800922093413076:True:=⟨⟩
theorem tw13664386021663969832:True:=⟨⟩
theorem tw9046304251602186207:True:=⟨⟩
theorem tw116567230476652521:True:=⟨⟩
theorem tw1236073733820045218:True:=⟨⟩
theorem tw15191773005840367412:True:=⟨⟩
theorem tw14663049436719194101:True:=⟨⟩
theorem tw16341183129333298059:True:=⟨⟩
theorem tw1322225895717703601:True:=⟨⟩
theorem tw9530228753165104404:True:=⟨⟩
theorem tw308519632233431612:True:=⟨⟩
theorem tw14845666526805140572:True:=⟨⟩
theorem tw6495290385981346681:True:=⟨⟩
theorem tw8021424547101026380:True:=⟨⟩
theorem tw6719673094365969908:True:=⟨⟩
theorem tw9056871710813925671:True:=⟨⟩
theorem tw12987052951222488948:True:=⟨⟩
theorem tw8466737457911880060:True:=⟨⟩
theorem tw13487070377481845671:True:=⟨⟩
theorem tw7672457245413631208:True:=⟨⟩
theorem tw6636734142440115511:True:=⟨⟩
theorem tw6616359160616636967:True:=⟨⟩
theorem tw1234682081990557545:True:=⟨⟩
theorem tw12023307397072246486:True:=⟨⟩
theorem tw1412562040105225289:True:=⟨⟩
theorem tw17539508262027988266:True:=⟨⟩
theorem tw13156652138411257633:True:=⟨⟩
theorem tw5676580409876193324:True:=⟨⟩
theorem tw13354591694158488068:True:=⟨⟩
theorem tw10844544367552552627:True:=⟨⟩
theorem tw16200688959828484882:True:=⟨⟩
theorem tw9639386256666889769:True:=⟨⟩
theorem tw6072697136166478415:True:=⟨⟩
theorem tw5327344091263128461:True:=⟨⟩
theorem tw8686442617948507568:True:=⟨⟩
theorem tw13045542765264924098:True:=⟨⟩
theorem tw12612255166948532177:True:=⟨⟩
theorem tw18262020335967969266:True:=⟨⟩
theorem tw5563823263875595470:True:=⟨⟩
theorem tw8439366192639933330:True:=⟨⟩
theorem tw13628963909778903842:True:=⟨⟩
theorem tw4086695377585937968:True:=⟨⟩
theorem tw10538396831449963934:True:=⟨⟩
theorem tw4312419180744032211:True:=⟨⟩
theorem tw9978855944872656768:True:=⟨⟩
theorem tw4845431966666926187:True:=⟨⟩
theorem tw8531163332064381478:True:=⟨⟩
theorem tw14904334371185332002:True:=⟨⟩
theorem tw9672273857825389898:True:=⟨⟩
theorem tw6722110143253825059:True:=⟨⟩
theorem tw6306610586446314830:True:=⟨⟩
theorem tw10923442697963457130:True:=⟨⟩
theorem tw7811786135207582339:True:=⟨⟩
theorem tw4321899903861953994:True:=⟨⟩
theorem tw13167258720022009051:True:=⟨⟩
theorem tw11485102965903396290:True:=⟨⟩
theorem tw7185751851320442033:True:=⟨⟩
theorem tw16776490517923160049:True:=⟨⟩
theorem tw6528532706681811504:True:=⟨⟩
theorem tw14210284231793334988:True:=⟨⟩
theorem tw17690425429696778382:True:=⟨⟩
theorem tw110006802385929303:True:=⟨⟩
theorem tw10544731665472382549:True:=⟨⟩
theorem tw16579531542543631494:True:=⟨⟩
theorem tw3198245856792368583:True:=⟨⟩
theorem tw13662425735306114712:True:=⟨⟩
theorem tw4407746679471990069:True:=⟨⟩
theorem tw11225103776580925315:True:=⟨⟩
theorem tw14466419752805900096:True:=⟨⟩
theorem tw10045839236663572758:True:=⟨⟩
theorem tw2503675665867921976:True:=⟨⟩
theorem tw12557058795091914800:True:=⟨⟩
theorem tw15108586012422079905:True:=⟨⟩
theorem tw8729475590122808151:True:=⟨⟩
theorem tw4448131456252077246:True:=⟨⟩
theorem tw4745067324560223503:True:=⟨⟩
theorem tw17988548808263307522:True:=⟨⟩
theorem tw14456993950988506274:True:=⟨⟩
theorem tw1163146356569179201:True:=⟨⟩
theorem tw150677793722130299:True:=⟨⟩
theorem tw14866009178087652572:True:=⟨⟩
theorem tw11770849956799903779:True:=⟨⟩
theorem tw4324998472795227497:True:=⟨⟩
theorem tw999508785878431482:True:=⟨⟩
theorem tw11027415716869650692:True:=⟨⟩
theorem tw7961729608390204468:True:=⟨⟩
theorem tw7310036224939965412:True:=⟨⟩
theorem tw16474155638834922669:True:=⟨⟩
theorem tw16806551988686394918:True:=⟨⟩
theorem tw12713043795431821851:True:=⟨⟩
theorem tw10450250097362313762:True:=⟨⟩
theorem tw10928611803409508063:True:=⟨⟩
theorem tw1306306841506657560:True:=⟨⟩
theorem tw14117290417728857074:True:=⟨⟩
theorem tw8533473384610557421:True:=⟨⟩
theorem tw11060053396745482074:True:=⟨⟩
theorem tw10562994610537502162:True:=⟨⟩
theorem tw11832317061855108688:True:=⟨⟩
theorem tw11032191346264735862:True:=⟨⟩
theorem tw6202028570413500414:True:=⟨⟩
theorem tw6406672039510020743:True:=⟨⟩
theorem tw3298762378354976707:True:=⟨⟩
theorem tw4824151335343863147:True:=⟨⟩
theorem tw16609226727159779757:True:=⟨⟩
theorem tw15810976215496457986:True:=⟨⟩
theorem tw12807098220544841416:True:=⟨⟩
theorem tw5920709802345430420:True:=⟨⟩
theorem tw10202145328996744257:True:=⟨⟩
theorem tw4735898936350049919:True:=⟨⟩
theorem tw15088044787926647389:True:=⟨⟩
theorem tw13753547644626141478:True:=⟨⟩
theorem tw15654319352843921828:True:=⟨⟩
theorem tw735968168159155339:True:=⟨⟩
theorem tw9700225576757037985:True:=⟨⟩
theorem tw12428531220339997493:True:=⟨⟩
theorem tw11583283406012989922:True:=⟨⟩
theorem tw1731996238584643336:True:=⟨⟩
theorem tw7479816980618392603:True:=⟨⟩
theorem tw11463234876888890309:True:=⟨⟩
theorem tw16054713777387789805:True:=⟨⟩
theorem tw4807635577228436025:True:=⟨⟩
theorem tw9288486314393821316:True:=⟨⟩
theorem tw13533913769679037975:True:=⟨⟩
theorem tw17519152624430989370:True:=⟨⟩
theorem tw673012908751307190:True:=⟨⟩
theorem tw4347753595222069121:True:=⟨⟩
theorem tw15704721487956555567:True:=⟨⟩
theorem tw12987770150228181639:True:=⟨⟩
theorem tw13508431298985614983:True:=⟨⟩
theorem tw6420904265785483383:True:=⟨⟩
theorem tw4601374679456540601:True:=⟨⟩
theorem tw6746711960754681413:True:=⟨⟩
theorem tw7234877951562761698:True:=⟨⟩
theorem tw6854621875149722583:True:=⟨⟩
theorem tw4613235561511156258:True:=⟨⟩
theorem tw7008917365557936829:True:=⟨⟩
theorem tw4046132206605457492:True:=⟨⟩
theorem tw3233838162709794967:True:=⟨⟩
theorem tw6673593736035933507:True:=⟨⟩
theorem tw14282895578779290328:True:=⟨⟩
theorem tw17384146586234232172:True:=⟨⟩
theorem tw1889595208819960635:True:=⟨⟩
theorem tw6422079057962343358:True:=⟨⟩
theorem tw9435498394220176550:True:=⟨⟩
theorem tw4984459602655767926:True:=⟨⟩
theorem tw1881562327849650369:True:=⟨⟩
theorem tw10986478076394992199:True:=⟨⟩
theorem tw11800251166785113602:True:=⟨⟩
theorem tw13756260888327813734:True:=⟨⟩
theorem tw12352248694540352183:True:=⟨⟩
theorem tw14392579369726810063:True:=⟨⟩
theorem tw11336233685950516953:True:=⟨⟩
theorem tw874064497674983441:True:=⟨⟩
theorem tw2273818583835600668:True:=⟨⟩
theorem tw17026552554231372940:True:=⟨⟩
theorem tw9400492553383504090:True:=⟨⟩
theorem tw12470469015357857851:True:=⟨⟩
theorem tw853113226289267210:True:=⟨⟩
theorem tw14575515381880775582:True:=⟨⟩
theorem tw7336913056800117163:True:=⟨⟩
theorem tw2403902328819349956:True:=⟨⟩
theorem tw16281142026535684771:True:=⟨⟩
theorem tw18311470317551837930:True:=⟨⟩
theorem tw9322566946187936448:True:=⟨⟩
theorem tw9246683674122715061:True:=⟨⟩
theorem tw13713731206740039662:True:=⟨⟩
theorem tw1979617216248629829:True:=⟨⟩
theorem tw4452911702937965530:True:=⟨⟩
theorem tw8618413737210324873:True:=⟨⟩
theorem tw2613246182040829680:True:=⟨⟩
theorem tw5348824078187766378:True:=⟨⟩
theorem tw17258535469260916445:True:=⟨⟩
theorem tw1737723044917323226:True:=⟨⟩
theorem tw953994688239701546:True:=⟨⟩
theorem tw13983958419634456526:True:=⟨⟩
theorem tw12575962573420073338:True:=⟨⟩
theorem tw3199830051790988322:True:=⟨⟩
theorem tw11990137751884960538:True:=⟨⟩
theorem tw6598203799475187372:True:=⟨⟩
theorem tw667015490792176822:True:=⟨⟩
theorem tw17360202186796711404:True:=⟨⟩
theorem tw1485149908417848611:True:=⟨⟩
theorem tw2462911042197800586:True:=⟨⟩
theorem tw7255175176976312011:True:=⟨⟩
theorem tw10115830455320178896:True:=⟨⟩
theorem tw17199506242471991643:True:=⟨⟩
theorem tw8817819521850655217:True:=⟨⟩
theorem tw1325442299450066722:True:=⟨⟩
theorem tw1302716735669498573:True:=⟨⟩
theorem tw12317552756984958944:True:=⟨⟩
theorem tw7041454585433020523:True:=⟨⟩
theorem tw17957525407308865306:True:=⟨⟩
theorem tw5418861714613912445:True:=⟨⟩
theorem tw5545740608648503073:True:=⟨⟩
theorem tw17893141335723531646:True:=⟨⟩
theorem tw1493892175546047402:True:=⟨⟩
theorem tw12330051043371345400:True:=⟨⟩
theorem tw378257040542563743:True:=⟨⟩
theorem tw14663708681590981854:True:=⟨⟩
theorem tw10083627454524926416:True:=⟨⟩
theorem tw8303812581614520972:True:=⟨⟩
theorem tw11245035168554414563:True:=⟨⟩
theorem tw16827679635740571644:True:=⟨⟩
theorem tw7300935194564838179:True:=⟨⟩
theorem tw9221058117291368501:True:=⟨⟩
theorem tw4801272347105658282:True:=⟨⟩
theorem tw16644197410562150537:True:=⟨⟩
theorem tw12203136885254698138:True:=⟨⟩
theorem tw10323964412377449694:True:=⟨⟩
theorem tw10263159276816785611:True:=⟨⟩
theorem tw18046772324209354304:True:=⟨⟩
theorem tw17194427758880176582:True:=⟨⟩
theorem tw14025389077774077452:True:=⟨⟩
theorem tw9916929188596573538:True:=⟨⟩
theorem tw4531209601137334565:True:=⟨⟩
theorem tw1069328290651981226:True:=⟨⟩
theorem tw5049397503628314475:True:=⟨⟩
theorem tw4548837875971183682:True:=⟨⟩
theorem tw5564570881069911353:True:=⟨⟩
theorem tw9880415157941423928:True:=⟨⟩
theorem tw4464687872381106874:True:=⟨⟩
theorem tw2777281632698614094:True:=⟨⟩
theorem tw3456528106785152832:True:=⟨⟩
theorem tw2537585995558910109:True:=⟨⟩
theorem tw14933063229285541606:True:=⟨⟩
theorem tw3815236425829961727:True:=⟨⟩
theorem tw1103065175793085105:True:=⟨⟩
theorem tw2795157253909301887:True:=⟨⟩
theorem tw5370253289373149644:True:=⟨⟩
theorem tw16368741203945206789:True:=⟨⟩
theorem tw10285814791748145667:True:=⟨⟩
theorem tw11084654366584038872:True:=⟨⟩
theorem tw902785539138498922:True:=⟨⟩
theorem tw7629435419935168542:True:=⟨⟩
theorem tw14137047695330094391:True:=⟨⟩
theorem tw5218389244386329737:True:=⟨⟩
theorem tw4329120853618923732:True:=⟨⟩
theorem tw11250326387115534909:True:=⟨⟩
theorem tw199135981409059089:True:=⟨⟩
theorem tw15992505054928997445:True:=⟨⟩
theorem tw17621579664274826286:True:=⟨⟩
theorem tw7039645115791137405:True:=⟨⟩
theorem tw17467354547890187377:True:=⟨⟩
theorem tw3574727714007576083:True:=⟨⟩
theorem tw5013550187429756618:True:=⟨⟩
theorem tw17197008698253908279:True:=⟨⟩
theorem tw12245474080879568047:True:=⟨⟩
theorem tw15992245851440959371:True:=⟨⟩
theorem tw14307891506020476932:True:=⟨⟩
theorem tw3975896881137072929:True:=⟨⟩
theorem tw3048464530352894516:True:=⟨⟩
theorem tw764885617782036320:True:=⟨⟩
theorem tw321599374353361909:True:=⟨⟩
theorem tw3792795849313511336:True:=⟨⟩
theorem tw7227160561894312737:True:=⟨⟩
theorem tw4427659374259946814:True:=⟨⟩
theorem tw3363383531359124:True:=⟨⟩
theorem tw9413560017993987867:True:=⟨⟩
theorem tw12631215563589954151:True:=⟨⟩
theorem tw17820442305109131045:True:=⟨⟩
theorem tw15665892784332546923:True:=⟨⟩
theorem tw1628536554662266514:True:=⟨⟩
theorem tw2773923881351530341:True:=⟨⟩
theorem tw2163931802210645942:True:=⟨⟩
theorem tw11183914766515524150:True:=⟨⟩
theorem tw10734368215236910385:True:=⟨⟩
theorem tw12577234296887410032:True:=⟨⟩
theorem tw5163645294015228360:True:=⟨⟩
theorem tw9375104997346001883:True:=⟨⟩
theorem tw275683865038419876:True:=⟨⟩
theorem tw10140739833337270195:True:=⟨⟩
theorem tw8471517674206053203:True:=⟨⟩
theorem tw15655216141791668669:True:=⟨⟩
theorem tw16248993744991254807:True:=⟨⟩
theorem tw7910900726980331224:True:=⟨⟩
theorem tw13651691499566431624:True:=⟨⟩
theorem tw16359294211259523476:True:=⟨⟩
theorem tw15917049146717582262:True:=⟨⟩
theorem tw17325484138342422153:True:=⟨⟩
theorem tw1171453125693482197:True:=⟨⟩
theorem tw1424612556072161453:True:=⟨⟩
theorem tw15555459113576354611:True:=⟨⟩
theorem tw13276294089135252577:True:=⟨⟩
theorem tw5397832216006561318:True:=⟨⟩
theorem tw9452743534843668541:True:=⟨⟩
theorem tw11646587668744012833:True:=⟨⟩
theorem tw3204945037972064699:True:=⟨⟩
theorem tw418467234868962629:True:=⟨⟩
theorem tw17212637193947107660:True:=⟨⟩
theorem tw18404190754566741942:True:=⟨⟩
theorem tw17087032528597065354:True:=⟨⟩
theorem tw2741192924432182972:True:=⟨⟩
theorem tw16909796310010473111:True:=⟨⟩
theorem tw6462352969621989374:True:=⟨⟩
theorem tw10160172900462005649:True:=⟨⟩
theorem tw2304912583079153674:True:=⟨⟩
theorem tw12952711879073177575:True:=⟨⟩
theorem tw17647902779394230370:True:=⟨⟩
theorem tw8798407648761201527:True:=⟨⟩
theorem tw15293305151014759141:True:=⟨⟩
theorem tw17303392573338807175:True:=⟨⟩
theorem tw14198771198788610376:True:=⟨⟩
theorem tw1055130205630056234:True:=⟨⟩
theorem tw4430417875726635140:True:=⟨⟩
theorem tw1155133889300161767:True:=⟨⟩
theorem tw4718431191718080855:True:=⟨⟩
theorem tw8122105511188728467:True:=⟨⟩
theorem tw16940289034398646393:True:=⟨⟩
theorem tw17630061154865978429:True:=⟨⟩
theorem tw18410515340142582455:True:=⟨⟩
theorem tw10205515604224743356:True:=⟨⟩
theorem tw5264940420186114731:True:=⟨⟩
theorem tw9298861818913932351:True:=⟨⟩
theorem tw11084922080476160480:True:=⟨⟩
theorem tw14998361269691655591:True:=⟨⟩
theorem tw542812944858579207:True:=⟨⟩
theorem tw13812274990315415478:True:=⟨⟩
theorem tw4814381645907952040:True:=⟨⟩
theorem tw16635958699169124137:True:=⟨⟩
theorem tw5074484078121210522:True:=⟨⟩
theorem tw739707380885930737:True:=⟨⟩
theorem tw8510970271181290139:True:=⟨⟩
theorem tw15127926614490696594:True:=⟨⟩
theorem tw13437764466808641543:True:=⟨⟩
theorem tw13541243473782429743:True:=⟨⟩
theorem tw9848784965853288543:True:=⟨⟩
theorem tw16733149191417507105:True:=⟨⟩
theorem tw15218484381793412686:True:=⟨⟩
theorem tw11170196116163995699:True:=⟨⟩
theorem tw7263665944315157703:True:=⟨⟩
theorem tw91544848834807944:True:=⟨⟩
theorem tw6512588237313618982:True:=⟨⟩
theorem tw4864165317847051098:True:=⟨⟩
theorem tw2701833193907818136:True:=⟨⟩
theorem tw6107800628584266845:True:=⟨⟩
theorem tw5122051240069364906:True:=⟨⟩
theorem tw6087859952300132149:True:=⟨⟩
theorem tw14727676095374849956:True:=⟨⟩
theorem tw4086701193653720445:True:=⟨⟩
theorem tw8632803773122016948:True:=⟨⟩
theorem tw17361362353807391285:True:=⟨⟩
theorem tw16578472482065373686:True:=⟨⟩
theorem tw13831585435221948667:True:=⟨⟩
theorem tw7309014924078104667:True:=⟨⟩
theorem tw12685707341525532715:True:=⟨⟩
theorem tw4810260039441889762:True:=⟨⟩
theorem tw2707431258713785658:True:=⟨⟩
theorem tw4187430513071582002:True:=⟨⟩
theorem tw1650987489147826748:True:=⟨⟩
theorem tw16404483281087612979:True:=⟨⟩
theorem tw3082322462118200866:True:=⟨⟩
theorem tw8384577238875972677:True:=⟨⟩
theorem tw5749223552282840089:True:=⟨⟩
theorem tw18176748008975858821:True:=⟨⟩
theorem tw5515824769147723122:True:=⟨⟩
theorem tw11652666356113934937:True:=⟨⟩
theorem tw4696442837431700898:True:=⟨⟩
theorem tw6317005633462488919:True:=⟨⟩
theorem tw13638529949871238141:True:=⟨⟩
theorem tw3411840024690183480:True:=⟨⟩
theorem tw12823533243761471457:True:=⟨⟩
theorem tw2695816177708279301:True:=⟨⟩
theorem tw12136149406685473442:True:=⟨⟩
theorem tw6509292218449888147:True:=⟨⟩
theorem tw16302655913986340619:True:=⟨⟩
theorem tw9978650606020173772:True:=⟨⟩
theorem tw366413151210110119:True:=⟨⟩
theorem tw9252975517589898737:True:=⟨⟩
theorem tw11103188894173131246:True:=⟨⟩
theorem tw6314446075753824435:True:=⟨⟩
theorem tw14543754881359988072:True:=⟨⟩
theorem tw18113639606818155516:True:=⟨⟩
theorem tw14123233392203233026:True:=⟨⟩
theorem tw9867057158323211222:True:=⟨⟩
theorem tw11555037562212570472:True:=⟨⟩
theorem tw4443452727260816651:True:=⟨⟩
theorem tw3389907604236002955:True:=⟨⟩
theorem tw15470649359875052226:True:=⟨⟩
theorem tw2593114502123502417:True:=⟨⟩
theorem tw9524511362723501675:True:=⟨⟩
theorem tw7766179266552736943:True:=⟨⟩
theorem tw10934148666596706613:True:=⟨⟩
theorem tw10668372745375033357:True:=⟨⟩
theorem tw16563264485011639981:True:=⟨⟩
theorem tw6930058377189066228:True:=⟨⟩
theorem tw8728890423305033599:True:=⟨⟩
theorem tw2155387216622686886:True:=⟨⟩
theorem tw9333445099800614034:True:=⟨⟩
theorem tw11266422302458251579:True:=⟨⟩
theorem tw15210656041699738475:True:=⟨⟩
theorem tw1357986058854281340:True:=⟨⟩
theorem tw5976110428328720563:True:=⟨⟩
theorem tw6613294420023644939:True:=⟨⟩
theorem tw13624202555520123008:True:=⟨⟩
theorem tw4395722198929165253:True:=⟨⟩
theorem tw1544081065165733393:True:=⟨⟩
theorem tw18187420857096367347:True:=⟨⟩
theorem tw9057303222310683513:True:=⟨⟩
theorem tw11680062307018835115:True:=⟨⟩
theorem tw2072647330333727228:True:=⟨⟩
theorem tw1333234832328907208:True:=⟨⟩
theorem tw762748492134271744:True:=⟨⟩
theorem tw7843593196715785664:True:=⟨⟩
theorem tw2008553746500446773:True:=⟨⟩
theorem tw15096637366214306516:True:=⟨⟩
theorem tw1145108577287868410:True:=⟨⟩
theorem tw15631955485581683189:True:=⟨⟩
theorem tw7641309420298434960:True:=⟨⟩
theorem tw18094137578149356384:True:=⟨⟩
theorem tw12519946350818042820:True:=⟨⟩
theorem tw13494596185674358078:True:=⟨⟩
theorem tw250512710158619216:True:=⟨⟩
theorem tw14525494307590433533:True:=⟨⟩
theorem tw2241663654849449691:True:=⟨⟩
theorem tw10931101051503628097:True:=⟨⟩
theorem tw8364689440889334831:True:=⟨⟩
theorem tw7473234628354544290:True:=⟨⟩
theorem tw11496638515181394306:True:=⟨⟩
theorem tw6141233301230888368:True:=⟨⟩
theorem tw11580997627603418805:True:=⟨⟩
theorem tw4357768868117462949:True:=⟨⟩
theorem tw14115328784150579899:True:=⟨⟩
theorem tw17320389518892566244:True:=⟨⟩
theorem tw3974273964994440477:True:=⟨⟩
theorem tw16343000764065483135:True:=⟨⟩
theorem tw6407689784289467250:True:=⟨⟩
theorem tw17032862533164017206:True:=⟨⟩
theorem tw6396057393637195168:True:=⟨⟩
theorem tw899163553611436331:True:=⟨⟩
theorem tw15935621927954771286:True:=⟨⟩
theorem tw453819262462684198:True:=⟨⟩
theorem tw3410892090741791971:True:=⟨⟩
theorem tw13860119820937657956:True:=⟨⟩
theorem tw10135990633202252648:True:=⟨⟩
theorem tw10900669077080434805:True:=⟨⟩
theorem tw17990519792967613419:True:=⟨⟩
theorem tw14119702681322964551:True:=⟨⟩
theorem tw12077545711039759536:True:=⟨⟩
theorem tw17156465064354414466:True:=⟨⟩
theorem tw7291627246584033745:True:=⟨⟩
theorem tw985805650973588650:True:=⟨⟩
theorem tw2095870399948696160:True:=⟨⟩
theorem tw6733148251192111220:True:=⟨⟩
theorem tw17162485808622491836:True:=⟨⟩
theorem tw16817085699603542018:True:=⟨⟩
theorem tw14272710472769743007:True:=⟨⟩
theorem tw13287445434598875709:True:=⟨⟩
theorem tw11405767457081841795:True:=⟨⟩
theorem tw3263734896564452455:True:=⟨⟩
theorem tw9718623680442732503:True:=⟨⟩
theorem tw17814938584246424115:True:=⟨⟩
theorem tw14621572554795692741:True:=⟨⟩
theorem tw714321848836045522:True:=⟨⟩
theorem tw5580242566285665740:True:=⟨⟩
theorem tw15506975068799933885:True:=⟨⟩
theorem tw8734891666894456362:True:=⟨⟩
theorem tw13111100951961393178:True:=⟨⟩
theorem tw8797542462722080570:True:=⟨⟩
theorem tw8457190275877082819:True:=⟨⟩
theorem tw11934681009113490425:True:=⟨⟩
theorem tw15129168018108732733:True:=⟨⟩
theorem tw3709042775384352647:True:=⟨⟩
theorem tw11921163277535639236:True:=⟨⟩
theorem tw12526793058671164652:True:=⟨⟩
theorem tw10997309645702682960:True:=⟨⟩
theorem tw7607830256879943794:True:=⟨⟩
theorem tw4292306907529074991:True:=⟨⟩
theorem tw128626778642616315:True:=⟨⟩
theorem tw11214757484855438031:True:=⟨⟩
theorem tw13121110862388247593:True:=⟨⟩
theorem tw16277791724294408508:True:=⟨⟩
theorem tw9768223293063614029:True:=⟨⟩
theorem tw15807078520986943733:True:=⟨⟩
theorem tw4296059123834058870:True:=⟨⟩
theorem tw1890628492412369686:True:=⟨⟩
theorem tw4613974302297641699:True:=⟨⟩
theorem tw6250480074554706082:True:=⟨⟩
theorem tw13592851322674539092:True:=⟨⟩
theorem tw3685487334008150732:True:=⟨⟩
theorem tw14151500990957660371:True:=⟨⟩
theorem tw4367156783535655821:True:=⟨⟩
theorem tw16321219094836113269:True:=⟨⟩
theorem tw1566167510761815267:True:=⟨⟩
theorem tw17470005567414644977:True:=⟨⟩
theorem tw10382098411616452567:True:=⟨⟩
theorem tw8529820822319586427:True:=⟨⟩
theorem tw12588544246585137857:True:=⟨⟩
theorem tw15394582505092182225:True:=⟨⟩
theorem tw12594843154085846908:True:=⟨⟩
theorem tw6020743842318053183:True:=⟨⟩
theorem tw5823521361824134710:True:=⟨⟩
theorem tw17755077136377830206:True:=⟨⟩
theorem tw3676510991533766191:True:=⟨⟩
theorem tw2079426129658636378:True:=⟨⟩
theorem tw18026015191746600119:True:=⟨⟩
theorem tw6582272422375899134:True:=⟨⟩
theorem tw3453214496754676025:True:=⟨⟩
theorem tw18349428240156904109:True:=⟨⟩
theorem tw8166431528183939404:True:=⟨⟩
theorem tw2717848253352547883:True:=⟨⟩
theorem tw2907379784742201298:True:=⟨⟩
theorem tw7005842015420545191:True:=⟨⟩
theorem tw4659894021087146998:True:=⟨⟩
theorem tw14451011329715641601:True:=⟨⟩
theorem tw17727413329861248620:True:=⟨⟩
theorem tw15062591906938887125:True:=⟨⟩
theorem tw4567381450961721996:True:=⟨⟩
theorem tw18356972907488180487:True:=⟨⟩
theorem tw12793341148017282341:True:=⟨⟩
theorem tw5408046542994694353:True:=⟨⟩
theorem tw12960073884319750494:True:=⟨⟩
theorem tw9724804990281056407:True:=⟨⟩
theorem tw3625759548448831380:True:=⟨⟩
theorem tw4413511629917182682:True:=⟨⟩
theorem tw7908861375166889495:True:=⟨⟩
theorem tw17414979521248726725:True:=⟨⟩
theorem tw17234473568672492777:True:=⟨⟩
theorem tw18438092450480209245:True:=⟨⟩
theorem tw10031748459884255945:True:=⟨⟩
theorem tw582162072343445514:True:=⟨⟩
theorem tw13772406521472859703:True:=⟨⟩
theorem tw11332817920747458318:True:=⟨⟩
theorem tw10586805781160938027:True:=⟨⟩
theorem tw200202778672486247:True:=⟨⟩
theorem tw10058574755858102642:True:=⟨⟩
theorem tw13497603210968825784:True:=⟨⟩
theorem tw11840230437016834287:True:=⟨⟩
theorem tw5758996195964480119:True:=⟨⟩
theorem tw17266794371940602874:True:=⟨⟩
theorem tw11782454600640715990:True:=⟨⟩
theorem tw11741064135604317038:True:=⟨⟩
theorem tw9410040027947606805:True:=⟨⟩
theorem tw10348204920791804233:True:=⟨⟩
theorem tw9998268752682402138:True:=⟨⟩
theorem tw10271975106629187954:True:=⟨⟩
theorem tw6697490128561550496:True:=⟨⟩
theorem tw6304679689118281619:True:=⟨⟩
theorem tw12962152906031437463:True:=⟨⟩
theorem tw15531051485841754889:True:=⟨⟩
theorem tw17835582949956632978:True:=⟨⟩
theorem tw2424350331920041075:True:=⟨⟩
theorem tw7571193788675234764:True:=⟨⟩
theorem tw16210692751659336242:True:=⟨⟩
theorem tw6847117847373850086:True:=⟨⟩
theorem tw16824096269555020148:True:=⟨⟩
theorem tw9552900327519708590:True:=⟨⟩
theorem tw11028778366620354119:True:=⟨⟩
theorem tw2367652135885615155:True:=⟨⟩
theorem tw17852068882629920245:True:=⟨⟩
theorem tw3484948381361456480:True:=⟨⟩
theorem tw9516392754674893675:True:=⟨⟩
theorem tw15201900813697311461:True:=⟨⟩
theorem tw15289327810387229955:True:=⟨⟩
theorem tw7974859243401120862:True:=⟨⟩
theorem tw7869911170886819841:True:=⟨⟩
theorem tw3673705864096193865:True:=⟨⟩
theorem tw15016354638731413790:True:=⟨⟩
theorem tw8075481367328505596:True:=⟨⟩
theorem tw18218394796232439727:True:=⟨⟩
theorem tw11726486483812007233:True:=⟨⟩
theorem tw9398954584929535352:True:=⟨⟩
theorem tw8191452899148456741:True:=⟨⟩
theorem tw16595726438827579648:True:=⟨⟩
theorem tw9765233727135088287:True:=⟨⟩
theorem tw15781075790063664079:True:=⟨⟩
theorem tw14234549582477735143:True:=⟨⟩
theorem tw14017799014765711908:True:=⟨⟩
theorem tw8639716376444315343:True:=⟨⟩
theorem tw1320365146431662837:True:=⟨⟩
theorem tw9141058135748632681:True:=⟨⟩
theorem tw2266781386921013207:True:=⟨⟩
theorem tw15894436702724576311:True:=⟨⟩
theorem tw12778088710750218520:True:=⟨⟩
theorem tw16717750299054291297:True:=⟨⟩
theorem tw4624971927771624945:True:=⟨⟩
theorem tw11608664978748143038:True:=⟨⟩
theorem tw660604653313148827:True:=⟨⟩
theorem tw10313496345898523330:True:=⟨⟩
theorem tw16539666828772204256:True:=⟨⟩
theorem tw7984870412698574331:True:=⟨⟩
theorem tw9272369475370938325:True:=⟨⟩
theorem tw11635160228914573039:True:=⟨⟩
theorem tw16819761284193848380:True:=⟨⟩
theorem tw322714024843125679:True:=⟨⟩
theorem tw4771469675272370585:True:=⟨⟩
theorem tw16255061052139363674:True:=⟨⟩
theorem tw9843886237114300940:True:=⟨⟩
theorem tw12736477367025140293:True:=⟨⟩
theorem tw3449444850271048061:True:=⟨⟩
theorem tw3436248236407476561:True:=⟨⟩
theorem tw7438479859393891621:True:=⟨⟩
theorem tw12804575548437207727:True:=⟨⟩
theorem tw16627445797769976889:True:=⟨⟩
theorem tw6989927767347010276:True:=⟨⟩
theorem tw11385966354693394876:True:=⟨⟩
theorem tw9119680479845119746:True:=⟨⟩
theorem tw15238083905503413784:True:=⟨⟩
theorem tw5050134019785168297:True:=⟨⟩
theorem tw3217050735953627136:True:=⟨⟩
theorem tw683516469106411964:True:=⟨⟩
theorem tw11446529428175025597:True:=⟨⟩
end PySem.W.Fast
open PySem PySem.W PyProof.Rows
set_option maxRecDepth 100000 in
set_option maxHeartbeats 0 in
theorem PySem.Challenge.cw_sashiko_k51_chest_deeds_refused_holds : PySem.Challenge.rw_sashiko_k51_chest_deeds_refused.Holds := by
 w_on; o_law; k_head; (case hw=>w_witness2)
 k_fill
 refine L2.walk_ofK (l:=PySem.Challenge.rw_sashiko_k51_chest_deeds_refused) (n:=63) (k:=16) (x:="_law_script") (CX:=L2.CX0) (sp:=My.sp_law) rfl (by decide) rfl ⟨rfl,by decide,by decide⟩ (fun w h Y=>PySem.W.kIn_of Y) ?F ?S ?C
 case F =>
  intro w mg fa h KX G hmg
  have T:∃ t:My.Ad,My.Txt (L2.KOf KX) mg t:=by
   dsimp only [L2.KOf]
   refine' My.txt_mk KX G ?aC_Board ?ga_Board ?rd_Board ?aC_Chest ?pg_Chest ?hd_Chest ?po_Chest ?sa_Chest ?mk_Chest ?kc_Chest ?naC_cloths ?naC_ahead_of_deeds ?naC_behind_undone ?aC_Cloth ?pg_Cloth ?hd_Cloth ?po_Cloth ?sa_Cloth ?mk_Cloth ?kc_Cloth ?na_columns_count ?na_rows_count ?na_col_bits ?na_row_bits ?na_first_colour ?F_UnfitInit ?oi_Unfit ?of_Unfit ?ok_Unfit ?os_Unfit ?om_Unfit ?ox_Unfit ?a_isnumber ?F_isnumber ?a_isbelow ?F_isbelow ?a_isbit ?F_isbit ?a_allbits ?F_allbits ?a_isside ?F_isside ?a_needcell ?F_needcell ?fc_BoardInit ?F_BoardInit ?a_ClothInit ?i_ClothInit ?F_ClothInit ?a_Clothshade ?i_Clothshade ?F_Clothshade ?a_Clothwide ?i_Clothwide ?F_Clothwide ?a_Clothtall ?i_Clothtall ?F_Clothtall ?a_Clothcols ?i_Clothcols ?F_Clothcols ?a_Clothrows ?i_Clothrows ?F_Clothrows ?a_Clothbitsalong ?i_Clothbitsalong ?F_Clothbitsalong ?a_Clothbit ?i_Clothbit ?F_Clothbit ?a_Clothcolour ?i_Clothcolour ?F_Clothcolour ?a_shifted ?F_shifted ?a_transposed ?F_transposed ?a_withbits ?F_withbits ?a_turned ?F_turned ?a_put ?F_put ?a_putsew ?a_cut ?F_cut ?a_cutsew ?a_partedup ?F_partedup ?a_parted ?F_parted ?a_sewnbeside ?F_sewnbeside ?a_sewntogether ?F_sewntogether ?a_isname ?F_isname ?a_ChestInit ?i_ChestInit ?F_ChestInit ?a_Chestnames ?i_Chestnames ?F_Chestnames ?a_Chestcloth ?i_Chestcloth ?F_Chestcloth ?a_Chestneedfree ?i_Chestneedfree ?F_Chestneedfree ?a_Chestbecome ?i_Chestbecome ?F_Chestbecome ?a_Chestbecomewith ?i_Chestbecomewith ?F_Chestbecomewith ?a_Chestlay ?i_Chestlay ?F_Chestlay ?a_Chestdrop ?i_Chestdrop ?F_Chestdrop ?a_Chestturn ?i_Chestturn ?F_Chestturn ?a_Chestput ?i_Chestput ?F_Chestput ?a_Chestcut ?i_Chestcut ?F_Chestcut ?a_Chestsew ?i_Chestsew ?F_Chestsew ?a_Chestpart ?i_Chestpart ?F_Chestpart ?a_Chestundo ?i_Chestundo ?F_Chestundo ?a_Chestredo ?i_Chestredo ?F_Chestredo ?a_Chestundoable ?i_Chestundoable ?F_Chestundoable ?a_Chestredoable ?i_Chestredoable ?F_Chestredoable ?a_Ldraws ?F_Ldraws ?a_Lnames ?F_Lnames ?a_Lbits ?F_Lbits ?a_Lrow ?F_Lrow ?a_Lkind ?F_Lkind ?a_Ldo ?F_Ldo ?a_Lsame ?F_Lsame ?a_Lclothkind ?F_Lclothkind ?a_Ltold ?F_Ltold ?a_Lbookfits ?F_Lbookfits ?a_Lbad ?F_Lbad ?a_law ?F_law ?aX_SewError ?aX_Unfit ?aX_BadSize ?aX_BadBit ?aX_NoCell ?aX_NoLine ?aX_BadName ?aX_Taken ?aX_NoCloth ?aX_NothingLeft ?bb ?bm ?bt ?nb ?nm ?nt ?ogs ?otk ?x_BadSize ?ga_BadSize ?gt_BadSize ?gc_BadSize ?go_BadSize ?gb_BadSize ?sb_BadSize ?sn_BadSize ?kt_BadSize_BadName ?kt_BadSize_Taken ?kt_BadSize_NoCloth ?kt_BadSize_NoLine ?kt_BadSize_BadBit ?kt_BadSize_BadSize ?kt_BadSize_NothingLeft ?kt_BadSize_Unfit ?kv_BadSize ?x_BadBit ?ga_BadBit ?gt_BadBit ?gc_BadBit ?go_BadBit ?gb_BadBit ?sb_BadBit ?sn_BadBit ?kt_BadBit_BadName ?kt_BadBit_Taken ?kt_BadBit_NoCloth ?kt_BadBit_NoLine ?kt_BadBit_BadBit ?kt_BadBit_BadSize ?kt_BadBit_NothingLeft ?kt_BadBit_Unfit ?kv_BadBit ?x_NoCell ?ga_NoCell ?gt_NoCell ?gc_NoCell ?go_NoCell ?gb_NoCell ?sb_NoCell ?x_NoLine ?ga_NoLine ?gt_NoLine ?gc_NoLine ?go_NoLine ?gb_NoLine ?sb_NoLine ?sn_NoLine ?kt_NoLine_BadName ?kt_NoLine_Taken ?kt_NoLine_NoCloth ?kt_NoLine_NoLine ?kt_NoLine_BadBit ?kt_NoLine_BadSize ?kt_NoLine_NothingLeft ?kt_NoLine_Unfit ?kv_NoLine ?x_BadName ?ga_BadName ?gt_BadName ?gc_BadName ?go_BadName ?gb_BadName ?sb_BadName ?sn_BadName ?kt_BadName_BadName ?kt_BadName_Taken ?kt_BadName_NoCloth ?kt_BadName_NoLine ?kt_BadName_BadBit ?kt_BadName_BadSize ?kt_BadName_NothingLeft ?kt_BadName_Unfit ?kv_BadName ?x_Taken ?ga_Taken ?gt_Taken ?gc_Taken ?go_Taken ?gb_Taken ?sb_Taken ?sn_Taken ?kt_Taken_BadName ?kt_Taken_Taken ?kt_Taken_NoCloth ?kt_Taken_NoLine ?kt_Taken_BadBit ?kt_Taken_BadSize ?kt_Taken_NothingLeft ?kt_Taken_Unfit ?kv_Taken ?x_NoCloth ?ga_NoCloth ?gt_NoCloth ?gc_NoCloth ?go_NoCloth ?gb_NoCloth ?sb_NoCloth ?sn_NoCloth ?kt_NoCloth_BadName ?kt_NoCloth_Taken ?kt_NoCloth_NoCloth ?kt_NoCloth_NoLine ?kt_NoCloth_BadBit ?kt_NoCloth_BadSize ?kt_NoCloth_NothingLeft ?kt_NoCloth_Unfit ?kv_NoCloth ?x_NothingLeft ?ga_NothingLeft ?gt_NothingLeft ?gc_NothingLeft ?go_NothingLeft ?gb_NothingLeft ?sb_NothingLeft ?sn_NothingLeft ?kt_NothingLeft_BadName ?kt_NothingLeft_Taken ?kt_NothingLeft_NoCloth ?kt_NothingLeft_NoLine ?kt_NothingLeft_BadBit ?kt_NothingLeft_BadSize ?kt_NothingLeft_NothingLeft ?kt_NothingLeft_Unfit ?kv_NothingLeft ?bg ?br ?ba ?nx_Unfit_at ?ga_Unfit ?gt_Unfit ?gc_Unfit ?go_Unfit ?gb_Unfit ?sb_Unfit ?sc_Unfit ?kt_Unfit_BadName ?kt_Unfit_Taken ?kt_Unfit_NoCloth ?kt_Unfit_NoLine ?kt_Unfit_BadBit ?kt_Unfit_BadSize ?kt_Unfit_NothingLeft ?kt_Unfit_Unfit ?v_LONGEST_SIDE ?v_LONGEST_NAME ?z_isinstance ?z_int ?z_bool ?z_all ?z_len ?z_tuple ?z_list ?z_range ?z_abs ?z_sum ?z_min ?z_str ?z_zip ?z_enumerate ?z_ValueError ?z_dict
   (case aC_Board | aC_Chest | aC_Cloth | aX_SewError | aX_Unfit | aX_BadSize | aX_BadBit | aX_NoCell | aX_NoLine | aX_BadName | aX_Taken | aX_NoCloth | aX_NothingLeft | ga_Board | rd_Board | pg_Chest | hd_Chest | po_Chest | sa_Chest | mk_Chest | kc_Chest | naC_cloths | naC_ahead_of_deeds | naC_behind_undone | pg_Cloth | hd_Cloth | po_Cloth | sa_Cloth | mk_Cloth | kc_Cloth | na_columns_count | na_rows_count | na_col_bits | na_row_bits | na_first_colour | oi_Unfit | of_Unfit | ok_Unfit | os_Unfit | om_Unfit | a_isnumber | a_isbelow | a_isbit | a_allbits | a_isside | a_needcell | fc_BoardInit | a_ClothInit | i_ClothInit | a_Clothshade | i_Clothshade | a_Clothwide | i_Clothwide | a_Clothtall | i_Clothtall | a_Clothcols | i_Clothcols | a_Clothrows | i_Clothrows | a_Clothbitsalong | i_Clothbitsalong | a_Clothbit | i_Clothbit | a_Clothcolour | i_Clothcolour | a_shifted | a_transposed | a_withbits | a_turned | a_put | a_putsew | a_cut | a_cutsew | a_partedup | a_parted | a_sewnbeside | a_sewntogether | a_isname | a_ChestInit | i_ChestInit | a_Chestnames | i_Chestnames | a_Chestcloth | i_Chestcloth | a_Chestneedfree | i_Chestneedfree | a_Chestbecome | i_Chestbecome | a_Chestbecomewith | i_Chestbecomewith | a_Chestlay | i_Chestlay | a_Chestdrop | i_Chestdrop | a_Chestturn | i_Chestturn | a_Chestput | i_Chestput | a_Chestcut | i_Chestcut | a_Chestsew | i_Chestsew | a_Chestpart | i_Chestpart | a_Chestundo | i_Chestundo | a_Chestredo | i_Chestredo | a_Chestundoable | i_Chestundoable | a_Chestredoable | i_Chestredoable | a_Ldraws | a_Lnames | a_Lbits | a_Lrow | a_Lkind | a_Ldo | a_Lsame | a_Lclothkind | a_Ltold | a_Lbookfits | a_Lbad | a_law | bb | bm | bt | nb | nm | nt | ogs | otk | ga_BadSize | gt_BadSize | gc_BadSize | go_BadSize | gb_BadSize | sb_BadSize | sn_BadSize | ga_BadBit | gt_BadBit | gc_BadBit | go_BadBit | gb_BadBit | sb_BadBit | sn_BadBit | ga_NoCell | gt_NoCell | gc_NoCell | go_NoCell | gb_NoCell | sb_NoCell | ga_NoLine | gt_NoLine | gc_NoLine | go_NoLine | gb_NoLine | sb_NoLine | sn_NoLine | ga_BadName | gt_BadName | gc_BadName | go_BadName | gb_BadName | sb_BadName | sn_BadName | ga_Taken | gt_Taken | gc_Taken | go_Taken | gb_Taken | sb_Taken | sn_Taken | ga_NoCloth | gt_NoCloth | gc_NoCloth | go_NoCloth | gb_NoCloth | sb_NoCloth | sn_NoCloth | ga_NothingLeft | gt_NothingLeft | gc_NothingLeft | go_NothingLeft | gb_NothingLeft | sb_NothingLeft | sn_NothingLeft | bg | br | ba | nx_Unfit_at | ga_Unfit | gt_Unfit | gc_Unfit | go_Unfit | gb_Unfit | sb_Unfit | sc_Unfit | v_LONGEST_SIDE | v_LONGEST_NAME | z_isinstance | z_int | z_bool | z_all | z_len | z_tuple | z_list | z_range | z_abs | z_sum | z_min | z_str | z_zip | z_enumerate | z_ValueError | z_dict=>k_is)
   (case ox_Unfit=>(refine' L2.exi_mk ?xa ?xb ?xc ?xd ?xe ?xf; (case xa=>k_is); (case xb=>rfl); (case xc=>rfl); (case xd=>rfl); (case xe=>rfl); (case xf=>k_exc)))
   (case F_UnfitInit | F_isnumber | F_isbelow | F_isbit | F_allbits | F_isside | F_needcell | F_BoardInit | F_ClothInit | F_Clothshade | F_Clothwide | F_Clothtall | F_Clothcols | F_Clothrows | F_Clothbitsalong | F_Clothbit | F_Clothcolour | F_shifted | F_transposed | F_withbits | F_turned | F_put | F_cut | F_partedup | F_parted | F_sewnbeside | F_sewntogether | F_isname | F_ChestInit | F_Chestnames | F_Chestcloth | F_Chestneedfree | F_Chestbecome | F_Chestbecomewith | F_Chestlay | F_Chestdrop | F_Chestturn | F_Chestput | F_Chestcut | F_Chestsew | F_Chestpart | F_Chestundo | F_Chestredo | F_Chestundoable | F_Chestredoable | F_Ldraws | F_Lnames | F_Lbits | F_Lrow | F_Lkind | F_Ldo | F_Lsame | F_Lclothkind | F_Ltold | F_Lbookfits | F_Lbad | F_law=>exact L2.fun_mk (by k_is) (by k_is) (by k_is))
   (case x_BadSize | x_BadBit | x_NoCell | x_NoLine | x_BadName | x_Taken | x_NoCloth | x_NothingLeft=>k_exc)
   (case kt_BadSize_BadName | kt_BadSize_Taken | kt_BadSize_NoCloth | kt_BadSize_NoLine | kt_BadSize_BadBit | kt_BadSize_BadSize | kt_BadSize_NothingLeft | kt_BadSize_Unfit | kv_BadSize | kt_BadBit_BadName | kt_BadBit_Taken | kt_BadBit_NoCloth | kt_BadBit_NoLine | kt_BadBit_BadBit | kt_BadBit_BadSize | kt_BadBit_NothingLeft | kt_BadBit_Unfit | kv_BadBit | kt_NoLine_BadName | kt_NoLine_Taken | kt_NoLine_NoCloth | kt_NoLine_NoLine | kt_NoLine_BadBit | kt_NoLine_BadSize | kt_NoLine_NothingLeft | kt_NoLine_Unfit | kv_NoLine | kt_BadName_BadName | kt_BadName_Taken | kt_BadName_NoCloth | kt_BadName_NoLine | kt_BadName_BadBit | kt_BadName_BadSize | kt_BadName_NothingLeft | kt_BadName_Unfit | kv_BadName | kt_Taken_BadName | kt_Taken_Taken | kt_Taken_NoCloth | kt_Taken_NoLine | kt_Taken_BadBit | kt_Taken_BadSize | kt_Taken_NothingLeft | kt_Taken_Unfit | kv_Taken | kt_NoCloth_BadName | kt_NoCloth_Taken | kt_NoCloth_NoCloth | kt_NoCloth_NoLine | kt_NoCloth_BadBit | kt_NoCloth_BadSize | kt_NoCloth_NothingLeft | kt_NoCloth_Unfit | kv_NoCloth | kt_NothingLeft_BadName | kt_NothingLeft_Taken | kt_NothingLeft_NoCloth | kt_NothingLeft_NoLine | kt_NothingLeft_BadBit | kt_NothingLeft_BadSize | kt_NothingLeft_NothingLeft | kt_NothingLeft_Unfit | kv_NothingLeft | kt_Unfit_BadName | kt_Unfit_Taken | kt_Unfit_NoCloth | kt_Unfit_NoLine | kt_Unfit_BadBit | kt_Unfit_BadSize | kt_Unfit_NothingLeft | kt_Unfit_Unfit=>kit_is)
  obtain ⟨t,T⟩:=T
  have e0:=hmg.symm.trans T.mg_law
  cases e0
  exact ⟨t.d_law,T.F_law.bl fun _ _ _ _ _ _ _=>rfl,fun base _ _=>My.ok_law T⟩
 case S=>exact fun K H a ns hl _ hS=>⟨a,ns,rfl,hS,hl,fun _=>rfl⟩
 case C=>exact fun _ _ _ _ z=>z
