import PyProof.Rows.All
import Wide.All
import OpenK.AllK
import Wide.FinOn
import Lean
import PyProof.EqAt
import PyProof.EqKinds
import PyProof.TupleCall
import PyProof.NeKinds
import KE.KSortTup
import KE.KItemsList
import KE.KPairComp
import KE.KDictOf
import PyProof.AttrMissHeap
import PySem.Challenge.RW_sashiko_k58_texts_of_no_finds
set_option Elab.async false
set_option linter.all false
set_option maxRecDepth 100000
namespace L2
open PySem PySem.Spec PyProof.Rows
noncomputable abbrev Key:=Sum Int Str
noncomputable def mz:Key→Value→Bool
 | .inl k,v=>Value.isInt k v
 | .inr x,v=>Value.isStrOf x v
noncomputable def ER (w:World):Key→Int
 | .inl k=>hashInt k
 | .inr x=>hashStr w x
theorem bW:∀ {k:Key} {v:Value},mz k v=true→(∃ i t,k=Sum.inl i∧v=Value.int i t)∨(∃ x t,k=Sum.inr x∧v=Value.str x t)
 | .inl i,v,h=>by
  obtain ⟨t,e⟩:=Value.isInt_shape (k:=i) (v:=v) h;exact .inl ⟨i,t,rfl,e⟩
 | .inr x,v,h=>by
  obtain ⟨t,e⟩:=Value.isStrOf_shape (x:=x) (v:=v) h;exact .inr ⟨x,t,rfl,e⟩
theorem vE (i:Int) (t:Tok):mz (.inl i) (.int i t)=true:=by simp [mz,Value.isInt]
theorem vF (x:Str) (t:Tok):mz (.inr x) (.str x t)=true:=by simp [mz,Value.isStrOf]
theorem xG (a b:Int):decide ((Sum.inl a:Key)=Sum.inl b)=(a==b):=by
 by_cases e:a=b
 ·subst e; simp
 ·have h:¬ (Sum.inl a:Key)=Sum.inl b:=fun q=>e (Sum.inl.inj q);rw [decide_eq_false h];exact (beq_eq_false_iff_ne.mpr e).symm
theorem xJ (a b:Str):decide ((Sum.inr a:Key)=Sum.inr b)=decide (a=b):=by
 by_cases e:a=b
 ·subst e; simp
 ·have h:¬ (Sum.inr a:Key)=Sum.inr b:=fun q=>e (Sum.inr.inj q);rw [decide_eq_false h,decide_eq_false e]
theorem xH (a:Int) (b:Str):decide ((Sum.inl a:Key)=Sum.inr b)=false:=decide_eq_false (fun q=>nomatch q)
theorem xI (a:Str) (b:Int):decide ((Sum.inr a:Key)=Sum.inl b)=false:=decide_eq_false (fun q=>nomatch q)
noncomputable def bw (prog:Program) (w:World):PySem.KeyKind prog w Key where
 is:=mz
 hash:=ER w
 inj:=fun v a b ha hb=>by
  rcases bW ha with ⟨i,t,rfl,rfl⟩ | ⟨x,t,rfl,rfl⟩
  ·rcases bW hb with ⟨j,u,rfl,e⟩ | ⟨y,u,rfl,e⟩
   ·injection e with e1 _; rw [e1]
   ·exact nomatch e
  ·rcases bW hb with ⟨j,u,rfl,e⟩ | ⟨y,u,rfl,e⟩
   ·exact nomatch e
   ·injection e with e1 _; rw [e1]
 byValue:=fun k v h=>by
  rcases bW h with ⟨i,t,rfl,rfl⟩ | ⟨x,t,rfl,rfl⟩<;>rfl
 pyHash:=fun hv h=>by
  rcases bW hv with ⟨i,t,rfl,rfl⟩ | ⟨x,t,rfl,rfl⟩
  ·exact wpAny_pyHash_int h
  ·exact wpAny_pyHash_str h
 eqBool:=fun hu hv h=>by
  rcases bW hu with ⟨i,t,rfl,rfl⟩ | ⟨x,t,rfl,rfl⟩
  ·rcases bW hv with ⟨j,u,rfl,rfl⟩ | ⟨y,u,rfl,rfl⟩
   ·rw [xG] at h; exact wpAny_eqBool_int h
   ·rw [xH] at h; exact SeqAt.EqAt.int_str i t y u _ _ _ _ h
  ·rcases bW hv with ⟨j,u,rfl,rfl⟩ | ⟨y,u,rfl,rfl⟩
   ·rw [xI] at h; exact SeqAt.EqAt.str_int x t j u _ _ _ _ h
   ·rw [xJ] at h; exact wpAny_eqBool_str h
 «strs»:=fun k x t v h=>by
  rcases bW h with ⟨i,u,rfl,e⟩ | ⟨y,u,rfl,e⟩
  ·exact nomatch e
  ·injection e with e1 _;subst e1
   cases v<;>rfl
theorem rh (prog:Program) (w:World) (i:Int) (t:Tok):(bw prog w).is (.inl i) (.int i t)=true:=vE i t
theorem ri (prog:Program) (w:World) (x:Str) (t:Tok):(bw prog w).is (.inr x) (.str x t)=true:=vF x t
inductive V where
 | non | bl (b:Bool) | int (i:Int) | str (x:Str) | byt (b:Array UInt8) | flt (b:UInt64) | ref (a:Addr) | ty (n:String)
 deriving DecidableEq
def a7:V→Value→Prop
 | .non,u=>u=Value.none
 | .bl b,u=>u=Value.bool b
 | .int i,u=>∃ t,u=Value.int i t
 | .str x,u=>∃ t,u=Value.str x t
 | .byt b,u=>∃ t,u=Value.bytes b t
 | .flt b,u=>∃ t,u=Value.float b t
 | .ref a,u=>u=Value.ref a
 | .ty n,u=>u=Value.type n
abbrev a9:List V→List Value→Prop:=Paired a7
theorem a9.length {xs:List V} {us:List Value} (r:a9 xs us):xs.length=us.length:=Paired.length r
theorem a9.get:∀ {xs:List V} {us:List Value} {i:Nat} {x:V},a9 xs us→xs[i]?=some x→∃ u,us[i]?=some u∧a7 x u
 | _,_,_,_,.nil,e=>by simp at e
 | _,_,0,_,.cons r _,e=>by simp at e; subst e; exact ⟨_,rfl,r⟩
 | _,_,i+1,x,.cons _ t,e=>by
  obtain ⟨u,h1,h2⟩:=a9.get (i:=i) (x:=x) t (by simpa using e);exact ⟨u,by simpa using h1,h2⟩
theorem a9.append:∀ {xs ys:List V} {us ws:List Value},a9 xs us→a9 ys ws→a9 (xs++ys) (us++ws)
 | _,_,_,_,.nil,s=>s
 | _,_,_,_,.cons r t,s=>.cons r (a9.append t s)
theorem a9.take:∀ {xs:List V} {us:List Value} (n:Nat),a9 xs us→a9 (xs.take n) (us.take n)
 | _,_,0,_=>.nil
 | _,_,_+1,.nil=>.nil
 | _,_,n+1,.cons r t=>.cons r (a9.take n t)
theorem a9.drop:∀ {xs:List V} {us:List Value} (n:Nat),a9 xs us→a9 (xs.drop n) (us.drop n)
 | _,_,0,r=>r
 | _,_,_+1,.nil=>.nil
 | _,_,n+1,.cons _ t=>a9.drop n t
def fj:Option V→Option Value→Prop
 | some v,some u=>a7 v u
 | none,none=>True
 | _,_=>False
def KV {κ:Type}:List (κ×V)→List (κ×Value)→Prop:=Paired fun (p:κ×V) (q:κ×Value)=>p.1=q.1∧a7 p.2 q.2
noncomputable def kV:Key→V
 | .inl i=>.int i
 | .inr x=>.str x
inductive HO where
 | lst (xs:List V)
 | tup (xs:List V)
 | dK (kvs:List (Key×V)) | dT (kvs:List (List Key×V))
 | set (S:Int→Bool) (n:Nat)
 | ins (C dx:Addr) (fs:List (Str×V))
 | own (x:Addr)
 | xd (fs:List (Str×V))
 | met (f x:Addr)
 | rng (lo hi:Int)
 | frz (o:Obj) (u:HO)
 | tbl (ps:Array Value)
 | ext (φ:Heap→Prop)
noncomputable abbrev Hp:=Addr→Option HO
noncomputable def upd (H:Hp) (a:Addr) (o:HO):Hp:=fun b=>if b=a then some o else H b
theorem ai {H:Hp} {a:Addr} {o:HO}:upd H a o a=some o:=by unfold upd; rw [if_pos rfl]
theorem aw {H:Hp} {a b:Addr} {o:HO} (h:b≠a):upd H a o b=H b:=by unfold upd; rw [if_neg h]
theorem ve {H:Hp} {a:Addr} {o u:HO}:upd (upd H a o) a u=upd H a u:=by
 funext b; unfold upd; split<;>rfl
theorem fw {H:Hp} {a b:Addr} {o u:HO} (h:H a=some o) (h':H b=some u) (d:o≠u):a≠b:=by
 intro e; subst e; rw [h] at h'; exact d (Option.some.inj h')
theorem aE {H:Hp} {a b:Addr} {o:HO} (h:H a=some o) (h':H b=none):a≠b:=by
 intro e; subst e; rw [h] at h'; cases h'
section
variable (P:Program) (w:World)
def bq (H:Hp) (h:Heap) (a:Addr):HO→Prop
  | .lst xs => xs.length ≤ sizeLine ∧ ∃ (its : List Value) (n : Nat), a9 xs its ∧ h.get? a = some { cls := .type "list", data := .seq its.toArray n }
  | .tup xs => xs.length ≤ sizeLine ∧ ∃ its : List Value, a9 xs its ∧ IsTup h a its.toArray
  | .dK kvs => kvs.length ≤ sizeLine ∧ (a == sysModules) = false ∧ ∃ vs, KV kvs vs ∧ h.DictOf (bw P w) a vs
  | .dT kvs => kvs.length ≤ sizeLine ∧ (a == sysModules) = false ∧ ∃ xs : List (List Key × Addr × Value),
      Paired (fun (p:List Key×V) (q:List Key×Addr×Value)=>p.1=q.1∧H q.2.1=some (.tup (p.1.map kV))∧a7 p.2 q.2.2) kvs xs ∧
      ∃ o es ep,h.get? a=some o∧o.ExactDict∧o.data=.dict es ep∧es.toList=xs.map (entryOfKey (tupleKind (bw P w)))∧(xs.map (·.1)).Nodup
  | .set S n => h.SetOf (intKind P w) a S n
  | .ins C dx fs => H dx = some (.own a) ∧ fs.length ≤ 1000 ∧ dx ≠ a ∧ h.get? a = some (W.instObj C dx) ∧
      ∃ mA,h.Ns1 dx mA∧(∀ f,fj (fs.lookup f) (mA f))∧PySem.Within mA (fs.map (·.1))
  | .own _ => ∃ o, h.get? a = some o
  | .xd fs => ∃ mA, h.Ns1 a mA ∧ ∀ f, fj (fs.lookup f) (mA f)
  | .rng lo hi => ∃ t u v, h.get? a = some { cls := .type "range", data := .fields #[.int lo t, .int hi u, .int 1 v] }
  | .frz o u => h.get? a = some o ∧ bq H h a u
  | .tbl ps => h.get? a = some { cls := .none, data := .fields ps }
  | .met f x => h.get? a = some (W.methodObj (.ref f) (.ref x))
  | .ext φ => φ h ∧ (∃ o, h.get? a = some o) ∧ ∀ h1 h2 : Heap, φ h1 → (∀ o, h1.get? a = some o → h2.get? a = some o) → φ h2
def HOk (H:Hp) (h:Heap):Prop:=∀ a o,H a=some o→bq P w H h a o
end
section
variable {P:Program} {w:World} {H H':Hp} {h h':Heap} {a:Addr} {o:HO}
theorem bq.lt (x:bq P w H h a o):a<h.objs.size:=by
 cases o with
 | lst xs=>obtain ⟨_,_,_,_,e⟩:=x; exact Heap.lt_size e
 | tup xs=>obtain ⟨_,_,_,p⟩:=x; exact p.lt
 | dK kvs=>obtain ⟨_,_,_,_,o,_,_,e,_⟩:=x; exact Heap.lt_size e
 | dT kvs=>obtain ⟨_,_,_,_,o,_,_,e,_⟩:=x; exact Heap.lt_size e
 | set S n=>obtain ⟨o,_,_,_,e,_⟩:=x; exact Heap.lt_size e
 | ins C dx fs=>obtain ⟨_,_,_,e,_⟩:=x; exact Heap.lt_size e
 | own y=>obtain ⟨_,e⟩:=x; exact Heap.lt_size e
 | xd fs=>obtain ⟨_,⟨_,_,_,e,_⟩,_⟩:=x; exact Heap.lt_size e
 | rng lo hi=>obtain ⟨_,_,_,e⟩:=x; exact Heap.lt_size e
 | frz ob u=>obtain ⟨e,_⟩:=x; exact Heap.lt_size e
 | tbl ps=>exact Heap.lt_size (show h.get? a=some _ from x)
 | met f y=>exact Heap.lt_size (show h.get? a=some _ from x)
 | ext φ=>obtain ⟨_,⟨_,e⟩,_⟩:=x; exact Heap.lt_size e
theorem Paired.mapP {α β:Type} {F G:α→β→Prop}:∀ {l₁:List α} {l₂:List β},Paired F l₁ l₂→(∀ a b,F a b→G a b)→Paired G l₁ l₂
 | _,_,.nil,_=>.nil
 | _,_,.cons r t,f=>.cons (f _ _ r) (Paired.mapP t f)
theorem bq.stay (x:bq P w H h a o) (k:∀ b u,(b=a∨H b=some (.own a))→h.get? b=some u→h'.get? b=some u)
  (ho:∀ b,H b=some (.own a)→H' b=some (.own a)) (ht:∀ b xs,H b=some (.tup xs)→H' b=some (.tup xs)):bq P w H' h' a o:=by
 induction o with
 | lst xs=>obtain ⟨z,its,n,r,e⟩:=x; exact ⟨z,its,n,r,k _ _ (.inl rfl) e⟩
 | tup xs=>obtain ⟨z,its,r,ob,e,c⟩:=x; exact ⟨z,its,r,ob,k _ _ (.inl rfl) e,c⟩
 | dK kvs=>obtain ⟨z,y,vs,r,ob,es,ep,e,c⟩:=x; exact ⟨z,y,vs,r,ob,es,ep,k _ _ (.inl rfl) e,c⟩
 | dT kvs =>
  obtain ⟨z,y,xs,r,ob,es,ep,e,c⟩:=x;exact ⟨z,y,xs,Paired.mapP r fun p q z=>⟨z.1,ht _ _ z.2.1,z.2.2⟩,ob,es,ep,k _ _ (.inl rfl) e,c⟩
 | set S n=>obtain ⟨ob,es,ep,t,e,c⟩:=x; exact ⟨ob,es,ep,t,k _ _ (.inl rfl) e,c⟩
 | ins C dx fs =>
  obtain ⟨d,z,ne,e,mA,⟨od,es,ep,e2,c⟩,r⟩:=x;exact ⟨ho _ d,z,ne,k _ _ (.inl rfl) e,mA,⟨od,es,ep,k _ _ (.inr d) e2,c⟩,r⟩
 | own y=>obtain ⟨ob,e⟩:=x; exact ⟨ob,k _ _ (.inl rfl) e⟩
 | xd fs=>obtain ⟨mA,⟨od,es,ep,e,c⟩,r⟩:=x; exact ⟨mA,⟨od,es,ep,k _ _ (.inl rfl) e,c⟩,r⟩
 | rng lo hi=>obtain ⟨t,u,v,e⟩:=x; exact ⟨t,u,v,k _ _ (.inl rfl) e⟩
 | frz ob u ih=>obtain ⟨e,q⟩:=x; exact ⟨k _ _ (.inl rfl) e,ih q⟩
 | tbl ps =>
  have e:h.get? a=some { cls:=.none,data:=.fields ps }:=x
  show h'.get? a=some { cls:=.none,data:=.fields ps }
  exact k a _ (.inl rfl) e
 | met f y =>
  have e:h.get? a=some (W.methodObj (.ref f) (.ref y)):=x
  show h'.get? a=some (W.methodObj (.ref f) (.ref y))
  exact k a _ (.inl rfl) e
 | ext φ=>obtain ⟨p,⟨o,e⟩,st⟩:=x; exact ⟨st _ _ p fun o q=>k _ _ (.inl rfl) q,⟨o,k _ _ (.inl rfl) e⟩,st⟩
theorem HOk.lt (x:HOk P w H h) (e:H a=some o):a<h.objs.size:=(x a o e).lt
theorem HOk.fresh (x:HOk P w H h) (e:h.objs.size≤a):H a=none:=by
 cases q:H a with
 | none=>rfl
 | some u=>exact absurd (Nat.lt_of_lt_of_le (x.lt q) e) (Nat.lt_irrefl _)
theorem HOk.kept (x:HOk P w H h) (k:∀ b u,h.get? b=some u→h'.get? b=some u):HOk P w H h':=fun a o e =>
 (x a o e).stay (fun b u _ q=>k b u q) (fun _ q=>q) fun _ _ q=>q
theorem HOk.laid (x:HOk P w H h) (k:∀ b u,h.get? b=some u→h'.get? b=some u) (hp:h.objs.size≤a) (new:bq P w (upd H a o) h' a o):HOk P w (upd H a o) h':=fun b u e=>by
 have hn:=x.fresh hp;by_cases hb:b=a
 ·subst hb; rw [ai] at e; cases e; exact new
 ·rw [aw hb] at e;exact (x b u e).stay (fun c v _ q=>k c v q) (fun c q=>by rw [aw (aE q hn)]; exact q) fun c xs q=>by rw [aw (aE q hn)]; exact q
end
def Rd (H:Hp) (a:Addr) (u:HO):Prop:=H a=some u∨∃ o,H a=some (.frz o u)
theorem Rd.ok {P:Program} {w:World} {H:Hp} {h:Heap} {a:Addr} {u:HO} (r:Rd H a u) (x:HOk P w H h):bq P w H h a u:=by
 rcases r with r | ⟨o,r⟩
 ·exact x a u r
 ·obtain ⟨_,q⟩:=x a _ r;exact q
def Mut:Option HO→Prop
 | some (.lst _)=>True
 | some (.dK _)=>True
 | some (.dT _)=>True
 | some (.set _ _)=>True
 | some (.ins _ _ _)=>True
 | some (.ext _)=>True
 | _=>False
section
variable {P:Program} {w:World} {H:Hp} {h h':Heap} {x e:Addr} {o':HO}
theorem HOk.write (ok:HOk P w H h) (mu:Mut (H x)) (he:e=x∨H e=some (.own x)) (k:∀ b u,b≠e→h.get? b=some u→h'.get? b=some u) (heo:∃ u,h'.get? e=some u)
    (new:bq P w (upd H x o') h' x o'):HOk P w (upd H x o') h':=fun b u q=>by
  have nown:∀ c y,H c=some (.own y)→c≠x:=fun c y r z=>by subst z; rw [r] at mu; exact mu
  have ntup:∀ c xs,H c=some (.tup xs)→c≠x:=fun c xs r z=>by subst z; rw [r] at mu; exact mu
  by_cases hb:b=x
  · subst hb; rw [ai] at q; cases q; exact new
  · rw [aw hb] at q
    by_cases hbe:b=e
    · have q':H b=some (.own x):=by
        rcases he with z | z
        · exact absurd (hbe.trans z) hb
        · rw [hbe]; exact z
      rw [q] at q'; cases q';obtain ⟨v,hv⟩:=heo;exact ⟨v,by rw [hbe]; exact hv⟩
    · refine (ok b u q).stay (fun c v hc r=>k c v ?_ r) (fun c r=>by rw [aw (nown c b r)]; exact r) fun c xs r=>by rw [aw (ntup c xs r)]; exact r
      rcases hc with rfl | hc
      · exact hbe
      · rintro rfl
        rcases he with z | z
        · exact nown c b hc z
        · rw [hc] at z; cases z; exact hb rfl
end
structure Un (fs ex:List Addr) (H H':Hp) (h h':Heap):Prop where
 keep:∀ b o,h.get? b=some o→H b=none→b∉fs→b∉ex→h'.get? b=some o
 slot:∀ b o,h.get? b=some o→H b=none→b∈fs→b∉ex→∃ sl,h'.get? b=some { o with slots:=sl }
 free:∀ b o,h.get? b=some o→H b=none→b∉ex→H' b=none
 there:∀ b o,h.get? b=some o→b∉ex→∃ o',h'.get? b=some o'
 tups:∀ b xs,H b=some (.tup xs)→H' b=some (.tup xs)
 frzs:∀ b o u,H b=some (.frz o u)→H' b=some (.frz o u)
 tbls:∀ b ps,H b=some (.tbl ps)→∃ more,H' b=some (.tbl (ps++more))
section
variable {fs fs' ex ex':List Addr} {H H1 H2:Hp} {h h1 h2 h':Heap} {a x e:Addr} {o:HO}
theorem Un.any (u:Un fs ex H H1 h h1) {b:Addr} {ob:Obj} (q:h.get? b=some ob) (n:H b=none) (hx:b∉ex):∃ sl,h1.get? b=some { ob with slots:=sl }:=by
 by_cases hb:b∈fs
 ·exact u.slot b ob q n hb hx
 ·exact ⟨ob.slots,u.keep b ob q n hb hx⟩
theorem Un.kept (k:∀ b u,h.get? b=some u→h'.get? b=some u):Un fs ex H H h h' :=
 ⟨fun b ob q _ _ _=>k b ob q,fun b ob q _ _ _=>⟨ob.slots,k b ob q⟩,fun _ _ _ n _=>n,fun b ob q _=>⟨ob,k b ob q⟩,fun _ _ q=>q,fun _ _ _ q=>q,fun _ ps q=>⟨#[],by rw [q]; simp⟩⟩
theorem Un.refl:Un fs ex H H h h:=Un.kept fun _ _ q=>q
theorem Un.laid (k:∀ b u,h.get? b=some u→h'.get? b=some u) (hp:h.objs.size≤a) (hn:H a=none):Un fs ex H (upd H a o) h h' where
 keep:=fun b u q _ _ _=>k b u q
 slot:=fun b u q _ _ _=>⟨u.slots,k b u q⟩
 free:=fun b u q n _=>by rw [aw (Nat.ne_of_lt (Nat.lt_of_lt_of_le (Heap.lt_size q) hp))]; exact n
 there:=fun b u q _=>⟨u,k b u q⟩
 tups:=fun b xs q=>by rw [aw (aE q hn)]; exact q
 frzs:=fun b u xs q=>by rw [aw (aE q hn)]; exact q
 tbls:=fun b ps q=>⟨#[],by rw [aw (aE q hn),q]; simp⟩
theorem Un.write (mu:Mut (H x)) (he:e=x∨H e=some (.own x)) (k:∀ b u,b≠e→h.get? b=some u→h'.get? b=some u) (heo:∃ u,h'.get? e=some u):Un fs ex H (upd H x o) h h':=by
 have hx:∀ b,H b=none→b≠x:=fun b n z=>by subst z; rw [n] at mu; exact mu
 have hb:∀ b,H b=none→b≠e:=fun b n z=>by
  subst z;rcases he with r | r
  ·exact hx b n r
  ·rw [n] at r; cases r
 have hm:∀ b u,H b=some u→¬ Mut (some u)→b≠x:=fun b u q nm z=>by subst z; rw [q] at mu; exact nm mu
 refine ⟨fun b u q n _ _=>k b u (hb b n) q,fun b u q n _ _=>⟨u.slots,k b u (hb b n) q⟩,fun b u q n _=>by rw [aw (hx b n)]; exact n,fun b u q _=>?_,
  fun b xs q=>by rw [aw (hm b _ q fun z=>z)]; exact q,fun b u xs q=>by rw [aw (hm b _ q fun z=>z)]; exact q,fun b ps q=>⟨#[],by rw [aw (hm b _ q fun z=>z),q]; simp⟩⟩
 by_cases hbe:b=e
 ·subst hbe; exact heo
 ·exact ⟨u,k b u hbe q⟩
end
noncomputable def trk (h:Heap) (H:Hp):List Addr:=(List.range h.objs.size).filter fun a=>(H a).isSome
noncomputable def pH (h:Heap) (H:Hp):Heap:=W.hideAll h (trk h H)
theorem vB (h:Heap) (H:Hp):(pH h H).objs.size=h.objs.size:=W.hideAll_size _ _
theorem xx {h:Heap} {H:Hp} {b:Addr} {o:Obj} (e:h.get? b=some o) (n:H b=none):(pH h H).get? b=some o :=
 W.hideAll_get _ e fun hm=>by
  have q:(H b).isSome=true:=(List.mem_filter.mp hm).2;rw [n] at q; simp at q
theorem AR {h:Heap} {H:Hp} {b:Addr} {o:Obj} (e:(pH h H).get? b=some o):h.get? b=some o∧H b=none:=by
 have e':h.get? b=some o:=W.of_hideAll (trk h H) e;refine ⟨e',?_⟩
 cases q:H b with
 | none=>rfl
 | some x =>
  have hm:b∈trk h H:=List.mem_filter.mpr ⟨List.mem_range.mpr (Heap.lt_size e'),by simp [q]⟩;have z:(pH h H).get? b=none:=W.hideAll_none (trk h H) hm;rw [z] at e; cases e
noncomputable def Ay (g h:Heap) (L:Addr):List (Addr×Obj):=(List.range h.objs.size).filterMap fun a=>if a=L∨(g.get? a).isSome=true then none else (h.get? a).map fun o=>(a,o)
noncomputable def dw (g h:Heap) (L d:Addr):List (Addr×Obj):=(Ay g h L).filter fun p=>decide (p.1≠d)
structure Mod (K:W.Frag) (mg:Str→Option Value) (base:Heap):Prop where
 kin:K.In base
 glob:base.Ns mainGlobals mg
 blt:∃ mb,base.Ns builtinsNs mb∧∀ x:Str,x≠"__name__"→mb x=bootBuiltins x
 nolimit:base.NoLimit
structure Cx where
 prog:Program
 w:World
 K:W.Frag
 mg:Str→Option Value
 base:Heap
 A:Around
 N:List Str
 s₀:Shared
 H₀:Hp
 env:Env
 outer:List Env
 stack:List Env
 ex:List Addr
 fn:Str→Bool
 calm:Bool
 pn:List (Addr×Obj)
 xe:Value→Shared→Prop
noncomputable def frs (l:List Env):List Addr:=l.filterMap (·.frame)
noncomputable abbrev Cx.fs (X:Cx):List Addr:=frs X.outer
def Vis (sc:Scope) (x:Str):Prop:=sc.names.lookup x=some .local∨sc.names.lookup x=some .cell∨sc.names.lookup x=some .free
def Loc (sc:Scope) (x:Str):Prop:=sc.names.lookup x=some .local∨sc.names.lookup x=some .cell
def EH (env:Env) (h:Heap) (m:Str→Option Value) (x:Str) (u:Value):Prop :=
 (env.kindOf x=some .local∧m x=some u)∨((env.kindOf x=some .cell∨env.kindOf x=some .free)∧∃ c,env.cells.lookup x=some c∧h.IsCell c (some u))
structure Cx.Ok (X:Cx):Prop where
 mod:Mod X.K X.mg X.base
 kind:X.env.scope.kind=.function
 glob:X.env.globals=mainGlobals
 blt:X.env.builtins=builtinsNs
 above:X.s₀.heap.objs.size≤X.env.locals
 inj:∀ x y c,X.env.cells.lookup x=some c→X.env.cells.lookup y=some c→x=y
 has:∀ x,(X.env.kindOf x=some .cell∨X.env.kindOf x=some .free)→∃ c,X.env.cells.lookup x=some c
 cab:∀ x c,X.fn x=true→X.env.cells.lookup x=some c→X.s₀.heap.objs.size≤c
 hd:X.calm=true→X.A.handled=none
 frames:X.A.frames=some X.stack
 stk:X.stack=X.outer∨(X.stack=X.env::X.outer∧X.env.frame=some X.env.locals)
 exf:∀ b∈X.ex,b≠X.env.locals∧∀ x c,X.env.cells.lookup x=some c→c≠b
 bs:∀ b o,X.base.get? b=some o→X.s₀.heap.get? b=some o∧X.H₀ b=none
 bsz:X.base.objs.size≤X.s₀.heap.objs.size
 noex:∀ b o,X.base.get? b=some o→b∉X.ex
 exfs:∀ b∈X.ex,b∉X.fs
 funs:X.s₀.heap.FunFrames X.base X.outer
 frf:∀ b∈X.fs,X.H₀ b=none
structure Inv (X:Cx) (pins:List (Addr×Obj)) (σ:List (Option V)) (H:Hp) (s:Shared):Prop where
 ok:X.Ok
 os:s.os=X.s₀.os
 bare:AllBare s.gens
 base:Un X.fs X.ex X.H₀ H X.s₀.heap s.heap
 loc:∃ m,s.heap.Ns X.env.locals m∧∀ (i:Nat) (x:Str) (v:V),X.N[i]?=some x→σ[i]?=some (some v)→Vis X.env.scope x→∃ u,a7 v u∧EH X.env s.heap m x u
 cell:∀ x c,X.env.cells.lookup x=some c→∃ v,s.heap.IsCell c v
 free:H X.env.locals=none
 freeC:∀ x c,X.env.cells.lookup x=some c→H c=none
 pin:∀ p∈X.pn++pins,s.heap.get? p.1=some p.2∧H p.1=none∧p.1≠X.env.locals∧p.1∉X.fs∧∀ v,p.2.data≠.cell v
 hok:HOk X.prog X.w H s.heap
 len:σ.length=X.N.length
section
variable {X:Cx} {pins:List (Addr×Obj)} {σ:List (Option V)} {H H':Hp} {s:Shared} {h':Heap}
theorem Cx.Ok.nofr (ok:X.Ok) {b:Addr} {o:Obj} (e:X.base.get? b=some o):b∉X.fs:=fun hb=>by
 have:=(ok.funs.mem hb).1
 rw [e] at this; cases this
theorem Inv.bs (I:Inv X pins σ H s):∀ b o,X.base.get? b=some o→s.heap.get? b=some o∧H b=none:=fun b o e =>
 ⟨I.base.keep b o (I.ok.bs b o e).1 (I.ok.bs b o e).2 (I.ok.nofr e) (I.ok.noex b o e),I.base.free b o (I.ok.bs b o e).1 (I.ok.bs b o e).2 (I.ok.noex b o e)⟩
theorem Inv.bk (I:Inv X pins σ H s):∀ b o,X.base.get? b=some o→s.heap.get? b=some o:=fun b o e=>(I.bs b o e).1
theorem Inv.mod (I:Inv X pins σ H s):Mod X.K X.mg X.base:=I.ok.mod
theorem Inv.kIn (I:Inv X pins σ H s):X.K.In s.heap:=I.ok.mod.kin.keeps I.bk
theorem Inv.lt (I:Inv X pins σ H s):X.env.locals<s.heap.objs.size:=let ⟨_,hn,_⟩:=I.loc; hn.lt
theorem Inv.sz (I:Inv X pins σ H s):X.s₀.heap.objs.size≤s.heap.objs.size:=Nat.le_trans I.ok.above (Nat.le_of_lt I.lt)
theorem Inv.nofs (I:Inv X pins σ H s) {a:Addr} (h:s.heap.objs.size≤a):a∉X.fs:=fun hb=>by
 obtain ⟨_,o,ho,_⟩:=I.ok.funs.mem hb;exact absurd (Nat.lt_of_lt_of_le (Heap.lt_size ho) (Nat.le_trans I.sz h)) (Nat.lt_irrefl _)
theorem Inv.cne (I:Inv X pins σ H s):∀ x c,X.env.cells.lookup x=some c→c≠X.env.locals:=fun x c e z=>by
 obtain ⟨v,o,ho,hd⟩:=I.cell x c e;obtain ⟨m,⟨o',es,ep,ho',hd',_⟩,_⟩:=I.loc;rw [z,ho'] at ho; cases ho; rw [hd'] at hd; cases hd
theorem Inv.funs (I:Inv X pins σ H s):s.heap.FunFrames X.base X.outer:=by
 have all:∀ (l:List Env),(∀ b∈frs l,b∈X.fs)→X.s₀.heap.FunFrames X.base l→s.heap.FunFrames X.base l:=by
  intro l
  induction l with
  | nil => intro _ _; trivial
  | cons env r ih =>
   intro hs hl;obtain ⟨hk,⟨L,o,hf,hn,ho,hd⟩,hr⟩:=hl;have hL:L∈X.fs:=hs L (by unfold frs; rw [List.filterMap_cons,hf]; exact List.mem_cons_self);obtain ⟨sl,e⟩:=I.base.slot L o ho (I.ok.frf L hL) hL fun z=>I.ok.exfs L z hL;exact ⟨hk,⟨L,_,hf,hn,e,hd⟩,ih (fun b hb=>hs b (by unfold frs; rw [List.filterMap_cons,hf]; exact List.mem_cons_of_mem _ hb)) hr⟩
 exact all X.outer (fun _ hb=>hb) I.ok.funs
theorem Inv.stack (I:Inv X pins σ H s):s.heap.FunFrames X.base X.stack:=by
 rcases I.ok.stk with e | ⟨e,hf⟩
 ·rw [e]; exact I.funs
 ·rw [e];obtain ⟨m,hn,_⟩:=I.loc;refine .cons (by rw [I.ok.kind]; decide) hf hn ?_ I.funs;exact Heap.get?_none_of_le (Nat.le_trans I.ok.bsz I.ok.above)
theorem Inv.stkSub (I:Inv X pins σ H s):∀ b∈frs X.stack,b∈X.env.locals::X.fs:=fun b hb=>by
 rcases I.ok.stk with e | ⟨e,hf⟩
 ·rw [e] at hb; exact List.mem_cons_of_mem _ hb
 ·rw [e] at hb;unfold frs at hb;rw [List.filterMap_cons,hf] at hb;exact hb
theorem Inv.stkFree (I:Inv X pins σ H s):∀ b∈frs X.stack,H b=none:=fun b hb=>by
 rcases List.mem_cons.mp (I.stkSub b hb) with e | hb
 ·rw [e]; exact I.free
 ·obtain ⟨_,o,ho,_⟩:=I.ok.funs.mem hb;exact I.base.free b o ho (I.ok.frf b hb) fun z=>I.ok.exfs b z hb
theorem Inv.step {g':Array GenState} {t':Nat} {d':Drawn} {ch:List Addr} (I:Inv X pins σ H s)
  (hch:∀ b∈ch,(b∈X.ex∨X.s₀.heap.objs.size≤b)∧b≠X.env.locals∧(∀ x c,X.env.cells.lookup x=some c→c≠b)∧∀ p∈X.pn++pins,p.1≠b)
  (keep:∀ b o,b≠X.env.locals→b∉X.fs→b∉ch→s.heap.get? b=some o→H b=none→h'.get? b=some o)
  (slot:∀ b o,b≠X.env.locals→b∈X.fs→b∉ch→s.heap.get? b=some o→H b=none→∃ sl,h'.get? b=some { o with slots:=sl }) (free:∀ b o,b∉ch→s.heap.get? b=some o→H b=none→H' b=none)
  (there:∀ b o,b∉ch→s.heap.get? b=some o→∃ o',h'.get? b=some o')
  (tups:∀ b xs,H b=some (.tup xs)→H' b=some (.tup xs)) (frzs:∀ b o u,H b=some (.frz o u)→H' b=some (.frz o u)) (tbls:∀ b ps,H b=some (.tbl ps)→∃ more,H' b=some (.tbl (ps++more)))
  (ns:∀ m,s.heap.Ns X.env.locals m→h'.Ns X.env.locals m) (hok:HOk X.prog X.w H' h') (hg:AllBare g') :
  Inv X pins σ H' { s with heap:=h',gens:=g',drawn:=d',toks:=t' }:=by
 have neL:∀ b o,X.s₀.heap.get? b=some o→b≠X.env.locals:=fun b o e=>Nat.ne_of_lt (Nat.lt_of_lt_of_le (Heap.lt_size e) I.ok.above);have neC:∀ b o,X.s₀.heap.get? b=some o→b∉X.ex→b∉ch:=fun b o e hx hb=>by
  rcases (hch b hb).1 with z | z
  ·exact hx z
  ·exact absurd (Nat.lt_of_lt_of_le (Heap.lt_size e) z) (Nat.lt_irrefl _)
 have cellK:∀ x c,X.env.cells.lookup x=some c→∀ v,s.heap.IsCell c v→h'.IsCell c v:=fun x c e v ⟨o,ho,hd⟩=>by
  have nch:c∉ch:=fun z=>(hch c z).2.2.1 x c e rfl;by_cases hc:c∈X.fs
  ·obtain ⟨sl,q⟩:=slot c o (I.cne x c e) hc nch ho (I.freeC x c e);exact ⟨_,q,hd⟩
  ·exact ⟨o,keep c o (I.cne x c e) hc nch ho (I.freeC x c e),hd⟩
 refine ⟨I.ok,I.os,hg,⟨fun b o e n hb hx=>?_,fun b o e n hb hx=>?_,fun b o e n hx=>?_,fun b o e hx=>?_,fun b xs e=>tups b xs (I.base.tups b xs e),fun b o xs e=>frzs b o xs (I.base.frzs b o xs e),fun b ps e=>?_⟩,?_,fun x c e=>?_,?_,fun x c e=>?_,fun p hp=>?_,hok,I.len⟩
 ·exact keep b o (neL b o e) hb (neC b o e hx) (I.base.keep b o e n hb hx) (I.base.free b o e n hx)
 ·obtain ⟨sl,e1⟩:=I.base.slot b o e n hb hx;obtain ⟨sl',e2⟩:=slot b _ (neL b o e) hb (neC b o e hx) e1 (I.base.free b o e n hx);exact ⟨sl',e2⟩
 ·obtain ⟨o',e1⟩:=I.base.there b o e hx;exact free b o' (neC b o e hx) e1 (I.base.free b o e n hx)
 ·obtain ⟨o',e1⟩:=I.base.there b o e hx;exact there b o' (neC b o e hx) e1
 ·obtain ⟨m1,e1⟩:=I.base.tbls b ps e;obtain ⟨m2,e2⟩:=tbls b _ e1;exact ⟨m1++m2,by rw [e2,Array.append_assoc]⟩
 ·obtain ⟨m,hn,hl⟩:=I.loc;refine ⟨m,ns m hn,fun i x v e1 e2 e3=>?_⟩;obtain ⟨u,r,l⟩:=hl i x v e1 e2 e3;refine ⟨u,r,?_⟩;rcases l with l | ⟨k,c,e,z⟩
  ·exact .inl l
  ·exact .inr ⟨k,c,e,cellK x c e _ z⟩
 ·obtain ⟨v,z⟩:=I.cell x c e;exact ⟨v,cellK x c e v z⟩
 ·obtain ⟨m,⟨o,_,_,ho,_⟩,_⟩:=I.loc;exact free _ o (fun z=>(hch _ z).2.1 rfl) ho I.free
 ·obtain ⟨v,o,ho,hd⟩:=I.cell x c e;exact free c o (fun z=>(hch c z).2.2.1 x c e rfl) ho (I.freeC x c e)
 ·obtain ⟨e,n,ne,nf,d⟩:=I.pin p hp;have nch:p.1∉ch:=fun z=>(hch p.1 z).2.2.2 p hp rfl;exact ⟨keep p.1 p.2 ne nf nch e n,free p.1 p.2 nch e n,ne,nf,d⟩
theorem Inv.un {t':Nat} (I:Inv X pins σ H s) (u:Un X.fs [] H H' s.heap h') (hok:HOk X.prog X.w H' h'):Inv X pins σ H' { s with heap:=h',toks:=t' }:=by
 obtain ⟨m,⟨o,es,ep,ho,r⟩,_⟩:=id I.loc;obtain ⟨sl,hL⟩:=u.any ho I.free (by simp);exact I.step (g':=s.gens) (d':=s.drawn) (ch:=[]) (fun _ z=>nomatch z) (fun b o _ hb _ e n=>u.keep b o e n hb (by simp)) (fun b o _ hb _ e n=>u.slot b o e n hb (by simp)) (fun b o _ e n=>u.free b o e n (by simp)) (fun b o _ e=>u.there b o e (by simp)) u.tups u.frzs u.tbls (fun m' hm=>by
  obtain ⟨o',es',ep',ho',r'⟩:=hm;rw [ho] at ho'; cases ho';exact ⟨_,es',ep',hL,r'⟩) hok I.bare
theorem Inv.call {g':Array GenState} {t':Nat} {d':Drawn} {ch:List Addr} (I:Inv X pins σ H s) (u:Un (frs X.stack) ch H H' s.heap h') (hok:HOk X.prog X.w H' h') (hg:AllBare g')
  (hch:∀ b∈ch,(b∈X.ex∨X.s₀.heap.objs.size≤b)∧b≠X.env.locals∧(∀ x c,X.env.cells.lookup x=some c→c≠b)∧∀ p∈X.pn++pins,p.1≠b) :
  Inv X pins σ H' { s with heap:=h',gens:=g',drawn:=d',toks:=t' }:=by
 obtain ⟨m,⟨o,es,ep,ho,r⟩,_⟩:=id I.loc;obtain ⟨sl,hL⟩:=u.any ho I.free fun z=>(hch _ z).2.1 rfl;exact I.step (ch:=ch) hch (fun b o hL hb hc e n=>u.keep b o e n (fun z=>(List.mem_cons.mp (I.stkSub b z)).elim hL hb) hc) (fun b o _ _ hc e n=>u.any e n hc) (fun b o hc e n=>u.free b o e n hc) (fun b o hc e=>u.there b o e hc) u.tups u.frzs u.tbls (fun m' hm=>by
  obtain ⟨o',es',ep',ho',r'⟩:=hm;rw [ho] at ho'; cases ho';exact ⟨_,es',ep',hL,r'⟩) hok hg
theorem Inv.turned {t':Nat} {it:Addr} (I:Inv X pins σ H s) (k:∀ b o,b≠it→s.heap.get? b=some o→h'.get? b=some o) (hn:H it=none) (hL:it≠X.env.locals)
  (h1:it∈X.ex∨X.s₀.heap.objs.size≤it) (h2:∀ x c,X.env.cells.lookup x=some c→c≠it) (h3:∀ p∈X.pn++pins,p.1≠it):Inv X pins σ H { s with heap:=h',toks:=t' }:=by
 have nit:∀ b u,H b=some u→b≠it:=fun b u e z=>by rw [z,hn] at e; cases e
 refine I.step (g':=s.gens) (d':=s.drawn) (ch:=[it]) (fun b hb=>?_) (fun b o _ _ hc e _=>k b o (fun z=>hc (by simp [z])) e) (fun b o _ _ hc e _=>⟨o.slots,k b o (fun z=>hc (by simp [z])) e⟩) (fun _ _ _ _ n=>n)
  (fun b o hc e=>⟨o,k b o (fun z=>hc (by simp [z])) e⟩) (fun _ _ e=>e) (fun _ _ _ e=>e) (fun b ps e=>⟨#[],by rw [e]; simp⟩) (fun m hm=>?_) (fun b u e=>?_) I.bare
 ·have e:b=it:=by simpa using hb
  subst e;exact ⟨h1,hL,h2,h3⟩
 ·obtain ⟨o,es,ep,ho,r⟩:=hm;exact ⟨o,es,ep,k _ o (Ne.symm hL) ho,r⟩
 ·refine (I.hok b u e).stay (fun c v hc q=>k c v ?_ q) (fun _ q=>q) fun _ _ q=>q;rcases hc with z | z
  ·rw [z]; exact nit b u e
  ·exact nit c _ z
theorem Inv.tok (I:Inv X pins σ H s) (t:Nat):Inv X pins σ H { s with toks:=t }:=I.un (h':=s.heap) (t':=t) Un.refl I.hok
theorem Inv.kept {t':Nat} (I:Inv X pins σ H s) (k:∀ b u,s.heap.get? b=some u→h'.get? b=some u):Inv X pins σ H { s with heap:=h',toks:=t' }:=I.un (Un.kept k) (I.hok.kept k)
theorem Inv.laid {a:Addr} {o:HO} {t':Nat} (I:Inv X pins σ H s) (k:∀ b u,s.heap.get? b=some u→h'.get? b=some u) (hp:s.heap.objs.size≤a) (new:bq X.prog X.w (upd H a o) h' a o) :
  Inv X pins σ (upd H a o) { s with heap:=h',toks:=t' }:=I.un (Un.laid k hp (I.hok.fresh hp)) (I.hok.laid k hp new)
theorem Inv.write {x e:Addr} {o:HO} {t':Nat} (I:Inv X pins σ H s) (mu:Mut (H x)) (he:e=x∨H e=some (.own x)) (k:∀ b u,b≠e→s.heap.get? b=some u→h'.get? b=some u) (heo:∃ u,h'.get? e=some u)
  (new:bq X.prog X.w (upd H x o) h' x o):Inv X pins σ (upd H x o) { s with heap:=h',toks:=t' }:=I.un (Un.write mu he k heo) (I.hok.write mu he k heo new)
theorem Inv.pins_of {pins':List (Addr×Obj)} (I:Inv X pins σ H s) (h:∀ p∈pins',s.heap.get? p.1=some p.2∧H p.1=none∧p.1≠X.env.locals∧p.1∉X.fs∧∀ v,p.2.data≠.cell v):Inv X pins' σ H s :=
 ⟨I.ok,I.os,I.bare,I.base,I.loc,I.cell,I.free,I.freeC,fun p hp=>(List.mem_append.mp hp).elim (fun z=>I.pin p (List.mem_append_left _ z)) (h p),I.hok,I.len⟩
theorem mE {N:List Str} (hN:N.Nodup) {i j:Nat} {x:Str} (a:N[i]?=some x) (b:N[j]?=some x):i=j:=by
 obtain ⟨h1,e1⟩:=List.getElem?_eq_some_iff.mp a;obtain ⟨h2,e2⟩:=List.getElem?_eq_some_iff.mp b;exact (List.getElem_inj hN).mp (e1.trans e2.symm)
theorem wq {M:Model} {A:Around} {E:Value→Shared→Prop} {i:Nat} {x:Str} {v:V} {u:Value} {Q:Unit→Shared→Prop} (I:Inv X pins σ H s) (hN:X.N.Nodup) (hi:X.N[i]?=some x) (hx:Loc X.env.scope x) (r:a7 v u)
    (h:∀ s',Inv X pins (σ.set i (some v)) H s'→(∃ a,Heap.SameBut a s.heap s'.heap∧(a=X.env.locals∨X.env.cells.lookup x=some a))→Q () s') (hf:X.fn x=true∨X.env.scope.names.lookup x=some .local:=by first | exact .inl rfl | exact .inr rfl | assumption):wpAny M A (storeName X.env x u) Q E s:=by
  obtain ⟨m,hn,hl⟩:=id I.loc;have hcls:(X.env.scope.kind==.class||(X.env.scope.kind==.module&&X.env.locals != X.env.globals))=false:=by rw [I.ok.kind]; rfl
  have hiσ:i<σ.length:=by rw [I.len]; exact (List.getElem?_eq_some_iff.mp hi).1
  have cne:=I.cne;have tracked:∀ {a:Addr} {h':Heap},(∃ o,s.heap.get? a=some o∧H a=none)→Heap.SameBut a s.heap h'→HOk X.prog X.w H h':=fun {a h'} ha hs b ob e=>by
    obtain ⟨_,_,hfree⟩:=ha;refine (I.hok b ob e).stay (fun c w' hc q=>(hs.2 c ?_).trans q) (fun _ q=>q) fun _ _ q=>q;rintro rfl;rcases hc with rfl | hc
    · rw [hfree] at e; cases e
    · rw [hfree] at hc; cases hc
  rcases hx with hk | hk
  · refine wpAny_storeName_local hk hn (fun h' hn' hs=>?_) hcls
    obtain ⟨oL,_,_,hoL,_⟩:=id hn;refine h _ ⟨I.ok,I.os,I.bare,⟨fun b o e n hb hx=>?_,fun b o e n hb hx=>?_,I.base.free,fun b o e hx=>?_,I.base.tups,I.base.frzs,I.base.tbls⟩,⟨_,hn',fun j y v' e1 e2 e3=>?_⟩,fun y c e=>?_,I.free,I.freeC,fun p hp=>?_,tracked ⟨oL,hoL,I.free⟩ hs,by simpa using I.len⟩ ⟨_,hs,.inl rfl⟩
    · exact (hs.2 b (Nat.ne_of_lt (Nat.lt_of_lt_of_le (Heap.lt_size e) I.ok.above))).trans (I.base.keep b o e n hb hx)
    · obtain ⟨sl,e1⟩:=I.base.slot b o e n hb hx
      exact ⟨sl,(hs.2 b (Nat.ne_of_lt (Nat.lt_of_lt_of_le (Heap.lt_size e) I.ok.above))).trans e1⟩
    · obtain ⟨o',e1⟩:=I.base.there b o e hx
      exact ⟨o',(hs.2 b (Nat.ne_of_lt (Nat.lt_of_lt_of_le (Heap.lt_size e) I.ok.above))).trans e1⟩
    · by_cases hj:j=i
      · subst hj
        rw [hi] at e1; cases e1;rw [List.getElem?_set_self hiσ] at e2
        cases e2;exact ⟨u,r,.inl ⟨hk,by simp⟩⟩
      · rw [List.getElem?_set_ne (Ne.symm hj)] at e2
        obtain ⟨u',r',q⟩:=hl j y v' e1 e2 e3;refine ⟨u',r',?_⟩;rcases q with ⟨k,e⟩ | ⟨k,c,e,z⟩
        · refine .inl ⟨k,?_⟩
          have:y≠x:=fun e=>hj (mE hN e1 (e ▸ hi))
          simp [this,e]
        · exact .inr ⟨k,c,e,z.sameBut hs (cne y c e)⟩
    · obtain ⟨w',z⟩:=I.cell y c e
      exact ⟨w',z.sameBut hs (cne y c e)⟩
    · obtain ⟨e,n,ne,nf,d⟩:=I.pin p hp
      exact ⟨(hs.2 p.1 ne).trans e,n,ne,nf,d⟩
  · have hfn:X.fn x=true:=by
      rcases hf with z | z
      · exact z
      · rw [z] at hk; cases hk
    obtain ⟨c,hc⟩:=I.ok.has x (.inl hk);obtain ⟨w',z⟩:=I.cell x c hc;refine wpAny_storeName_cell I.ok.kind hk hc z (fun h' hc' hs=>?_);obtain ⟨oc,hoc,hocd⟩:=id z;refine h { s with heap:=h' } ⟨I.ok,I.os,I.bare,⟨fun b o e n hb hx=>?_,fun b o e n hb hx=>?_,I.base.free,fun b o e hx=>?_,I.base.tups,I.base.frzs,I.base.tbls⟩,⟨m,hn.sameBut hs (Ne.symm (cne x c hc)),fun j y v' e1 e2 e3=>?_⟩,fun y c' e=>?_,I.free,I.freeC,fun p hp=>?_,tracked ⟨oc,hoc,I.freeC x c hc⟩ hs,by simpa using I.len⟩ ⟨c,hs,.inr hc⟩
    · exact (hs.2 b (Nat.ne_of_lt (Nat.lt_of_lt_of_le (Heap.lt_size e) (I.ok.cab x c hfn hc)))).trans (I.base.keep b o e n hb hx)
    · obtain ⟨sl,e1⟩:=I.base.slot b o e n hb hx
      exact ⟨sl,(hs.2 b (Nat.ne_of_lt (Nat.lt_of_lt_of_le (Heap.lt_size e) (I.ok.cab x c hfn hc)))).trans e1⟩
    · obtain ⟨o',e1⟩:=I.base.there b o e hx
      exact ⟨o',(hs.2 b (Nat.ne_of_lt (Nat.lt_of_lt_of_le (Heap.lt_size e) (I.ok.cab x c hfn hc)))).trans e1⟩
    · by_cases hj:j=i
      · subst hj
        rw [hi] at e1; cases e1;rw [List.getElem?_set_self hiσ] at e2
        cases e2;exact ⟨u,r,.inr ⟨.inl hk,c,hc,hc'⟩⟩
      · rw [List.getElem?_set_ne (Ne.symm hj)] at e2
        obtain ⟨u',r',q⟩:=hl j y v' e1 e2 e3;refine ⟨u',r',?_⟩;rcases q with q | ⟨k,c',e,z'⟩
        · exact .inl q
        · refine .inr ⟨k,c',e,z'.sameBut hs ?_⟩
          rintro rfl;exact hj (mE hN e1 (I.ok.inj _ _ _ e hc ▸ hi))
    · by_cases hcc:c'=c
      · subst hcc; exact ⟨_,hc'⟩
      · obtain ⟨w2,z2⟩:=I.cell y c' e
        exact ⟨w2,z2.sameBut hs hcc⟩
    · obtain ⟨e,n,ne,nf,d⟩:=I.pin p hp
      refine ⟨(hs.2 p.1 ?_).trans e,n,ne,nf,d⟩;intro q;rw [q,hoc] at e;have q':oc=p.2:=Option.some.inj e;exact d w' (by rw [← q']; exact hocd)
theorem eA {M:Model} {A:Around} {E:Value→Shared→Prop} {i:Nat} {x:Str} {v:V} {u:Value} {Q:Unit→Shared→Prop} (I:Inv X pins σ H s) (hN:X.N.Nodup) (hi:X.N[i]?=some x) (hx:Loc X.env.scope x) (r:a7 v u)
  (h:∀ s',Inv X pins (σ.set i (some v)) H s'→Q () s') (hf:X.fn x=true∨X.env.scope.names.lookup x=some .local:=by first | exact .inl rfl | exact .inr rfl | assumption):wpAny M A (storeName X.env x u) Q E s :=
 wq I hN hi hx r (fun s' I' _=>h s' I') hf
theorem Inv.call' {s':Shared} {ch:List Addr} (I:Inv X pins σ H s) (ho:s'.os=s.os) (u:Un (frs X.stack) ch H H' s.heap s'.heap) (hok:HOk X.prog X.w H' s'.heap) (hg:AllBare s'.gens)
  (hch:∀ b∈ch,(b∈X.ex∨X.s₀.heap.objs.size≤b)∧b≠X.env.locals∧(∀ x c,X.env.cells.lookup x=some c→c≠b)∧∀ p∈X.pn++pins,p.1≠b):Inv X pins σ H' s':=by
 obtain ⟨h',g',d',t',o'⟩:=s';have e:o'=s.os:=ho;subst e;exact I.call (g':=g') (t':=t') (d':=d') u hok hg hch
end
noncomputable abbrev XK:=Value→Option Addr→Hp→Prop
noncomputable abbrev St:=List (Option V)
noncomputable abbrev VK:=V→Hp→Prop
noncomputable abbrev TE:=St→Hp→VK→Prop
noncomputable abbrev TT:=St→Hp→(Bool→Hp→Prop)→Prop
noncomputable abbrev TA:=St→Hp→(List V→Hp→Prop)→Prop
structure cU where
 nx:St→Hp→Prop
 rt:VK
 bk:St→Hp→Prop:=fun _ _=>False
 ct:St→Hp→Prop:=fun _ _=>False
noncomputable abbrev TS:=cU→St→Hp→Prop
def EP (X:Cx) (pins:List (Addr×Obj)) (σ:St) (Q:VK) (u:Value) (s':Shared):Prop:=∃ v H',Inv X pins σ H' s'∧a7 v u∧Q v H'
def TP (X:Cx) (pins:List (Addr×Obj)) (σ:St) (Q:Bool→Hp→Prop) (b:Bool) (s':Shared):Prop:=∃ H',Inv X pins σ H' s'∧Q b H'
def AP (X:Cx) (pins:List (Addr×Obj)) (σ:St) (Q:List V→Hp→Prop) (us:List Value) (s':Shared):Prop:=∃ vs H',Inv X pins σ H' s'∧a9 vs us∧Q vs H'
def SP (X:Cx) (pins:List (Addr×Obj)) (D:cU) (f:Flow) (s':Shared):Prop :=
 match f with
 | .next=>∃ σ' H',Inv X pins σ' H' s'∧D.nx σ' H'
 | .brk=>∃ σ' H',Inv X pins σ' H' s'∧D.bk σ' H'
 | .cont=>∃ σ' H',Inv X pins σ' H' s'∧D.ct σ' H'
 | .ret u=>∃ v σ' H',Inv X pins σ' H' s'∧a7 v u∧D.rt v H'
def PE (X:Cx) (e:Expr) (t:TE):Prop :=
 ∀ (pins:List (Addr×Obj)) (s:Shared) (σ:St) (H:Hp) (Q:VK),Inv X pins σ H s→t σ H Q→wpAny (model X.prog X.w) X.A (eval e X.env) (EP X pins σ Q) X.xe s
def PT (X:Cx) (e:Expr) (t:TT):Prop :=
 ∀ (pins:List (Addr×Obj)) (s:Shared) (σ:St) (H:Hp) (Q:Bool→Hp→Prop),Inv X pins σ H s→t σ H Q→wpAny (model X.prog X.w) X.A (isTrue e X.env (eval e X.env)) (TP X pins σ Q) X.xe s
def PW (X:Cx) (e:Expr) (t:TT):Prop :=
 ∀ (whole:Sem Value) (pins:List (Addr×Obj)) (s:Shared) (σ:St) (H:Hp) (Q:Bool→Hp→Prop),Inv X pins σ H s→t σ H Q→wpAny (model X.prog X.w) X.A (isTrue e X.env whole) (TP X pins σ Q) X.xe s
theorem PW.pt {X:Cx} {e:Expr} {t:TT} (h:PW X e t):PT X e t:=h _
def PA (X:Cx) (es:List Expr) (t:TA):Prop :=
 ∀ (pos:Pos) (pins:List (Addr×Obj)) (s:Shared) (σ:St) (H:Hp) (Q:List V→Hp→Prop),Inv X pins σ H s→t σ H Q→wpAny (model X.prog X.w) X.A (spliced (backTo pos (starEach es X.env))) (AP X pins σ Q) X.xe s
def PS (X:Cx) (st:Stmt) (t:TS):Prop :=
 ∀ (pins:List (Addr×Obj)) (s:Shared) (σ:St) (H:Hp) (D:cU),Inv X pins σ H s→t D σ H→wpAny (model X.prog X.w) X.A (exec st X.env) (SP X pins D) X.xe s
def PSs (X:Cx) (st:List Stmt) (t:TS):Prop :=
 ∀ (pins:List (Addr×Obj)) (s:Shared) (σ:St) (H:Hp) (D:cU),Inv X pins σ H s→t D σ H→wpAny (model X.prog X.w) X.A (execs st X.env) (SP X pins D) X.xe s
theorem thn {α:Type} {t:Sem α} {Q Q':α→Shared→Prop} {M:Model} {A:Around} {E:Value→Shared→Prop} {s:Shared} (h:wpAny M A t Q E s) (hQ:∀ a s,Q a s→Q' a s):wpAny M A t Q' E s:=wpAny_mono h hQ fun _ _ x=>x
section
variable {X:Cx}
def DB (i:Nat):TE:=fun σ H Q=>∃ v,σ[i]?=some (some v)∧Q v H
def tC (v:V):TE:=fun _ H Q=>Q v H
theorem yo {i:Nat} {x:Str} {pos:Pos} (hN:X.N[i]?=some x) (hv:Vis X.env.scope x) (hd:(x==("__debug__":Str))=false:=by decide) (hcd:(x==("__classdict__":Str))=false:=by decide):PE X (.Name x pos) (DB i):=by
 intro pins s σ H Q I h;obtain ⟨v,e,h⟩:=h;obtain ⟨m,hn,hl⟩:=I.loc;obtain ⟨u,r,l⟩:=hl i x v hN e hv;have fin:EP X pins σ Q u s:=⟨v,H,I,r,h⟩
 rcases l with ⟨hk,hm⟩ | ⟨hk,c,hc,hcell⟩
 ·exact wpAny_Name (wpAny_loadName_local I.ok.kind hk hn hm fin) hd
 ·rcases hk with hk | hk
  ·exact wpAny_Name (wpAny_loadName_cell I.ok.kind hk hc hcell fin) hd
  ·exact wpAny_Name (wpAny_loadName_free I.ok.kind hk hc hcell fin hcd) hd
theorem ae {i j pos}:PE X (.Constant (.int i) j pos) (tC (.int i)):=fun _ _ _ H _ I h=>wpAny_Constant_int ⟨.int i,H,I.tok _,⟨_,rfl⟩,h⟩
theorem fz {b j pos}:PE X (.Constant (.bool b) j pos) (tC (.bl b)):=fun _ _ _ H _ I h=>Constant_bool ⟨.bl b,H,I,rfl,h⟩
theorem ja {j pos}:PE X (.Constant .none j pos) (tC .non):=fun _ _ _ H _ I h=>Constant_none ⟨.non,H,I,rfl,h⟩
theorem aj {x j pos}:PE X (.Constant (.str x) j pos) (tC (.str x)):=fun _ _ _ H _ I h=>Calls.Constant_str ⟨.str x,H,I.tok _,⟨_,rfl⟩,h⟩
def Gl (X:Cx) (x:Str):Prop:=X.env.kindOf x=some .globalImplicit
theorem dX {E:Value→Shared→Prop} {pins:List (Addr×Obj)} {s:Shared} {σ:St} {H:Hp} {x:Str} {u:Value} {pos:Pos} {Q:Value→Shared→Prop} (I:Inv X pins σ H s) (hg:Gl X x) (hm:X.mg x=some u) (h:Q u s)
  (hd:(x==("__debug__":Str))=false:=by decide):wpAny (model X.prog X.w) X.A (eval (.Name x pos) X.env) Q E s :=
 Calls.Name_function_global I.ok.kind hg (Calls.loadGlobal_global (by rw [I.ok.glob]; exact I.mod.glob.keeps I.bk) hm h) hd
theorem mC {E:Value→Shared→Prop} {pins:List (Addr×Obj)} {s:Shared} {σ:St} {H:Hp} {x:Str} {u:Value} {pos:Pos} {Q:Value→Shared→Prop} (I:Inv X pins σ H s) (hg:Gl X x) (hm:X.mg x=none) (hv:bootBuiltins x=some u) (h:Q u s)
  (hn:x≠"__name__":=by decide) (hd:(x==("__debug__":Str))=false:=by decide):wpAny (model X.prog X.w) X.A (eval (.Name x pos) X.env) Q E s:=by
 obtain ⟨mb,h1,h2⟩:=I.mod.blt;exact Calls.Name_function_global I.ok.kind hg (Calls.loadGlobal_builtin (by rw [I.ok.glob]; exact I.mod.glob.keeps I.bk) hm (by rw [I.ok.blt]; exact h1.keeps I.bk) ((h2 x hn).trans hv) h) hd
theorem dC {x:Str} {v:V} {u:Value} {pos:Pos} (hg:Gl X x) (hm:X.mg x=some u) (r:a7 v u) (hd:(x==("__debug__":Str))=false:=by decide):PE X (.Name x pos) (tC v) :=
 fun _ _ _ H _ I h=>dX I hg hm ⟨v,H,I,r,h⟩ hd
theorem cz {x:Str} {v:V} {u:Value} {pos:Pos} (hg:Gl X x) (hm:X.mg x=none) (hv:bootBuiltins x=some u) (r:a7 v u) (hn:x≠"__name__":=by decide) (hd:(x==("__debug__":Str))=false:=by decide):PE X (.Name x pos) (tC v) :=
 fun _ _ _ H _ I h=>mC I hg hm hv ⟨v,H,I,r,h⟩ hn hd
variable {a b:Expr} {ta tb:TE} {pos:Pos}
def PC (X:Cx) (op:CmpOp) (a b:Expr) (t:TE):Prop :=
 ∀ (pins:List (Addr×Obj)) (s:Shared) (σ:St) (H:Hp) (Q:VK),Inv X pins σ H s→t σ H Q →
  wpAny (model X.prog X.w) X.A (eval a X.env) (fun v s₁=>wpAny (model X.prog X.w) X.A (eval b X.env) (fun u s₂=>wpAny (model X.prog X.w) X.A (compareOp op v u) (EP X pins σ Q) X.xe s₂) X.xe s₁) X.xe s
def tB (t:TE):TT:=fun σ H Q=>t σ H fun x H1=>∃ c,x=.bl c∧Q c H1
theorem yh {op:CmpOp} {t:TE} (h:PC X op a b t) (h1:behindInMarks op b=false:=by first | exact nobehind _ (by decide) (by decide) | rfl):PE X (.Compare a [op] [b] pos) t:=fun pins s σ H Q I hw=>wpAny_Compare1 (h pins s σ H Q I hw) h1
theorem pT {op:CmpOp} {t:TE} (h:PC X op a b t) (h1:behindInMarks op b=false:=by first | exact nobehind _ (by decide) (by decide) | rfl):PT X (.Compare a [op] [b] pos) (tB t):=by
 intro pins s σ H Q I hw;refine wpAny_isTrue_Compare1 (thn (h pins s σ H _ I hw) fun v s1 h1=>thn h1 fun u s2 h2=>thn h2 fun c s3 ⟨x,H1,I1,r1,q1⟩=>?_) h1;obtain ⟨d,rfl,q⟩:=q1
 cases r1;exact wpAny_truthy_bool ⟨H1,I1,q⟩
theorem cF {e:Expr} {t:TE} (h:PE X e t) (he:∀ whole,isTrue e X.env whole=(do let v ← whole; standAt e.pos; holding [v] (truthy v)):=by intro _; rfl):PT X e (tB t):=by
 intro pins s σ H Q I hw;refine isTrue_plain (thn (h pins s σ H _ I hw) fun v s1 ⟨x,H1,I1,r1,q1⟩=>?_) (he _);obtain ⟨d,rfl,q⟩:=q1
 cases r1;exact wpAny_truthy_bool ⟨H1,I1,q⟩
variable {tA tB':TT} {dw:List Expr}
def Eo (t u:TT):TT:=fun σ H Q=>t σ H fun c H1=>if c=true then u σ H1 Q else Q false H1
def tOr (t u:TT):TT:=fun σ H Q=>t σ H fun c H1=>if c=true then Q true H1 else u σ H1 Q
def Ew (t:TT):TT:=fun σ H Q=>t σ H fun c H1=>Q (!c) H1
theorem dE (ha:PT X a tA):PW X (.BoolOp .And [a] pos) tA:=by
 intro wh pins s σ H Q I h;refine isTrue_and (thn (ha pins s σ H Q I h) fun c s1 e=>?_)
 cases c with
 | true=>exact isTrue_and_nil e
 | false=>exact e
theorem eX (ha:PT X a tA):PW X (.BoolOp .Or [a] pos) tA:=by
 intro wh pins s σ H Q I h;refine isTrue_or (thn (ha pins s σ H Q I h) fun c s1 e=>?_)
 cases c with
 | false=>exact isTrue_or_nil e
 | true=>exact e
theorem cG (ha:PT X a tA) (hb:PW X (.BoolOp .And (b::dw) pos) tB'):PW X (.BoolOp .And (a::b::dw) pos) (Eo tA tB'):=by
 intro wh pins s σ H Q I h;refine isTrue_and (thn (ha pins s σ H _ I h) fun c s1 ⟨H1,I1,q1⟩=>?_)
 cases c with
 | true=>exact hb wh pins s1 σ H1 Q I1 q1
 | false=>exact ⟨H1,I1,q1⟩
theorem fC (ha:PT X a tA) (hb:PW X (.BoolOp .Or (b::dw) pos) tB'):PW X (.BoolOp .Or (a::b::dw) pos) (tOr tA tB'):=by
 intro wh pins s σ H Q I h;refine isTrue_or (thn (ha pins s σ H _ I h) fun c s1 ⟨H1,I1,q1⟩=>?_)
 cases c with
 | true=>exact ⟨H1,I1,q1⟩
 | false=>exact hb wh pins s1 σ H1 Q I1 q1
theorem dD (ha:PT X a tA):PT X (.UnaryOp .Not a pos) (Ew tA):=by
 intro pins s σ H Q I h;exact isTrue_not (ha pins s σ H (fun c H1=>Q (!c) H1) I h)
def B5 (ta tb:TE):TE:=fun σ H Q=>ta σ H fun x H1=>∃ c,x=.bl c∧if c=true then tb σ H1 Q else Q (.bl false) H1
def Cf (ta:TE):TE:=fun σ H Q=>ta σ H fun x H1=>∃ c,x=.bl c∧Q (.bl (!c)) H1
theorem km {op} {t:TE} (h:PE X a t):PE X (.BoolOp op [a] pos) t:=fun pins s σ H Q I hw=>BoolOp_one (h pins s σ H Q I hw)
theorem kj (ha:PE X a ta) (hb:PE X (.BoolOp .And (b::dw) pos) tb):PE X (.BoolOp .And (a::b::dw) pos) (B5 ta tb):=by
 intro pins s σ H Q I h;refine BoolOp_and (thn (ha pins s σ H _ I h) fun v s1 ⟨x,H1,I1,r1,q1⟩=>?_);obtain ⟨c,rfl,q1⟩:=q1
 cases r1;refine wpAny_truthy_bool ?_
 cases c with
 | true=>exact hb pins s1 σ H1 Q I1 q1
 | false=>exact ⟨.bl false,H1,I1,rfl,q1⟩
theorem CQ (ha:PE X a ta):PE X (.UnaryOp .Not a pos) (Cf ta):=by
 intro pins s σ H Q I h;refine UnaryOp_ (thn (ha pins s σ H _ I h) fun v s1 ⟨x,H1,I1,r1,q1⟩=>?_);obtain ⟨c,rfl,q1⟩:=q1
 cases r1;exact not_of (wpAny_truthy_bool ⟨.bl (!c),H1,I1,rfl,q1⟩)
def tIf (t:TT) (ta tb:TE):TE:=fun σ H Q=>t σ H fun c H1=>if c=true then ta σ H1 Q else tb σ H1 Q
theorem fX {c:Expr} (hc:PT X c tA) (ha:PE X a ta) (hb:PE X b tb):PE X (.IfExp c a b pos) (tIf tA ta tb):=by
 intro pins s σ H Q I h;refine wpAny_IfExp (thn (hc pins s σ H _ I h) fun d s1 ⟨H1,I1,q1⟩=>?_)
 cases d with
 | true=>exact ha pins s1 σ H1 Q I1 q1
 | false=>exact hb pins s1 σ H1 Q I1 q1
end
def SqL (K:W.Frag) (H:Hp) (a:Addr) (xs:List V):Prop :=
 Rd H a (.lst xs) ∨
  ∃ (o:Obj) (its:Array Value) (n:Nat),K.lookup a=some o∧o.cls=.type "list"∧o.dict=none∧o.data=.seq its n∧its.size≤sizeLine∧a9 xs its.toList
def SqT (K:W.Frag) (H:Hp) (a:Addr) (xs:List V):Prop :=
 Rd H a (.tup xs) ∨
  ∃ (o:Obj) (its:Array Value) (n:Nat),K.lookup a=some o∧o.cls=.type "tuple"∧o.data=.seq its n∧its.size≤sizeLine∧a9 xs its.toList
noncomputable def EK:Value→Option V
 | .none=>some .non
 | .bool b=>some (.bl b)
 | .int i _=>some (.int i)
 | .str x _=>some (.str x)
 | .bytes b _=>some (.byt b)
 | .float b _=>some (.flt b)
 | .ref a=>some (.ref a)
 | .type n=>some (.ty n)
 | _=>none
theorem a7.abs {x:V} {u:Value} (r:a7 x u):EK u=some x:=by
 cases x with
 | non=>cases r; rfl
 | bl _=>cases r; rfl
 | int _=>obtain ⟨t,rfl⟩:=r; rfl
 | str _=>obtain ⟨t,rfl⟩:=r; rfl
 | byt _=>obtain ⟨t,rfl⟩:=r; rfl
 | flt _=>obtain ⟨t,rfl⟩:=r; rfl
 | ref _=>cases r; rfl
 | ty _=>cases r; rfl
theorem a7.inj {x y:V} {u:Value} (r:a7 x u) (q:a7 y u):x=y:=Option.some.inj (r.abs.symm.trans q.abs)
theorem a9.inj:∀ {xs ys:List V} {us:List Value},a9 xs us→a9 ys us→xs=ys
 | _,_,_,.nil,.nil=>rfl
 | _,_,_,.cons r t,.cons r' t'=>by rw [r.inj r',a9.inj t t']
section
variable {X:Cx} {pins:List (Addr×Obj)} {σ:St} {H:Hp} {s:Shared} {a:Addr} {xs ys:List V}
theorem SqL.of {K:W.Frag} (h:H a=some (.lst xs)):SqL K H a xs:=.inl (.inl h)
theorem SqT.of {K:W.Frag} (h:H a=some (.tup xs)):SqT K H a xs:=.inl (.inl h)
theorem Inv.list (I:Inv X pins σ H s) (h:SqL X.K H a xs):∃ its:List Value,a9 xs its∧PlainL s.heap a its.toArray∧xs.length≤sizeLine:=by
 rcases h with h | ⟨o,its,n,hk,hc,hd,hs,hz,r⟩
 ·obtain ⟨z,its,n,r,e⟩:=h.ok I.hok;exact ⟨its,r,⟨_,n,e,rfl,rfl,rfl⟩,z⟩
 ·refine ⟨its.toList,r,⟨o,n,I.kIn a o hk,hc,hd,by simpa using hs⟩,?_⟩;have e:=r.length;simp only [Array.length_toList] at e;omega
theorem Inv.tuple (I:Inv X pins σ H s) (h:SqT X.K H a xs):∃ its:List Value,a9 xs its∧IsTup s.heap a its.toArray∧xs.length≤sizeLine:=by
 rcases h with h | ⟨o,its,n,hk,hc,hs,hz,r⟩
 ·obtain ⟨z,its,r,p⟩:=h.ok I.hok;exact ⟨its,r,p,z⟩
 ·refine ⟨its.toList,r,⟨o,I.kIn a o hk,hc,n,by simpa using hs⟩,?_⟩;have e:=r.length;simp only [Array.length_toList] at e;omega
theorem Inv.list_inj (I:Inv X pins σ H s) (h:SqL X.K H a xs) (h':SqL X.K H a ys):xs=ys:=by
 obtain ⟨its,r,⟨o,n,e,_,_,d⟩,_⟩:=I.list h;obtain ⟨its',r',⟨o',n',e',_,_,d'⟩,_⟩:=I.list h';rw [e] at e'; cases e';rw [d] at d';injection d' with d1 _;have:its=its':=by simpa using congrArg Array.toList d1
 subst this;exact r.inj r'
theorem Inv.tuple_inj (I:Inv X pins σ H s) (h:SqT X.K H a xs) (h':SqT X.K H a ys):xs=ys:=by
 obtain ⟨its,r,⟨o,e,_,n,d⟩,_⟩:=I.tuple h;obtain ⟨its',r',⟨o',e',_,n',d'⟩,_⟩:=I.tuple h';rw [e] at e'; cases e';rw [d] at d';injection d' with d1 _;have:its=its':=by simpa using congrArg Array.toList d1
 subst this;exact r.inj r'
end
noncomputable abbrev Cx.wish (X:Cx) (E:Value→Shared→Prop):Cx:={ X with xe:=E }
noncomputable abbrev Cx.nox (X:Cx):Cx:=X.wish fun _ _=>False
theorem Cx.Ok.wish {X:Cx} (ok:X.Ok) (E:Value→Shared→Prop):(X.wish E).Ok :=
 ⟨ok.mod,ok.kind,ok.glob,ok.blt,ok.above,ok.inj,ok.has,ok.cab,ok.hd,ok.frames,ok.stk,ok.exf,ok.bs,ok.bsz,ok.noex,ok.exfs,ok.funs,ok.frf⟩
theorem Cx.Ok.unwish {X:Cx} {E:Value→Shared→Prop} (ok:(X.wish E).Ok):X.Ok :=
 ⟨ok.mod,ok.kind,ok.glob,ok.blt,ok.above,ok.inj,ok.has,ok.cab,ok.hd,ok.frames,ok.stk,ok.exf,ok.bs,ok.bsz,ok.noex,ok.exfs,ok.funs,ok.frf⟩
section
variable {X:Cx} {pins:List (Addr×Obj)} {σ:St} {H:Hp} {s:Shared} {E:Value→Shared→Prop}
theorem Inv.wish (I:Inv X pins σ H s) (E:Value→Shared→Prop):Inv (X.wish E) pins σ H s:=⟨I.ok.wish E,I.os,I.bare,I.base,I.loc,I.cell,I.free,I.freeC,I.pin,I.hok,I.len⟩
theorem Inv.unwish (I:Inv (X.wish E) pins σ H s):Inv X pins σ H s:=⟨I.ok.unwish,I.os,I.bare,I.base,I.loc,I.cell,I.free,I.freeC,I.pin,I.hok,I.len⟩
theorem SP.unwish {D:cU} {f:Flow} {s':Shared} (h:SP (X.wish E) pins D f s'):SP X pins D f s':=by
 cases f with
 | next=>obtain ⟨σ',H',I,q⟩:=h; exact ⟨σ',H',I.unwish,q⟩
 | brk=>obtain ⟨σ',H',I,q⟩:=h; exact ⟨σ',H',I.unwish,q⟩
 | cont=>obtain ⟨σ',H',I,q⟩:=h; exact ⟨σ',H',I.unwish,q⟩
 | ret u=>obtain ⟨v,σ',H',I,r,q⟩:=h; exact ⟨v,σ',H',I.unwish,r,q⟩
theorem PSs.nox {st:List Stmt} {t:TS} (h:PSs X.nox st t):PSs X st t:=fun pins s σ H D I hw =>
 wpAny_mono (h pins s σ H D (I.wish _) hw) (fun _ _ q=>q.unwish) fun _ _ z=>False.elim z
end
section
variable {X:Cx} {st:Stmt} {dw:List Stmt} {t u:TS} {e:Expr} {te:TE} {pos:Pos}
def Ce:TS:=fun D σ H=>D.nx σ H
def BH (t u:TS):TS:=fun D σ H=>t { D with nx:=u D } σ H
theorem aI:PSs X [] Ce:=fun _ _ σ H _ I h=>wpAny_execs_nil ⟨σ,H,I,h⟩
theorem aK (h1:PS X st t) (h2:PSs X dw u):PSs X (st::dw) (BH t u):=by
 intro pins s σ H D I h;refine wpAny_execs_cons (thn (h1 pins s σ H { D with nx:=u D } I h) fun f s1 q=>?_)
 cases f with
 | next =>
  obtain ⟨σ',H',I',q⟩:=q;exact h2 pins s1 σ' H' D I' q
 | ret v=>exact q
 | brk=>exact q
 | cont=>exact q
theorem ak (h1:PS X st t):PSs X [st] t:=by
 intro pins s σ H D I h;refine wpAny_execs_cons (thn (h1 pins s σ H D I h) fun f s1 q=>?_)
 cases f with
 | next=>exact wpAny_execs_nil q
 | ret v=>exact q
 | brk=>exact q
 | cont=>exact q
theorem Inv.quiet {pins:List (Addr×Obj)} {σ:St} {H:Hp} {s:Shared} (I:Inv X pins σ H s):interactive X.env=false:=by simp [interactive,I.ok.kind]
def Ca (te:TE):TS:=fun D σ H=>te σ H fun _ H1=>D.nx σ H1
theorem bG (he:PE X e te) (hs:swapsWith e none pos.line X.env=pure false:=by rfl):PS X (.Expr e pos) (Ca te):=by
 intro pins s σ H D I h;exact wpAny_Expr_any (thn (he pins s σ H _ I h) fun v s1 ⟨x,H1,I1,r1,q1⟩=>⟨σ,H1,I1,q1⟩) I.quiet hs
def Ey (te:TE):TS:=fun D σ H=>te σ H D.rt
theorem aJ (he:PE X e te):PS X (.Return (some e) pos) (Ey te):=by
 intro pins s σ H D I h;exact wpAny_Return_some (thn (he pins s σ H _ I h) fun v s1 ⟨x,H1,I1,r1,q1⟩=>⟨x,σ,H1,I1,r1,q1⟩)
def Ci:TS:=fun D _ H=>D.rt .non H
theorem uR:PS X (.Return none pos) Ci:=fun _ _ σ H _ I h=>wpAny_Return_none ⟨.non,σ,H,I,rfl,h⟩
def Eu (c:TT) (t u:TS):TS:=fun D σ H=>c σ H fun b H1=>if b=true then t D σ H1 else u D σ H1
theorem aW {c:Expr} {a b:List Stmt} {tc:TT} (hc:PT X c tc) (ha:PSs X a t) (hb:PSs X b u):PS X (.If c a b pos) (Eu tc t u):=by
 intro pins s σ H D I h;refine wpAny_If (thn (hc pins s σ H _ I h) fun d s1 ⟨H1,I1,q1⟩=>?_)
 cases d with
 | true=>exact ha pins s1 σ H1 D I1 q1
 | false=>exact hb pins s1 σ H1 D I1 q1
end
noncomputable abbrev TG:=V→St→Hp→(St→Hp→Prop)→Prop
noncomputable abbrev TGs:=List V→St→Hp→(St→Hp→Prop)→Prop
def PG (X:Cx) (target:Expr) (t:TG):Prop :=
 ∀ (pins:List (Addr×Obj)) (s:Shared) (σ:St) (H:Hp) (v:V) (u:Value) (Q:St→Hp→Prop),Inv X pins σ H s→a7 v u→t v σ H Q →
  wpAny (model X.prog X.w) X.A (assign target X.env u) (fun _ s'=>∃ σ' H',Inv X pins σ' H' s'∧Q σ' H') X.xe s
def PGs (X:Cx) (ts:List Expr) (t:TGs):Prop :=
 ∀ (pins:List (Addr×Obj)) (s:Shared) (σ:St) (H:Hp) (vs:List V) (us:List Value) (Q:St→Hp→Prop),Inv X pins σ H s→a9 vs us→t vs σ H Q →
  wpAny (model X.prog X.w) X.A (assignInOrder ((assignEach ts X.env).map (·.2)) us) (fun _ s'=>∃ σ' H',Inv X pins σ' H' s'∧Q σ' H') X.xe s
noncomputable abbrev EJ:=V→V→V→Hp→(Hp→Prop)→Prop
noncomputable abbrev TIp:=V→V→Hp→VK→Prop
def PIp (X:Cx) (op:Operator) (t:TIp):Prop :=
 ∀ (pins:List (Addr×Obj)) (s:Shared) (σ:St) (H:Hp) (x y:V) (v u:Value) (Q:VK),Inv X pins σ H s→a7 x v→a7 y u→t x y H Q →
  wpAny (model X.prog X.w) X.A (inplaceOp op v u) (EP X pins σ Q) X.xe s
section
variable {X:Cx} {pos:Pos}
def d7 (i:Nat):TG:=fun v σ H Q=>Q (σ.set i (some v)) H
theorem aP {i:Nat} {x:Str} (hN:X.N.Nodup) (hi:X.N[i]?=some x) (hx:Loc X.env.scope x) (hf:X.fn x=true∨X.env.scope.names.lookup x=some .local:=by first | exact .inl rfl | exact .inr rfl | assumption):PG X (.Name x pos) (d7 i):=by
 intro pins s σ H v u Q I r h;exact wpAny_assign_Name (eA I hN hi hx r (fun s' I'=>⟨_,H,I',h⟩) hf)
def xn:TGs:=fun vs σ H Q=>vs=[]∧Q σ H
def kT (t:TG) (u:TGs):TGs:=fun vs σ H Q=>∃ v r,vs=v::r∧t v σ H fun σ' H'=>u r σ' H' Q
theorem fB:PGs X [] xn:=by
 intro pins s σ H vs us Q I r h;obtain ⟨e,h⟩:=h;subst e
 cases r;exact assignInOrder_nil ⟨σ,H,I,h⟩
theorem bJ {e:Expr} {es:List Expr} {t:TG} {u:TGs} (h1:PG X e t) (h2:PGs X es u)
  (hs:(assignEach (e::es) X.env).map (·.2)=assign e X.env::(assignEach es X.env).map (·.2):=by rfl):PGs X (e::es) (kT t u):=by
 intro pins s σ H vs us Q I r h;obtain ⟨v,vr,e1,h⟩:=h;subst e1
 cases r with
 | cons r rr =>
  rw [hs];refine assignInOrder_cons (thn (h1 pins s σ H _ _ _ I r h) fun _ s1 ⟨σ1,H1,I1,q1⟩=>?_);exact h2 pins s1 σ1 H1 _ _ Q I1 rr q1
def vz (K:W.Frag) (n:Nat) (t:TGs):TG:=fun v σ H Q=>∃ a xs,v=.ref a∧SqT K H a xs∧xs.length=n∧t xs σ H Q
theorem CS {es:List Expr} {k:Nat} {t:TGs} {n:Nat} (hc:X.calm=true) (h:PGs X es t)
  (hn:(assignEach es X.env).length=n:=by rfl) (hst:(assignEach es X.env).findIdx? (·.1)=none:=by rfl):PG X (.Tuple es k pos) (vz X.K n t):=by
 intro pins s σ H v u Q I r hw;obtain ⟨a,xs,e1,hq,hl,hw⟩:=hw;subst e1
 cases r;obtain ⟨its,rv,ht,hz⟩:=I.tuple hq;refine assign_Tuple_tuple (I.ok.hd hc) ht (by simp [hn,← hl,rv.length]) hst fun h' hx=>?_;have I1:Inv X pins σ H { s with heap:=h' }:=I.kept (t':=s.toks) fun b o e=>hx b o (Nat.ne_of_lt (Heap.lt_size e)) e;exact h pins _ σ H xs _ Q I1 (by simpa using rv) hw
def wu (te:TE) (g:TG):TS:=fun D σ H=>te σ H fun x H1=>g x σ H1 D.nx
theorem tM {tg e:Expr} {te:TE} {g:TG} (he:PE X e te) (hg:PG X tg g) (hs:swapsWithSole [tg] e pos.line X.env=pure false:=by rfl) (hw:swappedStores [tg] e X.env=pure none:=by rfl)
  (h1:(assignEach [tg] X.env).map (·.2)=[assign tg X.env]:=by rfl):PS X (.Assign [tg] e pos) (wu te g):=by
 intro pins s σ H D I h;refine wpAny_Assign_stores (thn (he pins s σ H _ I h) fun v s1 ⟨x,H1,I1,r1,q1⟩=>?_) hs hw;rw [h1];exact thn (hg pins s1 σ H1 x v _ I1 r1 q1) fun _ s2 q=>q
theorem jb {i:Nat} {x:Str} {e:Expr} {te:TE} {pos':Pos} (hN:X.N.Nodup) (hi:X.N[i]?=some x) (hx:Loc X.env.scope x) (he:PE X e te) (hs:swapsWith e (some (.Name x pos')) pos.line X.env=pure false:=by rfl) (hf:X.fn x=true∨X.env.scope.names.lookup x=some .local:=by first | exact .inl rfl | exact .inr rfl | assumption) :
  PS X (.Assign [.Name x pos'] e pos) (wu te (d7 i)):=by
 intro pins s σ H D I h;refine wpAny_Assign_Name (thn (he pins s σ H _ I h) fun v s1 ⟨y,H1,I1,r1,q1⟩=>?_) hs;exact eA I1 hN hi hx r1 (fun s2 I2=>⟨_,H1,I2,q1⟩) hf
def Ex (i j:Nat) (ta:TA):TS:=fun D σ H=>ta σ H fun vs H1=>∃ v w,vs=[v,w]∧D.nx ((σ.set i (some v)).set j (some w)) H1
theorem tN {i j:Nat} {x y:Str} {a b:Expr} {ta:TA} {px py pt:Pos} {kt k2 pt2} (hc:X.calm=true) (hN:X.N.Nodup) (hi:X.N[i]?=some x) (hj:X.N[j]?=some y) (hij:i≠j)
  (hx:X.env.scope.names.lookup x=some .local) (hy:X.env.scope.names.lookup y=some .local) (ha:PA X [a,b] ta)
  (hw:swappedStores [.Tuple [.Name x px,.Name y py] kt pt] (.Tuple [a,b] k2 pt2) X.env=pure (some [x,y]))
  (hs:swapsWithSole [.Tuple [.Name x px,.Name y py] kt pt] (.Tuple [a,b] k2 pt2) pos.line X.env=pure false:=by rfl) :
  PS X (.Assign [.Tuple [.Name x px,.Name y py] kt pt] (.Tuple [a,b] k2 pt2) pos) (Ex i j ta):=by
 intro pins s σ H D I h;rw [exec_Assign_arm];refine wpAny_bind (wpAny_standAt ?_);rw [hs];refine wpAny_bind (wpAny_pure ?_);rw [if_neg (by decide)];refine wpAny_bind (Tuple_ (thn (ha _ pins s σ H _ I h) fun us s1 ⟨vs,H1,I1,r1,q1⟩=>?_));obtain ⟨v,w,e1,q1⟩:=q1;subst e1;obtain ⟨u1,u2,rfl,rv,rw'⟩:∃ u1 u2,us=[u1,u2]∧a7 v u1∧a7 w u2:=by
  cases r1 with
  | cons p q =>
   cases q with
   | cons p' q' =>
    cases q';exact ⟨_,_,rfl,p,p'⟩
 refine wpAny_newObj_type ?_ (by show 2≤sizeLine; decide);have I2:Inv X pins σ H1 { s1 with heap:=s1.heap.push { cls:=.type "tuple",data:=.seq [u1,u2].toArray } }:=I1.kept (t':=s1.toks) fun b o e=>Heap.get?_push_of_some _ e;rw [hw];refine wpAny_bind (wpAny_pure ?_)
 show wpAny (model X.prog X.w) X.A (do rule "assign.swapped-stores"; let items ← unpackItems (.ref s1.heap.objs.size) 2 none; assignInOrder [fun v=>bindName X.env y v,fun v=>bindName X.env x v] items.reverse; pure Flow.next) _ _ _
 refine wpAny_bind (wpAny_rule (wpAny_bind (unpackItems_tuple (items:=#[u1,u2]) (I.ok.hd hc) (IsTup.new s1.heap _) fun h' hx'=>?_)));have I3:=I2.kept (h':=h') (t':=s1.toks) fun b o e=>hx' b o (Nat.ne_of_lt (Heap.lt_size e)) e
 show wpAny _ _ (assignInOrder [fun v=>bindName X.env y v,fun v=>bindName X.env x v] [u2,u1] >>= fun _=>pure Flow.next) _ _ _
 refine wpAny_bind (assignInOrder_cons (wpAny_bindName (eA I3 hN hj (.inl hy) rw' (fun s2 I4=>?_) (.inr hy))));refine assignInOrder_cons (wpAny_bindName (eA I4 hN hi (.inl hx) rv (fun s3 I5=>assignInOrder_nil (wpAny_pure ?_)) (.inr hx)));rw [List.set_comm _ _ (Ne.symm hij)] at I5;exact ⟨_,H1,I5,q1⟩
def Ep (i:Nat) (te:TE) (ti:TIp):TS:=fun D σ H=>∃ x,σ[i]?=some (some x)∧te σ H fun y H1=>ti x y H1 fun z H2=>D.nx (σ.set i (some z)) H2
theorem yu {i:Nat} {x:Str} {e:Expr} {te:TE} {op:Operator} {ti:TIp} {pos':Pos} (hN:X.N.Nodup) (hi:X.N[i]?=some x) (hx:Loc X.env.scope x) (he:PE X e te) (ho:PIp X op ti) (hf:X.fn x=true∨X.env.scope.names.lookup x=some .local:=by first | exact .inl rfl | exact .inr rfl | assumption) :
  PS X (.AugAssign (.Name x pos') op e pos) (Ep i te ti):=by
 intro pins s σ H D I h;obtain ⟨v,e1,h⟩:=h;obtain ⟨m,hn,hl⟩:=I.loc;have vis:Vis X.env.scope x:=by rcases hx with k | k; exact .inl k; exact .inr (.inl k)
 obtain ⟨u,r,l⟩:=hl i x v hi e1 vis;refine wpAny_AugAssign_Name ?_
 have go:wpAny (model X.prog X.w) X.A (eval e X.env) (fun w s₂=>wpAny (model X.prog X.w) X.A (inplaceOp op u w) (fun r s₃=>wpAny (model X.prog X.w) X.A (storeName X.env x r) (fun _=>SP X pins D .next) X.xe s₃) X.xe s₂) X.xe s:=by
  refine thn (he pins s σ H _ I h) fun w s1 ⟨y,H1,I1,r1,q1⟩=>?_;refine thn (ho pins s1 σ H1 v y u w _ I1 r r1 q1) fun z s2 ⟨zv,H2,I2,r2,q2⟩=>?_;exact eA I2 hN hi hx r2 (fun s3 I3=>⟨_,H2,I3,q2⟩) hf
 rcases l with ⟨hk,hm⟩ | ⟨hk,c,hc,hcell⟩
 ·exact wpAny_loadName_local I.ok.kind hk hn hm go
 ·rcases hk with hk | hk
  ·exact wpAny_loadName_cell I.ok.kind hk hc hcell go
  ·rcases hx with k | k
   ·have:X.env.scope.names.lookup x=some .free:=hk
    rw [k] at this; cases this
   ·have:X.env.scope.names.lookup x=some .free:=hk
    rw [k] at this; cases this
noncomputable def ipI (f:Int→Int→Int):TIp:=fun x y H Q=>∃ i j,x=.int i∧y=.int j∧Q (.int (f i j)) H
theorem xC:PIp X .Add (ipI fun i j=>i+j):=by
 intro pins s σ H x y v u Q I r1 r2 h;obtain ⟨i,j,e1,e2,q⟩:=h;subst e1; subst e2;obtain ⟨t,rfl⟩:=r1;obtain ⟨t',rfl⟩:=r2;exact iadd_int ⟨.int _,H,I.tok _,⟨_,rfl⟩,q⟩
def Af (c:TT) (tb:TS):TS:=fun D σ H=>∃ W:Nat→St→Hp→Prop,(∃ m,W m σ H)∧∀ m σ H,W m σ H →
 c σ H fun b H1=>if b=true then ∃ N:St→Hp→Prop,(∀ σ' H',N σ' H'→∃ m',m'<m∧W m' σ' H')∧tb { D with nx:=N,ct:=N,bk:=D.nx } σ H1 else D.nx σ H1
theorem hJ {c:Expr} {body:List Stmt} {tc:TT} {tb:TS} (hp:PassesOwn (model X.prog X.w) X.A X.env X.xe) (hc:PT X c tc) (hb:PSs X body tb):PS X (.While c body [] pos) (Af tc tb):=by
 intro pins s σ H D I h;obtain ⟨W,⟨m0,w0⟩,turn⟩:=h;refine wpAny_While (codeAny_whileLoop (fun n s'=>∃ σ' H',Inv X pins σ' H' s'∧W n σ' H') ?_ m0 ⟨σ,H,I,w0⟩);rintro n s1 ⟨σ1,H1,I1,w1⟩;refine wpAny_passesOwn hp (thn (hc pins s1 σ1 H1 _ I1 (turn n σ1 H1 w1)) fun b s2 ⟨H2,I2,q2⟩=>?_)
 cases b with
 | true =>
  obtain ⟨N,hN,q2⟩:=q2;rw [if_pos rfl];refine wpAny_passesOwn hp (thn (hb pins s2 σ1 H2 _ I2 q2) fun f s3 q3=>?_)
  cases f with
  | next =>
   obtain ⟨σ3,H3,I3,n3⟩:=q3;obtain ⟨m',hm,w3⟩:=hN σ3 H3 n3;exact ⟨m',hm,σ3,H3,I3,w3⟩
  | cont =>
   obtain ⟨σ3,H3,I3,n3⟩:=q3;obtain ⟨m',hm,w3⟩:=hN σ3 H3 n3;exact ⟨m',hm,σ3,H3,I3,w3⟩
  | brk => exact q3
  | ret v => exact q3
 | false =>
  rw [if_neg Bool.false_ne_true];exact wpAny_execs_nil ⟨σ1,H2,I2,q2⟩
end
structure It where
 go:Nat→Hp→Prop
 yld:Nat→Hp→V→Hp→Prop
 stop:Nat→Hp→Prop
def iI (X:Cx) (pins:List (Addr×Obj)) (H:Hp) (b:Addr):Prop :=
 H b=none∧b≠X.env.locals∧b∉X.fs∧(b∈X.ex∨X.s₀.heap.objs.size≤b)∧(∀ x c,X.env.cells.lookup x=some c→c≠b)∧∀ p∈X.pn++pins,p.1≠b
theorem Inv.fpOk {X:Cx} {pins:List (Addr×Obj)} {σ:St} {H H':Hp} {s:Shared} {b:Addr} (I:Inv X pins σ H s) (hb:s.heap.objs.size≤b) (hn:H' b=none):iI X pins H' b:=by
 refine ⟨hn,Nat.ne_of_gt (Nat.lt_of_lt_of_le I.lt hb),I.nofs hb,.inr (Nat.le_trans I.sz hb),fun x c e z=>?_,fun p hp z=>?_⟩
 ·obtain ⟨v,q⟩:=I.cell x c e;exact absurd (Nat.lt_of_lt_of_le q.lt (by rw [z]; exact hb)) (Nat.lt_irrefl _)
 ·exact absurd (Nat.lt_of_lt_of_le (Heap.lt_size (I.pin p hp).1) (by rw [z]; exact hb)) (Nat.lt_irrefl _)
structure sH (P:Program) (w:World) (K:W.Frag) (tg:Expr) (J:It) (fp:List Addr) (it:Addr) (tn:Nat→Heap→Prop):Prop where
 mem:it∈fp
 obj:∀ i h,tn i h→∀ b∈fp,∃ o,h.get? b=some o∧∀ v,o.data≠.cell v
 keep:∀ i h h',tn i h→(∀ b∈fp,∀ o,h.get? b=some o→h'.get? b=some o)→tn i h'
 item:∀ (X:Cx),X.prog=P→X.w=w→X.K=K→X.calm=true→∀ (i:Nat) (pins:List (Addr×Obj)) (s:Shared) (σ:St) (H:Hp) (E:Value→Shared→Prop),Inv X pins σ H s→(∀ b∈fp,iI X pins H b)→tn i s.heap→J.go i H →
  wpAny (model P w) X.A (pyNext (.ref it)) (fun r s1=>∃ u,r=some u ∧
   wpAny (model P w) X.A (letOwnedTupleGo tg (.ref it) u) (fun _ s2=>∃ x H',Inv X pins σ H' s2∧a7 x u∧J.yld i H x H'∧tn (i+1) s2.heap∧∀ b∈fp,H' b=none) E s1) E s
 done:∀ (X:Cx),X.prog=P→X.w=w→X.K=K→X.calm=true→∀ (i:Nat) (pins:List (Addr×Obj)) (s:Shared) (σ:St) (H:Hp) (E:Value→Shared→Prop),Inv X pins σ H s→(∀ b∈fp,iI X pins H b)→tn i s.heap→J.stop i H →
  wpAny (model P w) X.A (pyNext (.ref it)) (fun r s1=>r=none∧Inv X pins σ H s1) E s
 self:∀ (A:Around) (i:Nat) (s:Shared) (Q:Value→Shared→Prop) (E:Value→Shared→Prop),tn i s.heap→Q (.ref it) s→wpAny (model P w) A (pyIter (.ref it)) Q E s
noncomputable abbrev TI:=St→Hp→(It→Hp→Prop)→Prop
def PIE (X:Cx) (pins:List (Addr×Obj)) (σ:St) (tg:Expr) (R:It→Hp→Prop) (itv:Value) (s2:Shared):Prop :=
 ∃ (it:Addr) (fp:List Addr) (tn:Nat→Heap→Prop) (J:It) (H':Hp),itv=.ref it∧Inv X pins σ H' s2∧sH X.prog X.w X.K tg J fp it tn∧tn 0 s2.heap∧(∀ b∈fp,iI X pins H' b)∧R J H'
def PI (X:Cx) (tg iter:Expr) (wi:TI):Prop :=
 ∀ (pins:List (Addr×Obj)) (s:Shared) (σ:St) (H:Hp) (R:It→Hp→Prop),Inv X pins σ H s→wi σ H R →
  wpAny (model X.prog X.w) X.A (eval iter X.env) (fun v s1=>wpAny (model X.prog X.w) X.A (pyIter v) (PIE X pins σ tg R) X.xe s1) X.xe s
theorem xq {M:Model} {A:Around} {E:Value→Shared→Prop} {s:Shared} {tg:Expr} {it:Addr} {u:Value} {o:Obj} {n:String} {vs:Array Value} {Q:Unit→Shared→Prop} (ho:s.heap.get? it=some o) (hc:o.cls=.type n) (hd:o.data=.fields vs)
    (hn:["enumerate","zip","dict_itemiterator","dict_reverseitemiterator","odict_iterator","itertools.zip_longest","itertools.pairwise"].contains n=false) (hQ:Q () s):wpAny M A (letOwnedTupleGo tg (.ref it) u) Q E s:=by
  unfold letOwnedTupleGo
  cases tg<;>first
    | exact wpAny_pure hQ
    | (cases u<;>first
        | exact wpAny_pure hQ
        | (refine wpAny_bind (wpAny_load ho ?_)
           rw [hc,hd]
           show wpAny M A (if (["enumerate","zip","dict_itemiterator","dict_reverseitemiterator","odict_iterator","itertools.zip_longest","itertools.pairwise"].contains n&&vs[0]?==some (rawInt _))=true then _ else _) Q E s
           rw [if_neg (by intro h; rw [hn,Bool.false_and] at h; cases h)];exact wpAny_pure hQ))
noncomputable def Itl (K:W.Frag) (a:Addr):It :=
 ⟨fun i H=>∃ xs x,SqL K H a xs∧xs[i]?=some x,fun i H x H'=>H'=H∧∀ xs,SqL K H a xs→xs[i]?=some x,fun i H=>∃ xs,SqL K H a xs∧xs.length≤i⟩
noncomputable def Itr (lo:Int) (n:Nat):It:=⟨fun i _=>i<n,fun i H x H'=>H'=H∧x=.int (lo+i),fun i _=>n≤i⟩
theorem wx {P:Program} {w:World} {K:W.Frag} {tg:Expr} (a it:Addr):sH P w K tg (Itl K a) [it] it (fun i h=>h.IsListIter it a i) where
 mem:=by simp
 obj:=fun i h st b hb=>by
  have e:b=it:=by simpa using hb
  subst e;obtain ⟨o,e,c,d⟩:=st;exact ⟨o,e,fun v z=>by rw [d] at z; cases z⟩
 keep:=fun i h h' st k=>st.at fun o e=>k it (by simp) o e
 item:=by
  intro X hP hw hK hc i pins s σ H E I hf st hg;subst hP hw hK;obtain ⟨xs,x,hq,hx⟩:=hg;obtain ⟨its,rv,p,hz⟩:=I.list hq;obtain ⟨u,hu,ru⟩:=rv.get hx;obtain ⟨f0,f1,f2,f3,f4,f5⟩:=hf it (by simp);refine wpAny_pyNext_list_item st p.isList (x:=u) (by simpa using hu) fun h' st' sb=>?_;have I1:Inv X pins σ H { s with heap:=h' }:=I.turned (t':=s.toks) (fun b o hb e=>(sb.2 b hb).trans e) f0 f1 f3 f4 f5;obtain ⟨o,e,c,d⟩:=id st';exact ⟨u,rfl,xq (s:={ s with heap:=h' }) e c d (by decide) ⟨x,H,I1,ru,⟨rfl,fun ys hy=>by rw [I.list_inj hy hq]; exact hx⟩,st',fun b hb=>(hf b hb).1⟩⟩
 done:=by
  intro X hP hw hK hc i pins s σ H E I hf st hg;subst hP hw hK;obtain ⟨xs,hq,hx⟩:=hg;obtain ⟨its,rv,p,hz⟩:=I.list hq;obtain ⟨f0,f1,f2,f3,f4,f5⟩:=hf it (by simp);have hl:=rv.length;exact wpAny_pyNext_list_end (I.ok.hd hc) st p.isList (by simp; omega) fun h' eb=>⟨rfl,I.turned (t':=s.toks) (fun b o hb e=>eb b o hb e) f0 f1 f3 f4 f5⟩
 self:=fun _ _ _ _ _ st h=>wpAny_pyIter_listiter st h
theorem um {P:Program} {w:World} {K:W.Frag} {tg:Expr} (it:Addr) (lo:Int) (n:Nat):sH P w K tg (Itr lo n) [it] it (fun i h=>IsRangeIter h it (lo+(i:Nat)*1) ((n:Int) - (i:Nat)) 1) where
 mem:=by simp
 obj:=fun i h st b hb=>by
  have e:b=it:=by simpa using hb
  subst e;exact ⟨_,st,fun v z=>by
   have z':Data.fields _=Data.cell v:=z
   cases z'⟩
 keep:=fun i h h' st k=>k it (by simp) _ st
 item:=by
  intro X hP hw hK hc i pins s σ H E I hf st hg;subst hP hw hK;obtain ⟨f0,f1,f2,f3,f4,f5⟩:=hf it (by simp);have W:=Walks.range (prog:=X.prog) (w:=X.w) (I.ok.hd hc) it lo 1 n;refine W.item i s _ _ hg st fun v h' tk hv st' kk=>?_;obtain ⟨t,rfl⟩:=hv;have I1:Inv X pins σ H { s with heap:=h',toks:=tk }:=I.turned (fun b o hb e=>kk b o (by simpa using hb) e) f0 f1 f3 f4 f5;refine ⟨_,rfl,xq (s:={ s with heap:=h',toks:=tk }) (n:="range_iterator") st' rfl rfl (by decide) ⟨.int (lo+i),H,I1,⟨t,?_⟩,⟨rfl,rfl⟩,st',fun b hb=>(hf b hb).1⟩⟩;rw [Int.mul_one]
 done:=by
  intro X hP hw hK hc i pins s σ H E I hf st hg;subst hP hw hK;obtain ⟨f0,f1,f2,f3,f4,f5⟩:=hf it (by simp);exact wpAny_pyNext_range_end (I.ok.hd hc) st (by have:n≤i:=hg; omega) fun h' eb=>⟨rfl,I.turned (t':=s.toks) (fun b o hb e=>eb b o hb e) f0 f1 f3 f4 f5⟩
 self:=fun _ _ _ _ _ st h=>wpAny_pyIter_rangeiter st h
section
variable {X:Cx} {tg:Expr}
def BP (K:W.Frag) (tl:TE):TI:=fun σ H R=>tl σ H fun x H1=>∃ a,x=.ref a∧(∃ xs,SqL K H1 a xs)∧R (Itl K a) H1
theorem cO {l:Expr} {tl:TE} (hl:PE X l tl):PI X tg l (BP X.K tl):=by
 intro pins s σ H R I h;refine thn (hl pins s σ H _ I h) fun v s1 ⟨x,H1,I1,r1,q1⟩=>?_;obtain ⟨a,e,⟨xs,hq⟩,q⟩:=q1;subst e
 cases r1;obtain ⟨its,rv,p,hz⟩:=I1.list hq;refine wpAny_pyIter_list p.isList ?_;refine ⟨s1.heap.objs.size,[s1.heap.objs.size],_,_,H1,rfl,I1.kept (t':=s1.toks) fun b o e=>Heap.get?_push_of_some _ e,wx a _,⟨_,Heap.get?_push_size _ rfl,rfl,rfl⟩,fun b hb=>?_,q⟩;have e:b=s1.heap.objs.size:=by simpa using hb
 subst e;exact I1.fpOk (Nat.le_refl _) (I1.hok.fresh (Nat.le_refl _))
theorem yJ {pins:List (Addr×Obj)} {σ:St} {H:Hp} {s:Shared} {R:It→Hp→Prop} {E:Value→Shared→Prop} {lo hi:Int} {t u v:Tok} {tk:Nat} (I:Inv X pins σ H s) (h1:-(2 ^ 62)≤lo) (h2:lo<2 ^ 62) (h3:-(2 ^ 62)≤hi) (h4:hi<2 ^ 62)
  (q:R (Itr lo (hi - lo).toNat) H):wpAny (model X.prog X.w) X.A (pyIter (.ref s.heap.objs.size)) (PIE X pins σ tg R) E { s with heap:=s.heap.push { cls:=.type "range",data:=.fields #[.int lo t,.int hi u,.int 1 v] },toks:=tk }:=by
 refine wpAny_pyIter_range (IsRange.new ..) (small_one h1 h2 h3 h4) ?_;have I1:Inv X pins σ H { s with heap:=s.heap.push { cls:=.type "range",data:=.fields #[.int lo t,.int hi u,.int 1 v] },toks:=tk }:=I.kept fun b o e=>Heap.get?_push_of_some _ e;refine ⟨(s.heap.push { cls:=.type "range",data:=.fields #[.int lo t,.int hi u,.int 1 v] }).objs.size,[(s.heap.push { cls:=.type "range",data:=.fields #[.int lo t,.int hi u,.int 1 v] }).objs.size],_,_,H,rfl,
  I1.kept (t':=tk) fun b o e=>Heap.get?_push_of_some _ e,um _ lo (hi - lo).toNat,?_,fun b hb=>?_,q⟩
 ·have e1:lo+((0:Nat):Int)*1=lo:=by simp
  have e2:(((hi - lo).toNat:Nat):Int) - ((0:Nat):Int)=Builtin.Range.rangeSize lo hi 1:=by rw [rangeSize_one]; split<;>omega
  show IsRangeIter _ _ (lo+((0:Nat):Int)*1) ((((hi - lo).toNat:Nat):Int) - ((0:Nat):Int)) 1
  rw [e1,e2];exact Heap.get?_push_size _ rfl
 ·have e:b=(s.heap.push { cls:=.type "range",data:=.fields #[.int lo t,.int hi u,.int 1 v] }).objs.size:=by simpa using hb
  subst e;exact I1.fpOk (Nat.le_refl _) (I1.hok.fresh (Nat.le_refl _))
def BQ (ta:TA):TI:=fun σ H R=>ta σ H fun vs H1=>∃ j:Int,vs=[.int j]∧-(2 ^ 62)≤j∧j<2 ^ 62∧R (Itr 0 j.toNat) H1
theorem dQ {a:Expr} {ta:TA} {p pos:Pos} (hg:Gl X "range") (hm:X.mg "range"=none) (ha:PA X [a] ta) (hs:starEach [a] X.env=[(false,eval a X.env)]:=by rfl):PI X tg (.Call (.Name "range" p) [a] [] pos) (BQ ta):=by
 intro pins s σ H R I h;refine Call_ (mC I hg hm boot_range (PyProof.Rows.callWith_type1 (thn (ha pos pins s σ H _ I h) fun us s1 ⟨vs,H1,I1,r1,q1⟩=>?_) hs rfl));obtain ⟨j,e,q1,q2,q⟩:=q1;subst e
 cases r1 with
 | cons r rr =>
  cases rr;obtain ⟨t,rfl⟩:=r;exact call_range_1 (yJ I1 (by omega) (by omega) q1 q2 (by simpa using q))
def Et (wi:TI) (g:TG) (tb:TS):TS:=fun D σ H=>wi σ H fun J H1=>∃ W:Nat→Nat→St→Hp→Prop,(∃ m,W 0 m σ H1)∧∀ i m σ H,W i m σ H →
 (J.stop i H∧D.nx σ H)∨(J.go i H∧∃ N:St→Hp→Prop,(∀ σ' H',N σ' H'→∃ m',m'<m∧W (i+1) m' σ' H')∧∀ x H',J.yld i H x H'→g x σ H' fun σ2 H2=>tb { D with nx:=N,ct:=N,bk:=D.nx } σ2 H2)
noncomputable def mL (fp:List Addr) (h:Heap):List (Addr×Obj):=fp.filterMap fun b=>(h.get? b).map fun o=>(b,o)
theorem gv {fp:List Addr} {h:Heap} {b:Addr} {o:Obj} (hb:b∈fp) (e:h.get? b=some o):(b,o)∈mL fp h:=List.mem_filterMap.mpr ⟨b,hb,by rw [e]; rfl⟩
theorem vK {fp:List Addr} {h:Heap} {p:Addr×Obj} (hp:p∈mL fp h):p.1∈fp∧h.get? p.1=some p.2:=by
 obtain ⟨b,hb,e⟩:=List.mem_filterMap.mp hp
 cases q:h.get? b with
 | none=>rw [q] at e; cases e
 | some o =>
  rw [q] at e;have e':(b,o)=p:=Option.some.inj e;subst e';exact ⟨hb,q⟩
theorem Inv.pinned {pins:List (Addr×Obj)} {σ:St} {H:Hp} {s:Shared} {fp:List Addr} (I:Inv X pins σ H s) (hf:∀ b∈fp,iI X pins H b) (ho:∀ b∈fp,∃ o,s.heap.get? b=some o∧∀ v,o.data≠.cell v):Inv X (pins++mL fp s.heap) σ H s :=
 I.pins_of fun p hp=>(List.mem_append.mp hp).elim (fun z=>I.pin p (List.mem_append_right _ z)) fun z=>by
  obtain ⟨hb,e⟩:=vK z;obtain ⟨f0,f1,f2,_⟩:=hf p.1 hb;obtain ⟨o,e',d⟩:=ho p.1 hb;rw [e] at e'; cases e';exact ⟨e,f0,f1,f2,d⟩
theorem Inv.unpinned {pins pl:List (Addr×Obj)} {σ:St} {H:Hp} {s:Shared} (I:Inv X (pins++pl) σ H s):Inv X pins σ H s:=I.pins_of fun p hp=>I.pin p (List.mem_append_right _ (List.mem_append_left _ hp))
theorem dR {iter:Expr} {body:List Stmt} {wi:TI} {g:TG} {tb:TS} {pos:Pos} (hp:PassesOwn (model X.prog X.w) X.A X.env X.xe) (hc:X.calm=true) (hi:PI X tg iter wi) (hg:PG X tg g) (hb:PSs X body tb)
  (hs:∀ x,foldedSetIterable iter X.env x=pure x:=by intro _; rfl):PS X (.For tg iter body [] pos) (Et wi g tb):=by
 intro pins s σ H D I h;refine wpAny_For (thn (hi pins s σ H _ I h) fun v s1 h1=>thn h1 fun itv s2 h2=>?_) hs;obtain ⟨it,fp,tn,J,H2,e,I2,T,st2,f2,W,⟨m0,w0⟩,turn⟩:=h2;subst e
 -- what stays true of the iterator's objects through the loop
 have stat:∀ {H':Hp},(∀ b∈fp,H' b=none)→∀ b∈fp,iI X pins H' b:=fun hn b hb=>⟨hn b hb,(f2 b hb).2⟩
 refine codeAny_forLoop_any (fun n s'=>∃ i σ' H',Inv X pins σ' H' s'∧tn i s'.heap∧(∀ b∈fp,H' b=none)∧W i n σ' H') ?_ m0 ⟨0,σ,H2,I2,st2,fun b hb=>(f2 b hb).1,w0⟩;rintro n s3 ⟨i,σ3,H3,I3,st3,fr3,w3⟩;rcases turn i n σ3 H3 w3 with ⟨stop,qn⟩ | ⟨go,N,hN,step⟩
 ·refine wpAny_passesOwn hp (thn (T.done X rfl rfl rfl hc i pins s3 σ3 H3 X.xe I3 (stat fr3) st3 stop) fun r s4 ⟨hr,I4⟩=>?_);subst hr;exact wpAny_execs_nil ⟨σ3,H3,I4,qn⟩
 ·refine wpAny_passesOwn hp (thn (T.item X rfl rfl rfl hc i pins s3 σ3 H3 X.xe I3 (stat fr3) st3 go) fun r s4 ⟨u,hr,h4⟩=>?_);subst hr;refine wpAny_passesOwn hp (thn h4 fun _ s5 ⟨x,H5,I5,r5,y5,st5,fr5⟩=>?_);have I5':=I5.pinned (stat fr5) (T.obj _ _ st5);refine wpAny_passesOwn hp (thn (hg _ s5 σ3 H5 x u _ I5' r5 (step x H5 y5)) fun _ s6 ⟨σ6,H6,I6,q6⟩=>?_);refine wpAny_passesOwn hp (thn (hb _ s6 σ6 H6 _ I6 q6) fun f s7 q7=>?_);have again:∀ {σ7:St} {H7:Hp},Inv X (pins++mL fp s5.heap) σ7 H7 s7→N σ7 H7→∃ m,m<n∧∃ i σ' H',Inv X pins σ' H' s7∧tn i s7.heap∧(∀ b∈fp,H' b=none)∧W i m σ' H':=fun {σ7 H7} I7 n7=>by
   obtain ⟨m',hm,w7⟩:=hN σ7 H7 n7;refine ⟨m',hm,i+1,σ7,H7,I7.unpinned,T.keep _ _ _ st5 fun b hb o e=>(I7.pin (b,o) (List.mem_append_right _ (List.mem_append_right _ (gv hb e)))).1,fun b hb=>?_,w7⟩;obtain ⟨o,e,d⟩:=T.obj _ _ st5 b hb;exact (I7.pin (b,o) (List.mem_append_right _ (List.mem_append_right _ (gv hb e)))).2.1
  cases f with
  | next => obtain ⟨σ7, H7, I7, n7⟩ := q7; exact again I7 n7
  | cont => obtain ⟨σ7, H7, I7, n7⟩ := q7; exact again I7 n7
  | brk => obtain ⟨σ7, H7, I7, q7⟩ := q7; exact ⟨σ7, H7, I7.unpinned, q7⟩
  | ret v => obtain ⟨x7, σ7, H7, I7, r7, q7⟩ := q7; exact ⟨x7, σ7, H7, I7.unpinned, r7, q7⟩
end
theorem xm {K:W.Frag} {a:Addr} {xs:List V} {g:TG} {tb:TS} {D:cU} {σ:St} {H:Hp} (Pv:Nat→St→Hp→Prop) (h0:Pv 0 σ H) (hl:∀ i σ H,i≤xs.length→Pv i σ H→SqL K H a xs)
  (hs:∀ i x σ H,xs[i]?=some x→Pv i σ H→g x σ H fun σ2 H2=>tb { D with nx:=Pv (i+1),ct:=Pv (i+1),bk:=D.nx } σ2 H2) (hd:∀ σ H,Pv xs.length σ H→D.nx σ H) :
  ∃ W:Nat→Nat→St→Hp→Prop,(∃ m,W 0 m σ H)∧∀ i m σ H,W i m σ H →
   ((Itl K a).stop i H∧D.nx σ H)∨((Itl K a).go i H∧∃ N:St→Hp→Prop,(∀ σ' H',N σ' H'→∃ m',m'<m∧W (i+1) m' σ' H')∧∀ x H',(Itl K a).yld i H x H'→g x σ H' fun σ2 H2=>tb { D with nx:=N,ct:=N,bk:=D.nx } σ2 H2):=by
 refine ⟨fun i m σ H=>m=xs.length - i∧i≤xs.length∧Pv i σ H,⟨xs.length,by simp,Nat.zero_le _,h0⟩,?_⟩;rintro i m σ H ⟨rfl,hi,p⟩;have q:=hl i σ H hi p;by_cases hlt:i<xs.length
 ·refine .inr ⟨⟨xs,xs[i],q,by simp [hlt]⟩,Pv (i+1),fun σ' H' p'=>⟨xs.length - (i+1),by omega,rfl,hlt,p'⟩,fun x H' y=>?_⟩;obtain ⟨e,y⟩:=y;subst e;exact hs i x σ _ (y xs q) p
 ·have e:i=xs.length:=by omega
  subst e;exact .inl ⟨⟨xs,q,Nat.le_refl _⟩,hd σ H p⟩
theorem vx {lo:Int} {n:Nat} {g:TG} {tb:TS} {D:cU} {σ:St} {H:Hp} (Pv:Nat→St→Hp→Prop) (h0:Pv 0 σ H)
  (hs:∀ i σ H,i<n→Pv i σ H→g (.int (lo+i)) σ H fun σ2 H2=>tb { D with nx:=Pv (i+1),ct:=Pv (i+1),bk:=D.nx } σ2 H2) (hd:∀ σ H,Pv n σ H→D.nx σ H) :
  ∃ W:Nat→Nat→St→Hp→Prop,(∃ m,W 0 m σ H)∧∀ i m σ H,W i m σ H →
   ((Itr lo n).stop i H∧D.nx σ H)∨((Itr lo n).go i H∧∃ N:St→Hp→Prop,(∀ σ' H',N σ' H'→∃ m',m'<m∧W (i+1) m' σ' H')∧∀ x H',(Itr lo n).yld i H x H'→g x σ H' fun σ2 H2=>tb { D with nx:=N,ct:=N,bk:=D.nx } σ2 H2):=by
 refine ⟨fun i m σ H=>m=n - i∧i≤n∧Pv i σ H,⟨n,by simp,Nat.zero_le _,h0⟩,?_⟩;rintro i m σ H ⟨rfl,hi,p⟩;by_cases hlt:i<n
 ·refine .inr ⟨hlt,Pv (i+1),fun σ' H' p'=>⟨n - (i+1),by omega,rfl,hlt,p'⟩,fun x H' y=>?_⟩;obtain ⟨e,y⟩:=y;subst e y;exact hs i σ _ hlt p
 ·have e:i=n:=by omega
  subst e;exact .inl ⟨Nat.le_refl _,hd σ H p⟩
noncomputable abbrev R2:=V→V→Hp→VK→Prop
def OpR (X:Cx) (f:Value→Value→Sem Value) (r:R2):Prop :=
 ∀ (pins:List (Addr×Obj)) (s:Shared) (σ:St) (H:Hp) (x y:V) (v u:Value) (Q:VK),Inv X pins σ H s→a7 x v→a7 y u→r x y H Q →
  wpAny (model X.prog X.w) X.A (f v u) (EP X pins σ Q) X.xe s
def UnR (X:Cx) (f:Value→Sem Value) (r:V→Hp→VK→Prop):Prop :=
 ∀ (pins:List (Addr×Obj)) (s:Shared) (σ:St) (H:Hp) (x:V) (v:Value) (Q:VK),Inv X pins σ H s→a7 x v→r x H Q →
  wpAny (model X.prog X.w) X.A (f v) (EP X pins σ Q) X.xe s
def cb (X:Cx) (f:Value) (r:List V→Hp→VK→Prop):Prop :=
 ∀ (pins:List (Addr×Obj)) (s:Shared) (σ:St) (H:Hp) (xs:List V) (us:List Value) (Q:VK),Inv X pins σ H s→a9 xs us→r xs H Q →
  wpAny (model X.prog X.w) X.A (call f us) (EP X pins σ Q) X.xe s
def tOp (r:R2) (ta tb:TE):TE:=fun σ H Q=>ta σ H fun x H1=>tb σ H1 fun y H2=>r x y H2 Q
def tUn (r:V→Hp→VK→Prop) (ta:TE):TE:=fun σ H Q=>ta σ H fun x H1=>r x H1 Q
def rI (C:Int→Int→Prop) (g:Int→Int→V):R2:=fun x y H Q=>∃ i j,x=.int i∧y=.int j∧C i j∧Q (g i j) H
def rI0 (g:Int→Int→V):R2:=fun x y H Q=>∃ i j,x=.int i∧y=.int j∧Q (g i j) H
def rU (g:Int→V):V→Hp→VK→Prop:=fun x H Q=>∃ i,x=.int i∧Q (g i) H
section
variable {X:Cx} {a b c:Expr} {ta tb tc:TE} {pos:Pos}
theorem Cp (ha:PE X a ta) (hb:PE X b tb) {pins:List (Addr×Obj)} {s:Shared} {σ:St} {H:Hp} {R:V→V→Hp→Prop} (I:Inv X pins σ H s)
  (h:ta σ H fun x H1=>tb σ H1 fun y H2=>R x y H2) {Q:Value→Shared→Prop} {f:Value→Value→Sem Value}
  (hf:∀ v u s2 x y H2,Inv X pins σ H2 s2→a7 x v→a7 y u→R x y H2→wpAny (model X.prog X.w) X.A (f v u) Q X.xe s2) :
  wpAny (model X.prog X.w) X.A (eval a X.env) (fun v s₁=>wpAny (model X.prog X.w) X.A (eval b X.env) (fun u s₂=>wpAny (model X.prog X.w) X.A (f v u) Q X.xe s₂) X.xe s₁) X.xe s:=by
 refine thn (ha pins s σ H _ I h) fun v s1 ⟨x,H1,I1,r1,q1⟩=>?_;refine thn (hb pins s1 σ H1 _ I1 q1) fun u s2 ⟨y,H2,I2,r2,q2⟩=>?_;exact hf v u s2 x y H2 I2 r1 r2 q2
theorem av {op:Operator} {r:R2} (ho:OpR X (binaryOp op) r) (ha:PE X a ta) (hb:PE X b tb):PE X (.BinOp a op b pos) (tOp r ta tb):=by
 intro pins s σ H Q I h;exact wpAny_BinOp (Cp ha hb I h fun v u s2 x y H2 I2 rx ry q=>ho pins s2 σ H2 x y v u Q I2 rx ry q)
theorem uO {op:UnaryOp} {r:V→Hp→VK→Prop} (ho:UnR X (unaryOp op) r) (ha:PE X a ta):PE X (.UnaryOp op a pos) (tUn r ta):=by
 intro pins s σ H Q I h;exact UnaryOp_ (thn (ha pins s σ H _ I h) fun v s1 ⟨x,H1,I1,r1,q1⟩=>ho pins s1 σ H1 x v Q I1 r1 q1)
theorem opI {f:Value→Value→Sem Value} {C:Int→Int→Prop} {g:Int→Int→Int}
  (rule:∀ (i j:Int) (t u:Tok) (s:Shared) (Q:Value→Shared→Prop) (E:Value→Shared→Prop),C i j→Q (.int (g i j) s.toks) { s with toks:=s.toks+1 }→wpAny (model X.prog X.w) X.A (f (.int i t) (.int j u)) Q E s) :
  OpR X f (rI C fun i j=>.int (g i j)):=by
 intro pins s σ H x y v u Q I rx ry h;obtain ⟨i,j,rfl,rfl,hc,q⟩:=h;obtain ⟨t,rfl⟩:=rx;obtain ⟨t',rfl⟩:=ry;exact rule i j t t' s _ _ hc ⟨.int (g i j),H,I.tok _,⟨_,rfl⟩,q⟩
theorem DY {f:Value→Value→Sem Value} {g:Int→Int→Int}
  (rule:∀ (i j:Int) (t u:Tok) (s:Shared) (Q:Value→Shared→Prop) (E:Value→Shared→Prop),Q (.int (g i j) s.toks) { s with toks:=s.toks+1 }→wpAny (model X.prog X.w) X.A (f (.int i t) (.int j u)) Q E s) :
  OpR X f (rI0 fun i j=>.int (g i j)):=by
 intro pins s σ H x y v u Q I rx ry h;obtain ⟨i,j,rfl,rfl,q⟩:=h;obtain ⟨t,rfl⟩:=rx;obtain ⟨t',rfl⟩:=ry;exact rule i j t t' s _ _ ⟨.int (g i j),H,I.tok _,⟨_,rfl⟩,q⟩
theorem CK {f:Value→Value→Sem Value} {g:Int→Int→Bool}
  (rule:∀ (i j:Int) (t u:Tok) (s:Shared) (Q:Value→Shared→Prop) (E:Value→Shared→Prop),Q (.bool (g i j)) s→wpAny (model X.prog X.w) X.A (f (.int i t) (.int j u)) Q E s) :
  OpR X f (rI0 fun i j=>.bl (g i j)):=by
 intro pins s σ H x y v u Q I rx ry h;obtain ⟨i,j,rfl,rfl,q⟩:=h;obtain ⟨t,rfl⟩:=rx;obtain ⟨t',rfl⟩:=ry;exact rule i j t t' s _ _ ⟨.bl (g i j),H,I,rfl,q⟩
def EF (i j:Int):Prop:=0<j∧j<1073741824
def EG (i j:Int):Prop:=0≤j∧j≤1000000∧i.natAbs<2 ^ 64
def As (i j:Int):Prop:=(-(2 ^ 64)<i∧i<2 ^ 64)∨(-(2 ^ 64)<j∧j<2 ^ 64)
theorem As.ok {i j:Int} (h:As i j):IntMulOk i j:=by
 rcases h with ⟨h1,h2⟩ | ⟨h1,h2⟩
 ·exact .of_left (intBits_le_64 h1 h2)
 ·exact .of_right (intBits_le_64 h1 h2)
theorem bf:OpR X (binaryOp .Add) (rI0 fun i j=>.int (i+j)):=DY fun _ _ _ _ _ _ _ q=>add_int q
theorem i9:OpR X (binaryOp .Sub) (rI0 fun i j=>.int (i - j)):=DY fun _ _ _ _ _ _ _ q=>sub_int q
theorem dP:OpR X (binaryOp .Mult) (rI As fun i j=>.int (i*j)):=opI fun _ _ _ _ _ _ _ hc q=>mul_int q hc.ok
theorem uK:OpR X (binaryOp .FloorDiv) (rI EF fun i j=>.int (i / j)):=opI fun i j _ _ _ _ _ hc q=>by
 have h1:(0:Int)<j:=hc.1;have h2:j<1073741824:=hc.2;exact floordiv_int (by omega) (by rw [Int.fdiv_eq_ediv_of_nonneg i (by omega)]; exact q) (.inl (PyProof.noPylong_small (by omega)))
theorem aR:OpR X (binaryOp .Mod) (rI (fun _ j=>0<j) fun i j=>.int (i%j)):=opI fun i j _ _ _ _ _ hc q=>by
 have h1:(0:Int)<j:=hc;exact mod_int' (by omega) (by rw [Int.fmod_eq_emod_of_nonneg i (by omega)]; exact q)
theorem CO:OpR X (binaryOp .Pow) (rI EG fun i j=>.int (i ^ j.toNat)):=opI fun _ _ _ _ _ _ _ hc q=>pow_int_small hc.1 hc.2.1 hc.2.2 q
theorem unI {f:Value→Sem Value} {g:Int→Int}
  (rule:∀ (i:Int) (t:Tok) (s:Shared) (Q:Value→Shared→Prop) (E:Value→Shared→Prop),Q (.int (g i) s.toks) { s with toks:=s.toks+1 }→wpAny (model X.prog X.w) X.A (f (.int i t)) Q E s) :
  UnR X f (rU fun i=>.int (g i)):=by
 intro pins s σ H x v Q I rx h;obtain ⟨i,rfl,q⟩:=h;obtain ⟨t,rfl⟩:=rx;exact rule i t s _ _ ⟨.int (g i),H,I.tok _,⟨_,rfl⟩,q⟩
theorem qz:UnR X (unaryOp .USub) (rU fun i=>.int (-i)):=unI fun _ _ _ _ _ q=>neg_int q
end
noncomputable def Ej:V→V→Bool
 | .non,.non=>true | .non,.int _=>true | .int _,.non=>true | .non,.bl _=>true | .bl _,.non=>true | .non,.str _=>true | .str _,.non=>true
 | .int _,.int _=>true | .bl _,.bl _=>true | .str _,.str _=>true | .byt _,.byt _=>true
 | .int _,.str _=>true | .str _,.int _=>true | .bl _,.str _=>true | .str _,.bl _=>true
 | _,_=>false
def rEq:R2:=fun x y H Q=>Ej x y=true∧Q (.bl (decide (x=y))) H
def rNe:R2:=fun x y H Q=>Ej x y=true∧Q (.bl (!decide (x=y))) H
theorem lE {i j:Int}:decide (V.int i=V.int j)=(i==j):=by
 rw [Bool.eq_iff_iff];simp
theorem wV {i j:Bool}:decide (V.bl i=V.bl j)=(i==j):=by
 rw [Bool.eq_iff_iff];simp
theorem uy {i j:Str}:decide (V.str i=V.str j)=(i==j):=by
 rw [Bool.eq_iff_iff];simp
theorem ux {i j:Array UInt8}:decide (V.byt i=V.byt j)=(i.toList==j.toList):=by
 rw [Bool.eq_iff_iff]
 cases i
 cases j;simp
section
variable {X:Cx} {a b c:Expr} {ta tb tc:TE} {pos:Pos}
theorem bC {pins:List (Addr×Obj)} {σ:St} {H:Hp} {s:Shared} {Q:VK} {k k':Bool} (I:Inv X pins σ H s) (q:Q (.bl k) H) (e:k=k'):EP X pins σ Q (.bool k') s:=by
 subst e;exact ⟨.bl k,H,I,rfl,q⟩
theorem bU:OpR X (compareOp .Eq) rEq:=by
 intro pins s σ H x y v u Q I rx ry h;obtain ⟨hs,q⟩:=h
 cases x with
 | non =>
  cases rx
  cases y with
  | non => cases ry; exact PySem.EqNone.eq_none_none (bC I q (by simp))
  | bl j => cases ry; exact PySem.EqNone.eq_none_bool (bC I q (by simp))
  | int j => obtain ⟨t', rfl⟩ := ry; exact PySem.EqNone.eq_none_int (bC I q (by simp))
  | str j => obtain ⟨t', rfl⟩ := ry; exact PySem.EqNone.eq_none_str (bC I q (by simp))
  | _ => exact absurd (show false = true from hs) Bool.false_ne_true
 | bl i =>
  cases rx
  cases y with
  | non => cases ry; exact PySem.EqNone.eq_bool_none (bC I q (by simp))
  | bl j => cases ry; exact eq_bool (bC I q wV)
  | str j => obtain ⟨t', rfl⟩ := ry; exact PySem.EqMixed.eq_bool_str (bC I q (by simp))
  | _ => exact absurd (show false = true from hs) Bool.false_ne_true
 | int i =>
  obtain ⟨t,rfl⟩:=rx
  cases y with
  | non => cases ry; exact PySem.EqNone.eq_int_none (bC I q (by simp))
  | int j => obtain ⟨t', rfl⟩ := ry; exact eq_int (bC I q lE)
  | str j => obtain ⟨t', rfl⟩ := ry; exact PySem.EqMixed.eq_int_str (bC I q (by simp))
  | _ => exact absurd (show false = true from hs) Bool.false_ne_true
 | str i =>
  obtain ⟨t,rfl⟩:=rx
  cases y with
  | non => cases ry; exact PySem.EqNone.eq_str_none (bC I q (by simp))
  | bl j => cases ry; exact PySem.EqMixed.eq_str_bool (bC I q (by simp))
  | int j => obtain ⟨t', rfl⟩ := ry; exact PySem.EqMixed.eq_str_int (bC I q (by simp))
  | str j => obtain ⟨t', rfl⟩ := ry; exact eq_str (bC I q uy)
  | _ => exact absurd (show false = true from hs) Bool.false_ne_true
 | byt i =>
  obtain ⟨t,rfl⟩:=rx
  cases y with
  | byt j => obtain ⟨t', rfl⟩ := ry; exact W.eq_bytes (bC I q ux)
  | _ => exact absurd (show false = true from hs) Bool.false_ne_true
 | _=>cases y<;>exact absurd (show false=true from hs) Bool.false_ne_true
theorem eM:OpR X (compareOp .NotEq) rNe:=by
 intro pins s σ H x y v u Q I rx ry h;obtain ⟨hs,q⟩:=h
 cases x with
 | non =>
  cases rx
  cases y with
  | non => cases ry; exact PySem.EqNone.ne_none_none (bC I q (by simp))
  | bl j => cases ry; exact PySem.EqNone.ne_none_bool (bC I q (by simp))
  | int j => obtain ⟨t', rfl⟩ := ry; exact PySem.EqNone.ne_none_int (bC I q (by simp))
  | str j => obtain ⟨t', rfl⟩ := ry; exact PySem.EqNone.ne_none_str (bC I q (by simp))
  | _ => exact absurd (show false = true from hs) Bool.false_ne_true
 | bl i =>
  cases rx
  cases y with
  | non => cases ry; exact PySem.EqNone.ne_bool_none (bC I q (by simp))
  | bl j => cases ry; exact ne_bool (bC I q (congrArg not wV))
  | str j => obtain ⟨t', rfl⟩ := ry; exact PySem.EqMixed.ne_bool_str (bC I q (by simp))
  | _ => exact absurd (show false = true from hs) Bool.false_ne_true
 | int i =>
  obtain ⟨t,rfl⟩:=rx
  cases y with
  | non => cases ry; exact PySem.EqNone.ne_int_none (bC I q (by simp))
  | int j => obtain ⟨t', rfl⟩ := ry; exact ne_int (bC I q (congrArg not lE))
  | str j => obtain ⟨t', rfl⟩ := ry; exact PySem.EqMixed.ne_int_str (bC I q (by simp))
  | _ => exact absurd (show false = true from hs) Bool.false_ne_true
 | str i =>
  obtain ⟨t,rfl⟩:=rx
  cases y with
  | non => cases ry; exact PySem.EqNone.ne_str_none (bC I q (by simp))
  | bl j => cases ry; exact PySem.EqMixed.ne_str_bool (bC I q (by simp))
  | int j => obtain ⟨t', rfl⟩ := ry; exact PySem.EqMixed.ne_str_int (bC I q (by simp))
  | str j => obtain ⟨t', rfl⟩ := ry; exact ne_str (bC I q (congrArg not uy))
  | _ => exact absurd (show false = true from hs) Bool.false_ne_true
 | byt i =>
  obtain ⟨t,rfl⟩:=rx
  cases y with
  | byt j => obtain ⟨t', rfl⟩ := ry; exact W.ne_bytes (bC I q (congrArg not ux))
  | _ => exact absurd (show false = true from hs) Bool.false_ne_true
 | _=>cases y<;>exact absurd (show false=true from hs) Bool.false_ne_true
theorem gZ:OpR X (compareOp .Lt) (rI0 fun i j=>.bl (decide (i<j))):=CK fun _ _ _ _ _ _ _ q=>lt_int q
theorem fW:OpR X (compareOp .LtE) (rI0 fun i j=>.bl (decide (i≤j))):=CK fun _ _ _ _ _ _ _ q=>le_int q
theorem mJ:OpR X (compareOp .Gt) (rI0 fun i j=>.bl (decide (j<i))):=CK fun _ _ _ _ _ _ _ q=>gt_int q
theorem oO:OpR X (compareOp .In) (fun x y H Q=>∃ i j,x=.str i∧y=.str j∧Q (.bl (!(Builtin.Str.occurrences j i 0 j.length 1).isEmpty)) H):=by
 intro pins s σ H x y v u Q I rx ry h;obtain ⟨i,j,rfl,rfl,q⟩:=h;obtain ⟨t,rfl⟩:=rx;obtain ⟨t',rfl⟩:=ry;exact in_str (bC I q rfl)
theorem CN:OpR X (compareOp .Is) (fun x y H Q=>y=.non∧Q (.bl (decide (x=.non))) H):=by
 intro pins s σ H x y v u Q I rx ry h;obtain ⟨rfl,q⟩:=h
 cases ry;refine is_none_gen (bC I q ?_)
 cases x<;>first
  | (cases rx; rfl)
  | (obtain ⟨t, rfl⟩ := rx; rfl)
theorem uM:OpR X (compareOp .IsNot) (fun x y H Q=>y=.non∧Q (.bl (!decide (x=.non))) H):=by
 intro pins s σ H x y v u Q I rx ry h;obtain ⟨rfl,q⟩:=h
 cases ry;refine isnot_none_gen (bC I q ?_)
 cases x<;>first
  | (cases rx; rfl)
  | (obtain ⟨t, rfl⟩ := rx; rfl)
theorem xQ (b:Expr) {op:CmpOp} (h:op≠.In:=by decide) (h2:op≠.NotIn:=by decide):behindInMarks op b=false:=by
 have e1:(op==CmpOp.In)=false:=by cases op<;>first | rfl | exact absurd rfl h
 have e2:(op==CmpOp.NotIn)=false:=by cases op<;>first | rfl | exact absurd rfl h2
 cases b<;>simp [behindInMarks,e1,e2]
theorem lK {op:CmpOp} {r:R2} (ho:OpR X (compareOp op) r) (ha:PE X a ta) (hb:PE X b tb) (hm:behindInMarks op b=false):PE X (.Compare a [op] [b] pos) (tOp r ta tb):=by
 intro pins s σ H Q I h;exact wpAny_Compare1 (Cp ha hb I h fun v u s2 x y H2 I2 rx ry q=>ho pins s2 σ H2 x y v u Q I2 rx ry q) hm
def u9 (t:TE):TT:=fun σ H Q=>t σ H fun x H'=>∃ k,x=.bl k∧Q k H'
theorem dY {op:CmpOp} {r:R2} (ho:OpR X (compareOp op) r) (ha:PE X a ta) (hb:PE X b tb) (hm:behindInMarks op b=false):PT X (.Compare a [op] [b] pos) (u9 (tOp r ta tb)):=by
 intro pins s σ H Q I h;refine wpAny_isTrue_Compare1 (thn (ha pins s σ H _ I h) fun v s1 ⟨x,H1,I1,r1,q1⟩=>thn (hb pins s1 σ H1 _ I1 q1) fun u s2 ⟨y,H2,I2,r2,q2⟩ =>
  thn (ho pins s2 σ H2 x y v u _ I2 r1 r2 q2) fun c s3 ⟨z,H3,I3,r3,k,e,q3⟩=>?_) hm
 subst e
 cases r3;exact wpAny_truthy_bool ⟨H3,I3,q3⟩
def uh (r r':R2) (ta tb tc:TE):TE:=fun σ H Q=>ta σ H fun x H1=>tb σ H1 fun y H2=>r x y H2 fun z H3=>∃ k,z=.bl k ∧
 (if k=true then tc σ H3 fun w' H4=>r' y w' H4 Q else Q (.bl false) H3)
theorem yf {op op':CmpOp} {r r':R2} (ho:OpR X (compareOp op) r) (ho':OpR X (compareOp op') r') (ha:PE X a ta) (hb:PE X b tb) (hc:PE X c tc)
  (hm:lastMarks [op,op'] [b,c]=false:=by with_unfolding_all rfl):PE X (.Compare a [op,op'] [b,c] pos) (uh r r' ta tb tc):=by
 intro pins s σ H Q I h;refine Compare_chain (thn (ha pins s σ H _ I h) fun v s1 ⟨x,H1,I1,r1,q1⟩=>chain_link (thn (hb pins s1 σ H1 _ I1 q1) fun u s2 ⟨y,H2,I2,r2,q2⟩ =>
  thn (ho pins s2 σ H2 x y v u _ I2 r1 r2 q2) fun d s3 ⟨z,H3,I3,r3,k,e,q3⟩=>?_)) hm
 subst e
 cases r3;refine wpAny_truthy_bool ?_
 cases k with
 | false=>exact ite_ff ⟨.bl false,H3,I3,rfl,q3⟩
 | true=>exact ite_tt (chain_last (thn (hc pins s3 σ H3 _ I3 q3) fun w' s4 ⟨z',H4,I4,r4,q4⟩=>ho' pins s4 σ H4 y z' u w' Q I4 r2 r4 q4))
theorem d9 {op op':CmpOp} {r r':R2} (ho:OpR X (compareOp op) r) (ho':OpR X (compareOp op') r') (ha:PE X a ta) (hb:PE X b tb) (hc:PE X c tc)
  (hm:lastMarks [op,op'] [b,c]=false:=by with_unfolding_all rfl):PT X (.Compare a [op,op'] [b,c] pos) (u9 (uh r r' ta tb tc)):=by
 intro pins s σ H Q I h;refine isTrue_chain (thn (ha pins s σ H _ I h) fun v s1 ⟨x,H1,I1,r1,q1⟩=>test_link (thn (hb pins s1 σ H1 _ I1 q1) fun u s2 ⟨y,H2,I2,r2,q2⟩ =>
  thn (ho pins s2 σ H2 x y v u _ I2 r1 r2 q2) fun d s3 ⟨z,H3,I3,r3,k,e,q3⟩=>?_)) hm
 subst e
 cases r3;refine wpAny_truthy_bool ?_
 cases k with
 | false =>
  obtain ⟨k',e',q'⟩:=q3
  cases e';exact ite_ff ⟨H3,I3,q'⟩
 | true =>
  refine ite_tt (test_last (thn (hc pins s3 σ H3 _ I3 q3) fun w' s4 ⟨z',H4,I4,r4,q4⟩=>thn (ho' pins s4 σ H4 y z' u w' _ I4 r2 r4 q4) fun d' s5 ⟨z2,H5,I5,r5,k2,e2,q5⟩=>?_));subst e2
  cases r5;exact wpAny_truthy_bool ⟨H5,I5,q5⟩
theorem mD:(sizeLine:Nat)<2 ^ 63:=by rw [sizeLine_eq]; decide
theorem bh:OpR X (binaryOp .Add) (fun x y H Q=>∃ i j,x=.str i∧y=.str j∧i.length+j.length≤sizeLine∧Q (.str (i++j)) H):=by
 intro pins s σ H x y v u Q I rx ry h;obtain ⟨i,j,rfl,rfl,hz,q⟩:=h;obtain ⟨t,rfl⟩:=rx;obtain ⟨t',rfl⟩:=ry;exact add_str (fun t' tk=>⟨.str (i++j),H,I.tok _,⟨_,rfl⟩,q⟩) hz
theorem kZ {x:V} {us:List Value} (r:a9 [x] us):∃ u,us=[u]∧a7 x u:=by
 cases r with
 | cons r1 r2=>cases r2; exact ⟨_,rfl,r1⟩
theorem wO:cb X (.builtin "abs") (fun xs H Q=>∃ i,xs=[.int i]∧Q (.int (if i<0 then -i else i)) H):=by
 intro pins s σ H xs us Q I r h;obtain ⟨i,rfl,q⟩:=h;obtain ⟨u,rfl,t,rfl⟩:=kZ r;exact call_abs_int fun u tk=>⟨.int (if i<0 then -i else i),H,I.tok _,⟨_,rfl⟩,q⟩
end
structure sE (h:Heap) (x dx C:Addr) (mA:Str→Option Value):Prop where
 obj:h.get? x=some (W.instObj C dx)
 ns:h.Ns1 dx mA
 ne:dx≠x
theorem vG {h:Heap} {dx:Addr} {mA:Str→Option Value} (n:h.Ns1 dx mA):∃ od,h.get? dx=some od∧∀ name,W.lookIn name od=some (mA name):=by
 obtain ⟨o,es,ep,ho,hd,hk,_,hm⟩:=n;refine ⟨o,ho,fun name=>?_⟩;have e:=hm name;unfold nsFind findBy at e;rw [← Array.find?_toList] at e;unfold W.lookIn;rw [hd];dsimp only
 split
 ·rename_i y q;rw [q] at e;exact congrArg some e
 ·rename_i q;rw [q] at e
  have a:es.toList.any (·.refKey)=false:=by
   rw [List.any_eq_false];intro y hy;obtain ⟨z,t,hkey⟩:=hk y (Array.mem_toList_iff.mp hy);simp [DictEntry.refKey,hkey]
  have a':¬ es.toList.any (·.refKey)=true:=by rw [a]; exact Bool.false_ne_true
  rw [if_neg a'];exact congrArg some e
theorem sE.look {h:Heap} {x dx C:Addr} {mA:Str→Option Value} (I:sE h x dx C mA):∃ od,PySem.W.InstAt h x (W.instObj C dx) C (some od)∧∀ name,W.lookIn name od=some (mA name) :=
 let ⟨od,ho,hl⟩:=vG I.ns
 ⟨od,⟨I.obj,rfl,rfl,ho⟩,hl⟩
section
variable {prog:Program} {w:World} {A:Around} {E:Value→Shared→Prop} {s:Shared} {K:W.Frag} {x dx C f:Addr} {mA:Str→Option Value} {name:Str} {v:Value}
theorem AJ {expr:Bool} {Q:Value→Shared→Prop} (X:K.In s.heap) (I:sE s.heap x dx C mA) (hg:W.plainGet K C name=true) (hh:W.hasDictIn K C=true)
  (ha:W.findIn K (.ref C) name=some none) (hv:mA name=some v) (hv':W.handedIn v=true) (h:Q v { s with toks:=s.toks+1 }) :
  wpAny (model prog w) A (getAttr (.ref x) name expr) Q E s:=by
 obtain ⟨od,J,hl⟩:=I.look;exact W.get_value X J (W.plainGet_of hg).1 (W.findObj_own hh ha rfl (by rw [hl,hv])) hv' h
theorem xp {pl:Sem Bool} {Q:Value×List Value→Shared→Prop} (X:K.In s.heap) (I:sE s.heap x dx C mA) (hg:W.plainGet K C name=true)
  (hf:W.findIn K (.ref C) name=some (some (.ref f))) (ht:W.isFn K (.ref f)=true) (hv:mA name=none) (h:Q (.ref f,[.ref x]) s) :
  wpAny (model prog w) A (getMethod (.ref x) name pl) Q E s:=by
 obtain ⟨od,J,hl⟩:=I.look;exact W.method_fn X J (W.plainGet_of hg).1 (W.plainGet_of hg).2 hf (beq_iff_eq.mp ht) (by show (W.lookIn name od).map (·.isSome)=some false; rw [hl,hv]; rfl) h
theorem Bz {ns:List Str} {Q:Unit→Shared→Prop} (X:K.In s.heap) (I:sE s.heap x dx C mA)
  (hs:W.findIn K (.ref C) "__setattr__"=some (some (.builtin "object.__setattr__"))) (hp:W.plainOver K C=true) (ht:W.takerIn K C name=some none) (hh:W.hasDictIn K C=true)
  (hw:PySem.Within mA ns) (hsz:ns.length≤sizeLine)
  (h:∀ h',sE h' x dx C (fun y=>if y=name then some v else mA y)→Heap.SameBut dx s.heap h'→Q () { s with heap:=h',toks:=s.toks+2 }) :
  wpAny (model prog w) A (setAttr (.ref x) name v) Q E s:=by
 obtain ⟨od,J,hl⟩:=I.look;refine W.set_plain X J hs (W.osa_open (s:={ s with toks:=s.toks+1 }) (r:=none) X J hp ht fun b=>?_);obtain ⟨cd,hc,hd'⟩:=W.any_some hh;have hx:s.heap.get? x=some ⟨.ref C,some dx,.plain,#[]⟩:=I.obj;refine wpAny_bind (wpAny_pure (wpAny_bind (wpAny_bind (wpAny_loadPart hx (wpAny_bind (PySem.W.Looks.here (s:={ s with toks:=s.toks+1 }) (W.looks_clsIn X hc) ?_))))));rw [hd'];refine wpAny_pure (a:=some dx) (wpAny_bind (wpAny_pure (wpAny_bind ?_)));refine wpAny_nsSet1 (s:={ s with toks:=s.toks+1 }) I.ns fun h' hn2 hs2=>?_;obtain ⟨oD,esD,epD,hoD,hdD,hcD⟩:=hn2.count (PySem.Within.cons name v hw);refine wpAny_bind (wpAny_lookBehind hoD (by rw [hdD]; exact pastItsLine_dict (Nat.le_trans hcD (by rw [List.length_cons]; omega))) ?_);exact wpAny_pure (h _ ⟨(hs2.2 _ (Ne.symm I.ne)).trans I.obj,hn2,I.ne⟩ hs2)
theorem rg {R:Result→Shared→Prop} {vs:List Value} {kw:List (Str×Value)} (X:K.In s.heap) (hm:W.makesIn K C=true)
  (hi:W.findIn K (.ref C) "__init__"=some (some (.ref f))) (hf:W.typeIn K (.ref f)=some (.type "function"))
  (h:codeAny (model prog w) (A.under (.builtin "type.__call__" ⟨.ref C::vs,kw⟩)) (.call (.ref f) ⟨.ref (s.heap.objs.size+1)::vs,kw⟩) (PySem.W.InitBack (s.heap.objs.size+1) R)
   { s with heap:=(s.heap.push W.emptyDict).push (W.instObj C s.heap.objs.size) }) :
  codeAny (model prog w) A (.call (.ref C) ⟨vs,kw⟩) R s:=by
 obtain ⟨hh,g,d,t,os⟩:=s;exact W.make_core (W.makes_of X hm) (W.looks_findIn X hi) (fun self=>W.bind_fn X self hf) (.inl rfl) h
end
noncomputable def bL (f:Str) (v:V):List (Str×V)→List (Str×V)
 | []=>[(f,v)]
 | (g,x)::r=>if g=f then (g,v)::r else (g,x)::bL f v r
theorem aD (f g:Str) (v:V):∀ fs:List (Str×V),(bL f v fs).lookup g=if g=f then some v else fs.lookup g
 | []=>by
  show List.lookup g [(f,v)]=_
  by_cases h:g=f
  ·have hb:(g==f)=true:=beq_iff_eq.mpr h;simp only [List.lookup,hb,if_pos h]
  ·have hb:(g==f)=false:=beq_eq_false_iff_ne.mpr h;simp only [List.lookup,hb,if_neg h]
 | (k,x)::r=>by
  have ih:=aD f g v r;rw [show bL f v ((k,x)::r)=(if k=f then (k,v)::r else (k,x)::bL f v r) from rfl];by_cases hk:k=f
  ·rw [if_pos hk];by_cases h:g=k
   ·have hb:(g==k)=true:=beq_iff_eq.mpr h;simp only [List.lookup,hb,if_pos (h.trans hk)]
   ·have hb:(g==k)=false:=beq_eq_false_iff_ne.mpr h;simp only [List.lookup,hb,if_neg (fun e:g=f=>h (e.trans hk.symm))]
  ·rw [if_neg hk];by_cases h:g=k
   ·have hb:(g==k)=true:=beq_iff_eq.mpr h;simp only [List.lookup,hb,if_neg (fun e:g=f=>hk (h.symm.trans e))]
   ·have hb:(g==k)=false:=beq_eq_false_iff_ne.mpr h;simp only [List.lookup,hb];exact ih
theorem fT (f:Str) (v:V):∀ fs:List (Str×V),f∈(bL f v fs).map (·.1)∧∀ g,g∈fs.map (·.1)→g∈(bL f v fs).map (·.1)
 | []=>⟨by simp [bL],fun g h=>by simp at h⟩
 | (k,x)::r=>by
  obtain ⟨i1,i2⟩:=fT f v r;rw [show bL f v ((k,x)::r)=(if k=f then (k,v)::r else (k,x)::bL f v r) from rfl];by_cases hk:k=f
  ·rw [if_pos hk];subst hk;exact ⟨by simp,fun g h=>by simpa using h⟩
  ·rw [if_neg hk];refine ⟨?_,fun g h=>?_⟩
   ·rw [List.map_cons];exact List.mem_cons_of_mem _ i1
   ·rw [List.map_cons] at h ⊢;rcases List.mem_cons.mp h with e | e
    ·exact List.mem_cons.mpr (.inl e)
    ·exact List.mem_cons_of_mem _ (i2 g e)
theorem bK (f:Str) (v:V):∀ fs:List (Str×V),(bL f v fs).length≤fs.length+1
 | []=>by simp [bL]
 | (k,x)::r=>by
  have ih:=bK f v r;rw [show bL f v ((k,x)::r)=(if k=f then (k,v)::r else (k,x)::bL f v r) from rfl];by_cases hk:k=f
  ·rw [if_pos hk,List.length_cons,List.length_cons]; omega
  ·rw [if_neg hk,List.length_cons,List.length_cons]; omega
theorem fj.some_of {v:V} {o:Option Value} (r:fj (some v) o):∃ u,o=some u∧a7 v u:=by
 cases o with
 | none=>exact (show False from r).elim
 | some u=>exact ⟨u,rfl,r⟩
theorem fj.none_of {o:Option Value} (r:fj none o):o=none:=by
 cases o with
 | none=>rfl
 | some u=>exact (show False from r).elim
theorem vA {v:V} {u:Value} (r:a7 v u):W.handedIn u=true:=by
 cases v with
 | non=>cases (show u=Value.none from r); rfl
 | bl b=>cases (show u=Value.bool b from r); rfl
 | int i=>obtain ⟨t,e⟩:=(show ∃ t,u=Value.int i t from r); cases e; rfl
 | str x=>obtain ⟨t,e⟩:=(show ∃ t,u=Value.str x t from r); cases e; rfl
 | byt b=>obtain ⟨t,e⟩:=(show ∃ t,u=Value.bytes b t from r); cases e; rfl
 | flt b=>obtain ⟨t,e⟩:=(show ∃ t,u=Value.float b t from r); cases e; rfl
 | ref a=>cases (show u=Value.ref a from r); rfl
 | ty n=>cases (show u=Value.type n from r); rfl
section
variable {P:Program} {w:World} {H H':Hp} {h h':Heap} {a C dx:Addr} {fs fs':List (Str×V)}
theorem lI (hok:HOk P w H h) (e:H a=some (.ins C dx fs)):∃ mA,sE h a dx C mA∧(∀ f,fj (fs.lookup f) (mA f))∧PySem.Within mA (fs.map (·.1))∧fs.length≤1000∧H dx=some (.own a):=by
 obtain ⟨d,z,ne,ob,mA,n,r,q⟩:=(show bq P w H h a (.ins C dx fs) from hok a _ e)
 exact ⟨mA,⟨ob,n,ne⟩,r,q,z,d⟩
end
structure Cls (K:W.Frag) (C:Addr):Prop where
 pg:W.plainGet K C Str.empty=true
 hd:W.hasDictIn K C=true
 po:W.plainOver K C=true
 sa:W.findIn K (.ref C) "__setattr__"=some (some (.builtin "object.__setattr__"))
theorem Cls.get {K:W.Frag} {C:Addr} (c:Cls K C) (f:Str):W.plainGet K C f=true:=c.pg
def c9 (K:W.Frag) (C:Addr) (f:Str):Prop:=W.findIn K (.ref C) f=some none
theorem c9.taker {K:W.Frag} {C:Addr} {f:Str} (n:c9 K C f):W.takerIn K C f=some none:=by
 unfold W.takerIn;rw [show W.findIn K (.ref C) f=some none from n];rfl
structure Con (K:W.Frag) (C:Addr) (f:Str) (v:V) (u:Value):Prop where
 at_:W.findIn K (.ref C) f=some (some u)
 rel:a7 v u
 get:W.specialIn K u "__get__"=some none
 cp:W.copiedNames.contains f=false
structure j1 (K:W.Frag) (C:Addr) (m:Str) (f:Addr):Prop where
 at_:W.findIn K (.ref C) m=some (some (.ref f))
 fn:W.isFn K (.ref f)=true
 kp:W.keepIn K (.ref f)=true
section
variable {X:Cx} {pins:List (Addr×Obj)} {σ:St} {H:Hp} {s:Shared} {a C dx:Addr} {fs:List (Str×V)} {f:Str} {v:V} {A:Around} {E:Value→Shared→Prop}
theorem sW {b:Bool} {Q:Value→Shared→Prop} (I:Inv X pins σ H s) (e:H a=some (.ins C dx fs)) (c:Cls X.K C) (n:c9 X.K C f) (l:fs.lookup f=some v)
  (h:∀ u s',Inv X pins σ H s'→a7 v u→Q u s'):wpAny (model X.prog X.w) A (getAttr (.ref a) f b) Q E s:=by
 obtain ⟨mA,O,r,_,_,_⟩:=lI I.hok e;obtain ⟨u,hu,ru⟩:=fj.some_of (v:=v) (o:=mA f) (by rw [← l]; exact r f);exact AJ I.kIn O (c.get f) c.hd n hu (vA ru) (h u _ (I.tok _) ru)
theorem i7 {m:Str} {g:Addr} {pl:Sem Bool} {Q:Value×List Value→Shared→Prop} (I:Inv X pins σ H s) (e:H a=some (.ins C dx fs)) (c:Cls X.K C) (k:j1 X.K C m g) (l:fs.lookup m=none)
  (h:Q (.ref g,[.ref a]) s):wpAny (model X.prog X.w) A (getMethod (.ref a) m pl) Q E s:=by
 obtain ⟨mA,O,r,_,_,_⟩:=lI I.hok e;have hn:mA m=none:=fj.none_of (by rw [← l]; exact r m);exact xp I.kIn O (c.get m) k.at_ k.fn hn h
theorem tY {y:V} {u:Value} {Q:Unit→Shared→Prop} (I:Inv X pins σ H s) (e:H a=some (.ins C dx fs)) (c:Cls X.K C) (n:c9 X.K C f) (hl:fs.length<1000) (ry:a7 y u)
  (h:∀ s',Inv X pins σ (upd H a (.ins C dx (bL f y fs))) s'→Q () s'):wpAny (model X.prog X.w) A (setAttr (.ref a) f u) Q E s:=by
 obtain ⟨mA,O,r,wi,_,ho⟩:=lI I.hok e;have hz:(fs.map (·.1)).length≤sizeLine:=by rw [List.length_map,sizeLine_eq]; omega
 refine Bz I.kIn O c.sa c.po n.taker c.hd wi hz fun h' O' sb=>h _ ?_;have hd:∃ o,h'.get? dx=some o:=let ⟨o,_,_,e',_⟩:=O'.ns; ⟨o,e'⟩;refine I.write (x:=a) (e:=dx) (by rw [e]; exact True.intro) (.inr ho) (fun b q hb z=>(sb.2 b hb).trans z) hd ?_;refine ⟨by rw [aw O.ne]; exact ho,?_,O.ne,O'.obj,_,O'.ns,fun g=>?_,fun g hg=>?_⟩
 ·have:=bK f y fs; omega
 ·show fj ((bL f y fs).lookup g) (if g=f then some u else mA g)
  rw [aD];by_cases q:g=f
  ·rw [if_pos q,if_pos q]; exact ry
  ·rw [if_neg q,if_neg q]; exact r g
 ·by_cases q:g=f
  ·rw [q]; exact (fT f y fs).1
  ·refine (fT f y fs).2 g (wi g fun z=>hg ?_)
   show (if g=f then some u else mA g)=none
   rw [if_neg q]; exact z
theorem Inv.made (I:Inv X pins σ H s):Inv X pins σ (upd (upd H s.heap.objs.size (.own (s.heap.objs.size+1))) (s.heap.objs.size+1) (.ins C s.heap.objs.size []))
  { s with heap:=(s.heap.push W.emptyDict).push (W.instObj C s.heap.objs.size) }:=by
 have e1:(s.heap.push W.emptyDict).get? s.heap.objs.size=some W.emptyDict:=Heap.get?_push_size s.heap rfl
 have e2:((s.heap.push W.emptyDict).push (W.instObj C s.heap.objs.size)).get? (s.heap.objs.size+1)=some (W.instObj C s.heap.objs.size):=by
  have:=Heap.get?_push_size (s.heap.push W.emptyDict) (o:=W.instObj C s.heap.objs.size) rfl
  rwa [Heap.size_push] at this
 have e3:(s.heap.push W.emptyDict).Ns s.heap.objs.size (fun _=>none):=⟨W.emptyDict,#[],_,e1,rfl,(fun e he=>absurd he (by simp)),fun _=>rfl⟩
 have I1:=I.laid (a:=s.heap.objs.size) (o:=.own (s.heap.objs.size+1)) (h':=s.heap.push W.emptyDict) (t':=s.toks) (fun b u q=>Heap.get?_push_of_some _ q) (Nat.le_refl _) ⟨_,e1⟩;refine I1.laid (a:=s.heap.objs.size+1) (o:=.ins C s.heap.objs.size []) (t':=s.toks) (fun b u q=>Heap.get?_push_of_some _ q) (Nat.le_of_eq (Heap.size_push _ _)) ?_;have ne:s.heap.objs.size≠s.heap.objs.size+1:=Nat.ne_of_lt (Nat.lt_succ_self _);refine ⟨by rw [aw ne,ai],Nat.zero_le _,ne,e2,fun _=>none,(Heap.Ns1.of_empty e3).at fun o q=>Heap.get?_push_of_some _ q,fun _=>True.intro,fun y hy=>absurd rfl hy⟩
theorem Az {prog:Program} {w:World} {env:Env} {e:Expr} {f:Str} {pos:Pos} {s:Shared} {Q:Value→Shared→Prop} (hb:attributeBase e f env (eval e env)=eval e env)
  (h:wpAny (model prog w) A (eval e env) (fun o s₁=>wpAny (model prog w) A (getAttr o f true) Q E s₁) E s):wpAny (model prog w) A (eval (.Attribute e f pos) env) Q E s :=
 Attribute_any_ h (by rw [arm_eval_Attribute,hb])
end
def Dy (K:W.Frag) (ta:TE) (f:Str):TE:=fun σ H Q=>ta σ H fun x H1=>∃ a C dx fs v,x=.ref a∧H1 a=some (.ins C dx fs)∧Cls K C∧c9 K C f∧fs.lookup f=some v∧Q v H1
def Ei (K:W.Frag) (ta tv:TE) (f:Str):TS:=fun D σ H=>tv σ H fun y H1=>ta σ H1 fun x H2=>∃ a C dx fs,x=.ref a∧H2 a=some (.ins C dx fs)∧Cls K C∧c9 K C f∧fs.length<1000 ∧
 D.nx σ (upd H2 a (.ins C dx (bL f y fs)))
section
variable {X:Cx} {o e value:Expr} {f:Str} {pos pos' tpos:Pos} {ta tv:TE}
theorem CP (he:PE X e ta) (hb:attributeBase e f X.env (eval e X.env)=eval e X.env):PE X (.Attribute e f pos) (Dy X.K ta f):=by
 intro pins s σ H Q I h;refine Az hb (thn (he pins s σ H _ I h) fun u s1 ⟨x,H1,I1,rx,a,C,dx,fs,v,ex,ea,c,n,l,q⟩=>?_);subst ex;obtain rfl:u=Value.ref a:=rx
 exact sW I1 ea c n l fun u' s2 I2 ru=>⟨v,H1,I2,ru,q⟩
theorem hG (ha:PE X o ta) (hv:PE X value tv) (hs:swapsWith value (some (.Attribute o f pos')) pos.line X.env=pure false):PS X (.Assign [.Attribute o f pos'] value pos) (Ei X.K ta tv f):=by
 intro pins s σ H D I h;refine plainObj_wpAny_Assign_Attribute (thn (hv pins s σ H _ I h) fun u s1 ⟨y,H1,I1,ry,q⟩=>thn (ha pins s1 σ H1 _ I1 q) fun ov s2 ⟨x,H2,I2,rx,a,C,dx,fs,ex,ea,c,n,l,q2⟩=>?_) hs;subst ex;obtain rfl:ov=Value.ref a:=rx
 exact tY I2 ea c n l ry fun s3 I3=>⟨σ,_,I3,q2⟩
end
section
variable {X:Cx} {pins:List (Addr×Obj)} {σ:St} {H:Hp} {s:Shared} {A:Around} {E:Value→Shared→Prop} {Q:Value→Shared→Prop} {c:Value} {b:Bool}
inductive iM (K:W.Frag) (H:Hp):V→Value→Prop where
  | non : iM K H .non (.type "NoneType")
  | bl (x : Bool) : iM K H (.bl x) (.type "bool")
  | int (i : Int) : iM K H (.int i) (.type "int")
  | str (x : Str) : iM K H (.str x) (.type "str")
  | flt (x : UInt64) : iM K H (.flt x) (.type "float")
  | lst {a : Addr} {xs : List V} (e : H a = some (.lst xs)) : iM K H (.ref a) (.type "list")
  | frz {a : Addr} {o : Obj} {xs : List V} (e : H a = some (.frz o (.lst xs))) : iM K H (.ref a) (.type "list")
  | tup {a : Addr} {xs : List V} (e : H a = some (.tup xs)) : iM K H (.ref a) (.type "tuple")
  | dK {a : Addr} {kvs : List (Key × V)} (e : H a = some (.dK kvs)) : iM K H (.ref a) (.type "dict")
  | dT {a : Addr} {kvs : List (List Key × V)} (e : H a = some (.dT kvs)) : iM K H (.ref a) (.type "dict")
  | ins {a C dx : Addr} {fs : List (Str × V)} (e : H a = some (.ins C dx fs)) (cl : Cls K C) (ha : W.findIn K (.ref C) "__class__" = some (some (.builtin "object.__class__")))
      (hn:W.specialIn K (.builtin "object.__class__") "__get__"=some (some (.builtin "getset_descriptor.__get__"))) (htk:W.takesIn K (.builtin "object.__class__")=some true)
      (hm:W.mroIn K C (.type "object")=some true):iM K H (.ref a) (.ref C)
theorem vD {x:V} {u t:Value} (I:Inv X pins σ H s) (rx:a7 x u) (ty:iM X.K H x t) (e:W.kitOne X.K t c=some b) (h:∀ tk,Q (.bool b) { s with toks:=tk }) :
  wpAny (model X.prog X.w) A (call (.builtin "isinstance") [u,c]) Q E s:=by
 cases ty with
 | non=>cases (show u=Value.none from rx); exact W.kia_one W.kitx_none I.kIn True.intro e (fun z=>nomatch z) h
 | bl y=>cases (show u=Value.bool y from rx); exact W.kia_one W.kitx_bool I.kIn True.intro e (fun z=>nomatch z) h
 | int i=>obtain ⟨t,q⟩:=(show ∃ t,u=Value.int i t from rx); cases q; exact W.kia_one W.kitx_int I.kIn True.intro e (fun z=>nomatch z) h
 | str y=>obtain ⟨t,q⟩:=(show ∃ t,u=Value.str y t from rx); cases q; exact W.kia_one W.kitx_str I.kIn True.intro e (fun z=>nomatch z) h
 | flt y=>obtain ⟨t,q⟩:=(show ∃ t,u=Value.float y t from rx); cases q; exact W.kia_one W.kitx_float I.kIn True.intro e (fun z=>nomatch z) h
 | @lst a xs ea =>
  cases (show u=Value.ref a from rx)
  obtain ⟨_,_,n,_,h1⟩:=(show bq X.prog X.w H s.heap a (.lst xs) from I.hok a _ ea)
  exact W.kia_one W.kitx_list I.kIn ⟨_,h1,rfl⟩ e (fun z=>nomatch z) h
 | @frz a ob xs ea =>
  cases (show u=Value.ref a from rx)
  obtain ⟨_,_,_,n,_,h1⟩:=(show bq X.prog X.w H s.heap a (.frz ob (.lst xs)) from I.hok a _ ea)
  exact W.kia_one W.kitx_list I.kIn ⟨_,h1,rfl⟩ e (fun z=>nomatch z) h
 | @tup a xs ea =>
  cases (show u=Value.ref a from rx)
  obtain ⟨_,_,_,p⟩:=(show bq X.prog X.w H s.heap a (.tup xs) from I.hok a _ ea)
  obtain ⟨o,h1,h2,_⟩:=p;exact W.kia_one W.kitx_tuple I.kIn ⟨o,h1,h2⟩ e (fun z=>nomatch z) h
 | @dK a kvs ea =>
  cases (show u=Value.ref a from rx)
  obtain ⟨_,_,vs,_,p⟩:=(show bq X.prog X.w H s.heap a (.dK kvs) from I.hok a _ ea)
  obtain ⟨o,es,ep,h1,h2,_⟩:=p;exact W.kia_one W.kitx_dict I.kIn ⟨o,h1,h2.1⟩ e (fun z=>nomatch z) h
 | @dT a kvs ea =>
  cases (show u=Value.ref a from rx)
  obtain ⟨_,_,xs,_,o,es,ep,h1,h2,_⟩:=(show bq X.prog X.w H s.heap a (.dT kvs) from I.hok a _ ea)
  exact W.kia_one W.kitx_dict I.kIn ⟨o,h1,h2.1⟩ e (fun z=>nomatch z) h
 | @ins a C dx fs ea cl ha hn htk hm =>
  cases (show u=Value.ref a from rx)
  obtain ⟨mA,O,_⟩:=lI I.hok ea;obtain ⟨od,J,_⟩:=O.look;exact W.kia_one (W.kitx_own (cl.get _) cl.hd ha hn htk hm) I.kIn J e (fun z=>nomatch z) h
end
structure cA (k:Nat) (A:Around):Prop where
 hd:A.handled=none
 dp:A.depth+3*k+5<recursionLimit
 un:A.units+16*k+200<cLine
theorem cA.mono {j k:Nat} {A:Around} (r:cA k A) (h:j≤k):cA j A:=⟨r.hd,by have:=r.dp; omega,by have:=r.un; omega⟩
theorem cA.deeper {k:Nat} {A:Around} (r:cA (k+1) A) (env:Env):cA k (A.deeper env) :=
 ⟨r.hd,by have:=r.dp; show A.depth+1+3*k+5<_; omega,by have:=r.un; show A.units+3+16*k+200<_; omega⟩
theorem tf {A:Around} {C:Addr} {us:List Value} {kw:List (Str×Value)}:(A.under (.builtin "type.__call__" ⟨.ref C::us,kw⟩)).depth=A.depth+1:=by
 first | rfl | simp [Around.under,Code.weight,Code.isCreation,Code.isGuard,Code.isCaller,Code.frames,Code.isFrame,guardIds]
theorem tj {A:Around} {C:Addr} {us:List Value} {kw:List (Str×Value)}:(A.under (.builtin "type.__call__" ⟨.ref C::us,kw⟩)).units=A.units+1:=by
 first | rfl | simp [Around.under,Code.cUnits,Code.frames,Code.isFrame]
theorem cA.make {k:Nat} {A:Around} (r:cA (k+1) A) (C:Addr) (us:List Value) (kw:List (Str×Value)):cA k (A.under (.builtin "type.__call__" ⟨.ref C::us,kw⟩)) :=
 ⟨r.hd,by have:=r.dp; rw [tf]; omega,by have:=r.un; rw [tj]; omega⟩
theorem cA.depth {k:Nat} {A:Around} (r:cA k A):A.depth<recursionLimit:=by have:=r.dp; omega
theorem cA.units {k:Nat} {A:Around} (r:cA k A):A.units+64<cLine:=by have:=r.un; omega
def DA:TA:=fun _ H Q=>Q [] H
def B7 (ta:TE) (tr:TA):TA:=fun σ H Q=>ta σ H fun x H1=>tr σ H1 fun xs H2=>Q (x::xs) H2
section
variable {X:Cx} {e:Expr} {es:List Expr} {te:TE} {t:TA} {pos:Pos}
theorem ag:PA X [] DA:=fun _ _ _ _ H Q I h=>Calls.spliced_nil ⟨[],H,I,.nil,h⟩
theorem aa (ha:PE X e te) (hr:PA X es t) (hs:starEach (e::es) X.env=(false,eval e X.env)::starEach es X.env:=by rfl):PA X (e::es) (B7 te t):=by
 intro pos pins s σ H Q I h;rw [hs]
 show wpAny _ _ (spliced ((false,eval e X.env)::backTo pos (starEach es X.env))) _ _ s
 refine Calls.spliced_cons (thn (ha pins s σ H _ I h) fun u s1 ⟨x,H1,I1,r1,q1⟩=>?_);exact thn (hr pos pins s1 σ H1 _ I1 q1) fun us s2 ⟨xs,H2,I2,r2,q2⟩=>⟨x::xs,H2,I2,.cons r1 r2,q2⟩
def EA (t:TA):TE:=fun σ H Q=>t σ H fun xs H1=>xs.length≤sizeLine∧∀ p,H1 p=none→Q (.ref p) (upd H1 p (.tup xs))
def Dz (t:TA):TE:=fun σ H Q=>t σ H fun xs H1=>xs.length≤sizeLine∧∀ p,H1 p=none→Q (.ref p) (upd H1 p (.lst xs))
theorem aQ {x1} (h:PA X es t):PE X (.Tuple es x1 pos) (EA t):=by
 intro pins s σ H Q I hq;refine wpAny_Tuple_spliced (thn (h pos pins s σ H _ I hq) fun us s1 ⟨xs,H1,I1,r,z,q⟩=>⟨by rw [← r.length]; exact z,?_⟩);have hf:H1 s1.heap.objs.size=none:=I1.hok.fresh (Nat.le_refl _);refine ⟨.ref s1.heap.objs.size,upd H1 s1.heap.objs.size (.tup xs),I1.laid (t':=s1.toks) (fun b u e=>Heap.get?_push_of_some _ e) (Nat.le_refl _) ?_,rfl,q _ hf⟩;exact ⟨z,us,r,⟨_,Heap.get?_push_size _ rfl,rfl,_,rfl⟩⟩
theorem bP (h:PA X es t):PE X (.List es pos) (Dz t):=by
 intro pins s σ H Q I hq;refine wpAny_List_spliced (thn (h pos pins s σ H _ I hq) fun us s1 ⟨xs,H1,I1,r,z,q⟩=>⟨by rw [← r.length]; exact z,?_⟩);have hf:H1 s1.heap.objs.size=none:=I1.hok.fresh (Nat.le_refl _);refine ⟨.ref s1.heap.objs.size,upd H1 s1.heap.objs.size (.lst xs),I1.laid (t':=s1.toks) (fun b u e=>Heap.get?_push_of_some _ e) (Nat.le_refl _) ?_,rfl,q _ hf⟩;exact ⟨z,us,0,r,Heap.get?_push_size _ rfl⟩
end
noncomputable abbrev Sp:=List V→Hp→VK→XK→Prop
noncomputable abbrev CXT:=List Env→Hp→Shared→XK→Value→Shared→Prop
structure sA (P:Program) (w:World) (K:W.Frag) (mg:Str→Option Value) (base:Heap) (A:Around) (outer:List Env) (s:Shared) (H:Hp):Prop where
 frames:A.frames=some outer
 mod:Mod K mg base
 bs:∀ b o,base.get? b=some o→s.heap.get? b=some o∧H b=none
 bsz:base.objs.size≤s.heap.objs.size
 funs:s.heap.FunFrames base outer
 frf:∀ b∈frs outer,H b=none
 hok:HOk P w H s.heap
 bare:AllBare s.gens
def CE (outer:List Env) (P:Program) (w:World) (H:Hp) (s:Shared) (Q:VK) (u:Value) (s':Shared):Prop :=
 ∃ v H',s'.os=s.os∧AllBare s'.gens∧Un (frs outer) [] H H' s.heap s'.heap∧HOk P w H' s'.heap∧a7 v u∧Q v H'
def CR (CX:CXT) (outer:List Env) (P:Program) (w:World) (H:Hp) (s:Shared) (Q:VK) (E:XK) (r:Result) (s':Shared):Prop :=
 match r with
 | .ok (.ret u)=>CE outer P w H s Q u s'
 | .ok _=>False
 | .error e=>CX outer H s E e s'
structure aU (P:Program) (w:World) (K:W.Frag) (mg:Str→Option Value) (base:Heap) (CX:CXT) (k:Nat) (f:Addr) (fd:FuncData) (ps:List Str) (sp:Sp):Prop where
 len:∀ vs H Q E,sp vs H Q E→vs.length=ps.length
 run:∀ (A:Around) (outer:List Env) (s:Shared) (H:Hp) (args:Args) (us:List Value) (vs:List V) (Q:VK) (E:XK),cA k A→sA P w K mg base A outer s H→BindsTo s fd args (ps.zip us)→a9 vs us→sp vs H Q E →
  codeAny (model P w) A (.call (.ref f) args) (CR CX outer P w H s Q E) s
theorem sA.make {P:Program} {w:World} {K:W.Frag} {mg:Str→Option Value} {base:Heap} {A:Around} {outer:List Env} {s:Shared} {H:Hp} (e:sA P w K mg base A outer s H) (C:Addr) (us:List Value) (kw:List (Str×Value)) :
  sA P w K mg base (A.under (.builtin "type.__call__" ⟨.ref C::us,kw⟩)) outer s H:=⟨by first | exact e.frames | (simpa [Around.under,Code.envs,Code.isFrame,pushEnvs] using e.frames),e.mod,e.bs,e.bsz,e.funs,e.frf,e.hok,e.bare⟩
section
variable {X:Cx} {pins:List (Addr×Obj)} {σ:St} {H:Hp} {s s':Shared}
theorem Inv.env0 (I:Inv X pins σ H s):sA X.prog X.w X.K X.mg X.base X.A X.stack s H :=
 ⟨I.ok.frames,I.ok.mod,I.bs,Nat.le_trans I.ok.bsz I.sz,I.stack,I.stkFree,I.hok,I.bare⟩
theorem Inv.after {Q:VK} {u:Value} (I:Inv X pins σ H s) (h:CE X.stack X.prog X.w H s Q u s'):EP X pins σ Q u s':=by
 obtain ⟨v,H',os,bare,un,hok,r,q⟩:=h;obtain ⟨hh,g,d,t,os'⟩:=s';obtain rfl:os'=s.os:=os
 exact ⟨v,H',I.call (h':=hh) (g':=g) (d':=d) (t':=t) (ch:=[]) un hok bare (fun b z=>absurd z (by simp)),r,q⟩
end
def B6 (sp:Sp) (dvs:List V) (E:XK) (t:TA):TE:=fun σ H Q=>t σ H fun vs H1=>sp (vs++dvs) H1 Q E
def Aa (C:Addr) (m:Str) (sp:Sp) (dvs:List V) (E:XK) (ta:TE) (t:TA):TE:=fun σ H Q=>ta σ H fun x H1=>∃ a dx fs,x=.ref a∧H1 a=some (.ins C dx fs)∧fs.lookup m=none ∧
 t σ H1 fun vs H2=>sp (x::(vs++dvs)) H2 Q E
def Cd (C:Addr) (sp:Sp) (dvs:List V) (E:XK) (t:TA):TE:=fun σ H Q=>t σ H fun vs H1=>∀ x dx,H1 x=none→H1 dx=none→dx≠x →
 sp (.ref x::(vs++dvs)) (upd (upd H1 dx (.own x)) x (.ins C dx [])) (fun v H2=>v=.non∧Q (.ref x) H2) E
def aN (K:W.Frag) (fd:FuncData) (ps:List Str) (ds:List Value):Prop :=
 ∀ (s:Shared) (us:List Value),K.In s.heap→(us++ds).length=ps.length→BindsTo s fd ⟨us,[]⟩ (ps.zip (us++ds))
theorem aN.all {K:W.Frag} {fd:FuncData} {ps:List Str} (h:∀ us:List Value,us.length=ps.length→bindArgs fd ⟨us,[]⟩=pure (ps.zip us)):aN K fd ps []:=fun s us _ hl=>by
 rw [List.append_nil] at hl ⊢;exact .of_eq (h us hl)
def gh (CX:CXT) (X:Cx) (E:XK):Prop:=∀ (pins:List (Addr×Obj)) (σ:St) (H:Hp) (s:Shared) (e:Value) (s':Shared),Inv X pins σ H s→CX X.stack H s E e s'→X.xe e s'
section
variable {X:Cx} {CX:CXT} {k:Nat} {f C:Addr} {fd:FuncData} {ps:List Str} {sp:Sp} {dvs:List V} {ds:List Value} {E:XK} {x m:Str} {p pos apos:Pos} {e o:Expr} {es:List Expr} {ta:TE} {t:TA}
theorem tT {pins:List (Addr×Obj)} {σ:St} {H:Hp} {s:Shared} {Q:VK} {us:List Value} {vs:List V} (F:aU X.prog X.w X.K X.mg X.base CX k f fd ps sp) (hr:cA k X.A) (hb:aN X.K fd ps ds) (hd:a9 dvs ds) (hx:gh CX X E)
  (I:Inv X pins σ H s) (r:a9 vs us) (h:sp (vs++dvs) H Q E):wpAny (model X.prog X.w) X.A (call (.ref f) us) (EP X pins σ Q) X.xe s:=by
 have r2:a9 (vs++dvs) (us++ds):=r.append hd;have hl:(us++ds).length=ps.length:=by rw [← r2.length]; exact F.len _ _ _ _ h
 refine wpAny_call (codeAny_mono (F.run X.A X.stack s H ⟨us,[]⟩ (us++ds) (vs++dvs) Q E hr I.env0 (hb s us I.kIn hl) r2 h) fun r s' hq=>?_)
 cases r with
 | error e=>exact hx pins σ H s e s' I hq
 | ok fl =>
  cases fl with
  | ret u => exact I.after hq
  | next => exact False.elim hq
  | brk => exact False.elim hq
  | cont => exact False.elim hq
theorem aB (F:aU X.prog X.w X.K X.mg X.base CX k f fd ps sp) (hr:cA k X.A) (hg:Gl X x) (hm:X.mg x=some (.ref f)) (hk:W.keepIn X.K (.ref f)=true) (hb:aN X.K fd ps ds) (hd:a9 dvs ds) (hx:gh CX X E)
  (ha:PA X (e::es) t) (hdb:(x==("__debug__":Str))=false:=by decide) (he:starEach (e::es) X.env=(false,eval e X.env)::starEach es X.env:=by rfl) (hpl:(backTo pos (starEach es X.env)).any (·.1)=false:=by rfl) :
  PE X (.Call (.Name x p) (e::es) [] pos) (B6 sp dvs E t):=by
 intro pins s σ H Q I h;refine wpAny_Call_Name_kw (dX I hg hm ?_ hdb);refine W.callWith_K (h₀:=X.base) I.ok.mod.kin hk (thn (ha pos pins s σ H _ I h) fun us s1 ⟨vs,H1,I1,r,q⟩=>⟨I1.kIn,?_⟩) he hpl;exact tT F hr hb hd hx I1 r q
theorem iE {pl:Sem Bool} (he:PE X o ta) (c:Cls X.K C) (hm:j1 X.K C m f) (F:aU X.prog X.w X.K X.mg X.base CX k f fd ps sp) (hr:cA k X.A) (hb:aN X.K fd ps ds) (hd:a9 dvs ds) (hx:gh CX X E) (ha:PA X (e::es) t)
  (hst:starEach (e::es) X.env=(false,eval e X.env)::starEach es X.env:=by rfl) (hpl:(backTo pos (starEach es X.env)).any (·.1)=false:=by rfl)
  (ht:eval (.Call (.Attribute o m apos) (e::es) [] pos) X.env=(do
   let ov ← eval o X.env
   standAt apos.atName
   let (f,first) ← holding [ov] (getMethod ov m pl)
   callWith pos f first (backTo pos (starEach (e::es) X.env)) (backToKw pos (keywordEach [] X.env))):=by rfl) :
  PE X (.Call (.Attribute o m apos) (e::es) [] pos) (Aa C m sp dvs E ta t):=by
 intro pins s σ H Q I h;refine W.methodCall_KW (pl:=pl) (thn (he pins s σ H _ I h) fun u s1 ⟨x,H1,I1,rx,a,dx,fs,ex,ea,l,q⟩=>?_) ht;subst ex;obtain rfl:u=Value.ref a:=rx
 refine i7 I1 ea c hm l ?_;refine W.callWith_K (first:=[.ref a]) (h₀:=X.base) I.ok.mod.kin hm.kp (thn (ha pos pins s1 σ H1 _ I1 q) fun us s2 ⟨vs,H2,I2,r,q2⟩=>⟨I2.kIn,?_⟩) hst hpl;exact tT (us:=.ref a::us) (vs:=.ref a::vs) F hr hb hd hx I2 (.cons rfl r) q2
theorem bQ {pl:Sem Bool} (he:PE X o ta) (c:Cls X.K C) (hm:j1 X.K C m f) (F:aU X.prog X.w X.K X.mg X.base CX k f fd ps sp) (hr:cA k X.A) (hb:aN X.K fd ps ds) (hd:a9 dvs ds) (hx:gh CX X E)
  (ht:eval (.Call (.Attribute o m apos) [] [] pos) X.env=(do
   let ov ← eval o X.env
   standAt apos.atName
   let (f,first) ← holding [ov] (getMethod ov m pl)
   callWith pos f first (backTo pos (starEach [] X.env)) (backToKw pos (keywordEach [] X.env))):=by rfl) :
  PE X (.Call (.Attribute o m apos) [] [] pos) (Aa C m sp dvs E ta DA):=by
 intro pins s σ H Q I h;refine W.methodCall_KW (pl:=pl) (thn (he pins s σ H _ I h) fun u s1 ⟨x,H1,I1,rx,a,dx,fs,ex,ea,l,q⟩=>?_) ht;subst ex;obtain rfl:u=Value.ref a:=rx
 refine i7 I1 ea c hm l ?_;exact W.callWith_K0 (first:=[.ref a]) I1.kIn hm.kp (tT (us:=[.ref a]) (vs:=[.ref a]) F hr hb hd hx I1 (.cons rfl .nil) q)
structure Mk (K:W.Frag) (C f:Addr):Prop where
 makes:W.makesIn K C=true
 init:W.findIn K (.ref C) "__init__"=some (some (.ref f))
 fn:W.isFn K (.ref f)=true
 kp:W.keepIn K (.ref C)=true
theorem zy {pins:List (Addr×Obj)} {σ:St} {H:Hp} {s:Shared} {Q:VK} {us:List Value} {vs:List V} (M:Mk X.K C f) (F:aU X.prog X.w X.K X.mg X.base CX k f fd ps sp) (hr:cA (k+1) X.A) (hb:aN X.K fd ps ds) (hd:a9 dvs ds)
  (hx:gh CX X E) (I:Inv X pins σ H s) (r:a9 vs us)
  (h:∀ x dx,H x=none→H dx=none→dx≠x→sp (.ref x::(vs++dvs)) (upd (upd H dx (.own x)) x (.ins C dx [])) (fun v H2=>v=.non∧Q (.ref x) H2) E) :
  wpAny (model X.prog X.w) X.A (call (.ref C) us) (EP X pins σ Q) X.xe s:=by
 have hq:=h (s.heap.objs.size+1) s.heap.objs.size (I.hok.fresh (Nat.le_succ _)) (I.hok.fresh (Nat.le_refl _)) (Nat.ne_of_lt (Nat.lt_succ_self _));have I2:=Inv.made (C:=C) I;have r2:a9 (V.ref (s.heap.objs.size+1)::(vs++dvs)) (Value.ref (s.heap.objs.size+1)::(us++ds)):=.cons rfl (r.append hd)
 have hl:(Value.ref (s.heap.objs.size+1)::us++ds).length=ps.length:=by
  have e:=r2.length;rw [F.len _ _ _ _ hq] at e;exact e.symm
 refine wpAny_call (rg (f:=f) I.kIn M.makes M.init (beq_iff_eq.mp M.fn) (codeAny_mono (F.run _ X.stack _ _ ⟨Value.ref (s.heap.objs.size+1)::us,[]⟩ (Value.ref (s.heap.objs.size+1)::(us++ds)) _ _ E (hr.make C us [])
  (I2.env0.make C us []) (hb _ (Value.ref (s.heap.objs.size+1)::us) I2.kIn hl) r2 hq) fun r s' hq'=>?_))
 cases r with
 | error e=>exact hx pins σ _ _ e s' I2 hq'
 | ok fl =>
  cases fl with
  | ret u =>
   obtain ⟨v,H',I3,rv,ev,q3⟩:=I2.after hq';subst ev;exact ⟨rv,⟨V.ref (s.heap.objs.size+1),H',I3,rfl,q3⟩⟩
  | next => exact False.elim hq'
  | brk => exact False.elim hq'
  | cont => exact False.elim hq'
theorem AX (M:Mk X.K C f) (F:aU X.prog X.w X.K X.mg X.base CX k f fd ps sp) (hr:cA (k+1) X.A) (hg:Gl X x) (hm:X.mg x=some (.ref C)) (hb:aN X.K fd ps ds) (hd:a9 dvs ds) (hx:gh CX X E)
  (ha:PA X (e::es) t) (hdb:(x==("__debug__":Str))=false:=by decide) (he:starEach (e::es) X.env=(false,eval e X.env)::starEach es X.env:=by rfl) (hpl:(backTo pos (starEach es X.env)).any (·.1)=false:=by rfl) :
  PE X (.Call (.Name x p) (e::es) [] pos) (Cd C sp dvs E t):=by
 intro pins s σ H Q I h;refine wpAny_Call_Name_kw (dX I hg hm ?_ hdb);refine W.callWith_K (h₀:=X.base) I.ok.mod.kin M.kp (thn (ha pos pins s σ H _ I h) fun us s1 ⟨vs,H1,I1,r,q⟩=>⟨I1.kIn,?_⟩) he hpl;exact zy M F hr hb hd hx I1 r q
end
structure aG (N P:List Str) (sc:Scope):Prop where
 kind:sc.kind=.function
 co:sc.isCoroutine=false
 gen:sc.isGenerator=false
 nd:N.Nodup
 pre:N.take P.length=P
 par:∀ x∈P,sc.names.lookup x=some .local∨sc.names.lookup x=some .cell
 nofree:∀ y∈sc.names,y.2≠.free
theorem oq {kindOf:Str→Option NameKind} {x:Str}:∀ {binds:List (Str×Value)} {m:Str→Option Value},(∀ v,(x,v)∉binds)→bindL kindOf binds m x=m x
 | [],_,_=>rfl
 | (n,v)::r,m,h=>by
  unfold bindL;rw [oq fun w hw=>h w (List.mem_cons_of_mem _ hw)]
  split
  ·have:x≠n:=by rintro rfl; exact h v List.mem_cons_self
   simp [this]
  ·rfl
theorem om {kindOf:Str→Option NameKind} {x:Str}:∀ {binds:List (Str×Value)} {m:Str→Option Value},(∀ v,(x,v)∉binds)→bindC kindOf binds m x=m x
 | [],_,_=>rfl
 | (n,v)::r,m,h=>by
  unfold bindC;rw [om fun w hw=>h w (List.mem_cons_of_mem _ hw)]
  split
  ·rfl
  ·have:x≠n:=by rintro rfl; exact h v List.mem_cons_self
   simp [this]
theorem oo {kindOf:Str→Option NameKind} {x:Str} {v:Value}:∀ {P:List Str} {vs:List Value} {i:Nat} {m:Str→Option Value},P.Nodup→P[i]?=some x→vs[i]?=some v→kindOf x=some .local →
  bindL kindOf (P.zip vs) m x=some v
 | [],_,_,_,_,h,_,_=>by simp at h
 | _::_,[],_,_,_,_,h,_=>by simp at h
 | p::P,w::vs,0,m,nd,h1,h2,hk=>by
  simp at h1 h2; subst h1; subst h2
  show bindL kindOf ((p,w)::P.zip vs) m p=_
  unfold bindL;rw [oq fun v hv=>(List.nodup_cons.mp nd).1 (List.of_mem_zip hv).1,if_pos hk];simp
 | p::P,w::vs,i+1,m,nd,h1,h2,hk=>by
  show bindL kindOf ((p,w)::P.zip vs) m x=_
  unfold bindL;exact oo (i:=i) (List.nodup_cons.mp nd).2 (by simpa using h1) (by simpa using h2) hk
theorem oh {kindOf:Str→Option NameKind} {x:Str} {v:Value}:∀ {P:List Str} {vs:List Value} {i:Nat} {m:Str→Option Value},P.Nodup→P[i]?=some x→vs[i]?=some v→kindOf x≠some .local →
  bindC kindOf (P.zip vs) m x=some v
 | [],_,_,_,_,h,_,_=>by simp at h
 | _::_,[],_,_,_,_,h,_=>by simp at h
 | p::P,w::vs,0,m,nd,h1,h2,hk=>by
  simp at h1 h2; subst h1; subst h2
  show bindC kindOf ((p,w)::P.zip vs) m p=_
  unfold bindC;rw [om fun v hv=>(List.nodup_cons.mp nd).1 (List.of_mem_zip hv).1,if_neg hk];simp
 | p::P,w::vs,i+1,m,nd,h1,h2,hk=>by
  show bindC kindOf ((p,w)::P.zip vs) m x=_
  unfold bindC;exact oh (i:=i) (List.nodup_cons.mp nd).2 (by simpa using h1) (by simpa using h2) hk
noncomputable def iX (N:List Str) (vs:List V):St:=vs.map some++List.replicate (N.length - vs.length) none
noncomputable def cq (CX:CXT) (P:Program) (w:World) (K:W.Frag) (mg:Str→Option Value) (base:Heap) (N:List Str) (qual:Str) (scope:Scope) (f:Addr) (cd:Value) (A:Around) (outer:List Env) (s:Shared) (H:Hp) (E:XK):Cx where
 prog:=P
 w:=w
 K:=K
 mg:=mg
 base:=base
 A:=A.deeper (envOfC qual scope s.heap.objs.size f cd)
 N:=N
 s₀:=s
 H₀:=H
 env:=envOfC qual scope s.heap.objs.size f cd
 outer:=outer
 stack:=envOfC qual scope s.heap.objs.size f cd::outer
 ex:=[]
 calm:=true
 fn:=fun _=>true
 pn:=[]
 xe:=fun e s'=>wpAny (model P w) (A.deeper (envOfC qual scope s.heap.objs.size f cd)) (leaving (envOfC qual scope s.heap.objs.size f cd) e) (fun _ s''=>CX outer H s E e s'') (fun e' s''=>CX outer H s E e' s'') s'
theorem qH {sc:Scope} {n:Nat} {x:Str} (h:sc.names.lookup x=some .cell):∃ c,(cellsFrom n sc.names []).lookup x=some c:=by
 have q:=W.cellsFrom_some sc.names n [] (.inl h);exact Option.isSome_iff_exists.mp q
theorem vC {CX:CXT} {P:Program} {w:World} {K:W.Frag} {mg:Str→Option Value} {base:Heap} {N ps:List Str} {qual:Str} {scope:Scope} {f:Addr} {cd:Value} {A:Around} {outer:List Env} {s s1:Shared} {H:Hp} {E:XK} {us:List Value} {vs:List V}
    (S:aG N ps scope) (hd:A.handled=none) (e0:sA P w K mg base A outer s H) (hl:vs.length=ps.length) (r:a9 vs us)
    (x:InCallC s s.heap.objs.size (bindL (envOfC qual scope s.heap.objs.size f cd).kindOf (ps.zip us) fun _=>none) (cellsFrom (s.heap.objs.size+1) scope.names []) (bindC (envOfC qual scope s.heap.objs.size f cd).kindOf (ps.zip us) fun _=>none) s1) :
    Inv (cq CX P w K mg base N qual scope f cd A outer s H E) [] (iX N vs) H s1:=by
  have hpl:ps.length≤N.length:=by have:=congrArg List.length S.pre; rw [List.length_take] at this; omega
  obtain ⟨h1,tk,rfl,hk⟩:=x.done;have noA:∀ b:Addr,b∉(cq CX P w K mg base N qual scope f cd A outer s H E).ex:=fun b z=>absurd (show b∈([]:List Addr) from z) (by simp);refine ⟨⟨e0.mod,S.kind,rfl,rfl,Nat.le_refl _,fun y z c h1 h2=>?_,fun y hy=>?_,fun y c _ h=>?_,fun _=>hd,Around.frames_deeper e0.frames,.inr ⟨rfl,rfl⟩,fun b z=>absurd z (noA b),e0.bs,e0.bsz,fun b _ _=>noA b,fun b z=>absurd z (noA b),e0.funs,e0.frf⟩,
    rfl,e0.bare,Un.kept hk,⟨_,x.toInCall.ns,fun i y v h1 h2 h3=>?_⟩,fun y c h=>⟨_,x.cell y c h⟩,e0.hok.fresh (Nat.le_refl _),fun y c h=>?_,fun p hp=>absurd (show p∈([]:List (Addr×Obj)) from hp) (by simp),e0.hok.kept hk,?_⟩
  · exact name_of_addr x.apart (PySem.mem_of_lookup h1) (PySem.mem_of_lookup h2)
  · have hy:scope.names.lookup y=some .cell∨scope.names.lookup y=some .free:=hy
    rcases hy with hy | hy
    · exact qH hy
    · exact absurd rfl (S.nofree _ (PySem.mem_of_lookup hy))
  · exact Nat.le_of_lt (x.above y c (PySem.mem_of_lookup h))
  · have hi:i<vs.length:=by
      unfold iX at h2;by_cases hi:i<vs.length
      · exact hi
      · rw [List.getElem?_append_right (by simpa using hi)] at h2
        rw [List.getElem?_replicate] at h2
        split at h2<;>cases h2
    have ha:vs[i]?=some v:=by
      unfold iX at h2;rw [List.getElem?_append_left (by simpa using hi),List.getElem?_map] at h2
      cases e:vs[i]? with
      | none=>rw [e] at h2; cases h2
      | some a=>rw [e] at h2; cases h2; rfl
    obtain ⟨u,hu,rv⟩:=r.get ha
    have hp:ps[i]?=some y:=by
      rw [← S.pre,List.getElem?_take_of_lt (by omega)]; exact h1
    have ndP:ps.Nodup:=by rw [← S.pre]; exact S.nd.sublist (List.take_sublist _ _)
    refine ⟨u,rv,?_⟩;rcases S.par y (List.mem_of_getElem? hp) with k | k
    · exact .inl ⟨k,oo ndP hp hu k⟩
    · obtain ⟨c,e⟩:=qH (n:=s.heap.objs.size+1) k
      refine .inr ⟨.inl k,c,e,?_⟩;have q:=x.cell y c e;rw [oh ndP hp hu (by show scope.names.lookup y≠_; rw [k]; decide)] at q;exact q
  · exact e0.hok.fresh (Nat.le_of_lt (x.above y c (PySem.mem_of_lookup h)))
  · unfold iX
    show _=N.length
    rw [List.length_append,List.length_map,List.length_replicate];omega
theorem xk {CX:CXT} {P:Program} {w:World} {K:W.Frag} {mg:Str→Option Value} {base:Heap} {k:Nat} {f:Addr} {name qual:Str} {params:Arguments} {body:List Stmt} {scope:Scope} {dV kV doc pm cdv ct oc:Value} {an od:Option Addr}
  {osl:Array (Option Value)} {N ps:List Str} {sp:Sp} (lk:K.lookup f=some ⟨oc,od,.func (W.fnOf name qual params body scope dV kV doc pm an cdv ct),osl⟩) (hcd:W.codeIn K cdv qual=true) (S:aG N ps scope)
  (len:∀ vs H Q E,sp vs H Q E→vs.length=ps.length)
  (hbody:∀ (A:Around) (outer:List Env) (s:Shared) (H:Hp) (vs:List V) (Q:VK) (E:XK),cA k (A.deeper (envOfC qual scope s.heap.objs.size f cdv))→sp vs H Q E →
   ∃ t,PSs (cq CX P w K mg base N qual scope f cdv A outer s H E) body t∧t { nx:=fun _ H'=>Q .non H',rt:=Q } (iX N vs) H) :
  aU P w K mg base CX (k+1) f (W.fnOf name qual params body scope dV kV doc pm an cdv ct) ps sp:=by
 refine ⟨len,fun A outer s H args us vs Q E hr e0 hb r hsp=>?_⟩;have hl:=len _ _ _ _ hsp;have KX:K.In s.heap:=e0.mod.kin.keeps fun b o e=>(e0.bs b o e).1;have lim:s.heap.NoLimit:=e0.mod.nolimit.keeps fun b o e=>(e0.bs b o e).1;have hkind:∀ y∈ps.zip us,scope.names.lookup y.1=some .local∨(scope.names.lookup y.1=some .cell∧((cellsFrom (s.heap.objs.size+1) scope.names []).lookup y.1).isSome=true):=fun ⟨n,v⟩ hy=>by
  rcases S.par n (List.of_mem_zip hy).1 with q | q
  ·exact .inl q
  ·exact .inr ⟨q,W.cellsFrom_some _ _ _ (.inl q)⟩
 refine codeAny_call_function hr.depth (KX _ _ lk) rfl S.co S.gen rfl (W.codeRec_of KX hcd) (hb _ _ _ _ ?_);refine wpAny_newFunctionEnv_cells S.kind hkind fun env he s1 x=>?_;subst he;refine ⟨lim.keeps x.toInCall.keep,codeAny_func ?_⟩;obtain ⟨t,ht,hq⟩:=hbody A outer s H vs Q E (hr.deeper _) hsp;have I:Inv (cq CX P w K mg base N qual scope f cdv A outer s H E) [] (iX N vs) H s1:=vC S hr.hd e0 hl r x;refine wpAny_mono (ht [] s1 (iX N vs) H _ I hq) (fun fl s' hs=>?_) fun e s' hs=>hs
 have fin:∀ {σ':St} {H':Hp} {v:V} {u:Value},Inv (cq CX P w K mg base N qual scope f cdv A outer s H E) [] σ' H' s'→a7 v u→Q v H'→CE outer P w H s Q u s' :=
  fun {σ' H' v u} J rv q=>⟨v,H',J.os,J.bare,J.base,J.hok,rv,q⟩
 cases fl with
 | ret u =>
  obtain ⟨v,σ',H',J,rv,q⟩:=hs;exact fin J rv q
 | next =>
  obtain ⟨σ',H',J,q⟩:=hs;exact fin (v:=V.non) (u:=Value.none) J rfl q
 | brk =>
  obtain ⟨_,_,_,q⟩:=hs;exact False.elim q
 | cont =>
  obtain ⟨_,_,_,q⟩:=hs;exact False.elim q
section
variable {X:Cx} {x:Str} {p pos:Pos} {e:Expr} {es:List Expr} {t:TA} {id T:String} {r:List V→Hp→VK→Prop}
def tCB (r:List V→Hp→VK→Prop) (t:TA):TE:=fun σ H Q=>t σ H fun vs H1=>r vs H1 Q
theorem aC (hc:cb X (.builtin id) r) (hg:Gl X x) (hm:X.mg x=none) (hv:bootBuiltins x=some (.builtin id)) (ha:PA X (e::es) t) (hn:x≠"__name__":=by decide) (hdb:(x==("__debug__":Str))=false:=by decide)
  (he:starEach (e::es) X.env=(false,eval e X.env)::starEach es X.env:=by rfl) (hpl:(backTo pos (starEach es X.env)).any (·.1)=false:=by rfl):PE X (.Call (.Name x p) (e::es) [] pos) (tCB r t):=by
 intro pins s σ H Q I h;refine wpAny_Call_Name_kw (mC I hg hm hv ?_ hn hdb);exact PyProof.Rows.callWith_builtin1 (thn (ha pos pins s σ H _ I h) fun us s1 ⟨vs,H1,I1,r1,q1⟩=>hc pins s1 σ H1 vs us Q I1 r1 q1) he hpl
theorem dn (hc:cb X (.type T) r) (hg:Gl X x) (hm:X.mg x=none) (hv:bootBuiltins x=some (.type T)) (ha:PA X (e::es) t) (hn:x≠"__name__":=by decide) (hdb:(x==("__debug__":Str))=false:=by decide)
  (he:starEach (e::es) X.env=(false,eval e X.env)::starEach es X.env:=by rfl) (hpl:(backTo pos (starEach es X.env)).any (·.1)=false:=by rfl):PE X (.Call (.Name x p) (e::es) [] pos) (tCB r t):=by
 intro pins s σ H Q I h;refine wpAny_Call_Name_kw (mC I hg hm hv ?_ hn hdb);exact PyProof.Rows.callWith_type1 (thn (ha pos pins s σ H _ I h) fun us s1 ⟨vs,H1,I1,r1,q1⟩=>hc pins s1 σ H1 vs us Q I1 r1 q1) he hpl
end
end L2
namespace HT
open PySem PyProof.Rows
section
open PySem.SeqAt
open PySem.AutoSeq1 (wpAny_loadPart')
open PySem.MeetsSeq PySem.MeetsSeq2 PySem.MeetsSeq3
end
section
variable {prog:Program} {w:World} {A:Around} {E:Value→Shared→Prop} {s:Shared}
noncomputable def sIx (n d:Nat):Option Int→Nat
 | none=>d
 | some v=>if v<0 then (v+(n:Int)).toNat else min v.toNat n
theorem jR (n d:Nat):sIx n d none=d:=rfl
theorem lO (n d k:Nat):sIx n d (some (k:Int))=min k n:=by
 show (if (k:Int)<0 then ((k:Int)+(n:Int)).toNat else min (k:Int).toNat n)=min k n
 rw [if_neg (by omega),Int.toNat_natCast]
end
end HT
namespace L2
open PySem PySem.Spec PyProof.Rows
noncomputable abbrev TO:=St→Hp→(Option Int→Hp→Prop)→Prop
def PO (X:Cx) (e:Option Expr) (t:TO):Prop :=
 ∀ (pins:List (Addr×Obj)) (s:Shared) (σ:St) (H:Hp) (Q:Option Int→Hp→Prop),Inv X pins σ H s→t σ H Q →
  wpAny (model X.prog X.w) X.A (evalPart e X.env) (fun u s'=>∃ o H',Inv X pins σ H' s'∧IsPart u o∧Q o H') X.xe s
noncomputable def u5:TO:=fun _ H Q=>Q none H
noncomputable def Cg (t:TE):TO:=fun σ H Q=>t σ H fun x H1=>∃ i,x=.int i∧Q (some i) H1
section
variable {X:Cx} {e:Expr} {te:TE} {lo hi:Option Expr} {tl th:TO} {pos p2:Pos}
theorem bz:PO X none u5:=by
 intro pins s σ H Q I h;rw [evalPart_none];exact wpAny_pure ⟨none,H,I,.none,h⟩
theorem bA (h:PE X e te):PO X (some e) (Cg te):=by
 intro pins s σ H Q I hw;rw [evalPart_some];refine thn (h pins s σ H _ I hw) fun u s1 ⟨x,H1,I1,r1,q1⟩=>?_;obtain ⟨i,rfl,q⟩:=q1;obtain ⟨t,rfl⟩:=r1;exact ⟨some i,H1,I1,.int i t,q⟩
def SlR (X:Cx) (r:V→Option Int→Option Int→Hp→VK→Prop):Prop :=
 ∀ (pins:List (Addr×Obj)) (s:Shared) (σ:St) (H:Hp) (x:V) (v vl vu:Value) (lo hi:Option Int) (sl:Addr) (Q:VK),Inv X pins σ H s→a7 x v→s.heap.IsSliceOf sl vl vu .none→IsPart vl lo→IsPart vu hi→r x lo hi H Q →
  ∃ T id,typeLookup (.type T) "__getitem__"=pure (some (.builtin id))∧s.TypeIs v T∧wpAny (model X.prog X.w) X.A (getItem v (.ref sl)) (EP X pins σ Q) X.xe s
def tSl (r:V→Option Int→Option Int→Hp→VK→Prop) (te:TE) (tl th:TO):TE:=fun σ H Q=>te σ H fun x H1=>tl σ H1 fun l H2=>th σ H2 fun u H3=>r x l u H3 Q
theorem aY {r:V→Option Int→Option Int→Hp→VK→Prop} (hr:SlR X r) (he:PE X e te) (hl:PO X lo tl) (hu:PO X hi th):PE X (.Subscript e (.Slice lo hi none p2) pos) (tSl r te tl th):=by
 intro pins s σ H Q I h;refine Subscript_ (thn (he pins s σ H _ I h) fun v s1 ⟨x,H1,I1,r1,q1⟩=>?_);refine wpAny_Slice (thn (hl pins s1 σ H1 _ I1 q1) fun vl s2 ⟨l,H2,I2,pl,q2⟩=>thn (hu pins s2 σ H2 _ I2 q2) fun vu s3 ⟨u,H3,I3,pu,q3⟩=>?_);rw [evalPart_none];refine wpAny_pure ?_;have I4:Inv X pins σ H3 { s3 with heap:=s3.heap.push { cls:=.type "slice",data:=.fields #[vl,vu,.none] } }:=I3.kept (t':=s3.toks) fun b ob q=>Heap.get?_push_of_some _ q;obtain ⟨T,id,hT,ht,hg⟩:=hr pins { s3 with heap:=s3.heap.push { cls:=.type "slice",data:=.fields #[vl,vu,.none] } } σ H3 x v vl vu l u s3.heap.objs.size Q I4 r1 (Heap.IsSliceOf.new ..) pl pu q3
 show wpAny (model X.prog X.w) X.A (subscriptTail e (.Slice lo hi none p2) v (.ref s3.heap.objs.size)) (EP X pins σ Q) X.xe { s3 with heap:=s3.heap.push { cls:=.type "slice",data:=.fields #[vl,vu,.none] } }
 exact tail_any (ops:=[.ref s3.heap.objs.size,v]) ht hT hg (by with_unfolding_all rfl)
noncomputable def bN (xs:List V) (lo hi:Option Int):List V:=(xs.drop (HT.sIx xs.length 0 lo)).take (HT.sIx xs.length xs.length hi - HT.sIx xs.length 0 lo)
theorem qL (xs:List V) (lo hi:Option Int):(bN xs lo hi).length≤xs.length:=by
 unfold bN;rw [List.length_take,List.length_drop];omega
end
noncomputable def ixN (n:Nat) (i:Int):Option Nat:=if 0≤i then (if i<n then some i.toNat else none) else if -(n:Int)≤i then some (i+n).toNat else none
noncomputable def atI {α:Type} (xs:List α) (i:Int):Option α:=(ixN xs.length i).bind fun j=>xs[j]?
theorem AL {n:Nat} {i:Int} {j:Nat} (h:ixN n i=some j):seqIndex? i n=some j∧j<n∧-(n:Int)≤i∧i<n:=by
 unfold ixN at h;by_cases h0:0≤i
 ·rw [if_pos h0] at h;by_cases h1:i<n
  ·rw [if_pos h1] at h;have e:i.toNat=j:=Option.some.inj h;exact ⟨by rw [seqIndex_of h0 h1,e],by omega,by omega,h1⟩
  ·rw [if_neg h1] at h; cases h
 ·rw [if_neg h0] at h;by_cases h1:-(n:Int)≤i
  ·rw [if_pos h1] at h;have e:(i+n).toNat=j:=Option.some.inj h;exact ⟨by rw [seqIndex_neg (by omega) h1,e],by omega,h1,by omega⟩
  ·rw [if_neg h1] at h; cases h
theorem ph {α:Type} {xs:List α} {i:Int} {v:α} (h:atI xs i=some v):∃ j,seqIndex? i xs.length=some j∧xs[j]?=some v∧j<xs.length∧-(xs.length:Int)≤i∧i<xs.length:=by
 unfold atI at h
 cases e:ixN xs.length i with
 | none=>rw [e] at h; cases h
 | some j =>
  rw [e] at h;obtain ⟨h1,h2,h3,h4⟩:=AL e;exact ⟨j,h1,h,h2,h3,h4⟩
theorem cZ {α:Type} {xs:List α} {j:Nat} {v:α} (h:xs[j]?=some v):atI xs (j:Int)=some v:=by
 have hj:j<xs.length:=(List.getElem?_eq_some_iff.mp h).1
 have e:ixN xs.length (j:Int)=some j:=by
  unfold ixN;rw [if_pos (by omega),if_pos (by omega)]; simp
 unfold atI; rw [e]; exact h
def ur (b:Expr):Prop:=∀ o i,subscripted b false o i=operate [o,i] (getItem o i)
def IxR (X:Cx) (r:R2):Prop :=
 ∀ (value slice:Expr) (pins:List (Addr×Obj)) (s:Shared) (σ:St) (H:Hp) (x y:V) (v u:Value) (Q:VK),Inv X pins σ H s→a7 x v→a7 y u→r x y H Q →
  subscripted slice false v u=operate [v,u] (getItem v u)→wpAny (model X.prog X.w) X.A (subscriptTail value slice v u) (EP X pins σ Q) X.xe s
def MtR (X:Cx) (id:String) (r:V→List V→Hp→VK→Prop):Prop :=
 ∀ (pins:List (Addr×Obj)) (s:Shared) (σ:St) (H:Hp) (x:V) (xs:List V) (v:Value) (us:List Value) (Q:VK),Inv X pins σ H s→a7 x v→a9 xs us→r x xs H Q →
  wpAny (model X.prog X.w) X.A (call (.builtin id) (v::us)) (EP X pins σ Q) X.xe s
section
variable {X:Cx} {a b:Expr} {ta tb:TE} {pos:Pos}
theorem D0 {r:R2} (hr:IxR X r) (ha:PE X a ta) (hb:PE X b tb) (hs:ur b):PE X (.Subscript a b pos) (tOp r ta tb):=by
 intro pins s σ H Q I h;exact Subscript_ (Cp ha hb I h fun v u s2 x y H2 I2 rx ry q=>hr a b pins s2 σ H2 x y v u Q I2 rx ry q (hs _ _))
def CW (K:W.Frag):R2:=fun x y H Q=>∃ p xs i v,x=.ref p∧y=.int i∧SqL K H p xs∧atI xs i=some v∧Q v H
def CZ (K:W.Frag):R2:=fun x y H Q=>∃ p xs i v,x=.ref p∧y=.int i∧SqT K H p xs∧atI xs i=some v∧Q v H
def CY:R2:=fun x y H Q=>∃ z i c,x=.str z∧y=.int i∧z.length≤sizeLine∧atI z.cps.toList i=some c∧Q (.str ⟨#[c]⟩) H
theorem AM:IxR X (CW X.K):=by
  intro value slice pins s σ H x y v u Q I rx ry h hs;obtain ⟨p,xs,i,z,rfl,rfl,hq,he,q⟩:=h
  cases rx;obtain ⟨t,rfl⟩:=ry;obtain ⟨its,r,pl,hz⟩:=I.list hq;obtain ⟨j,h1,h2,h3,h4,h5⟩:=ph he;obtain ⟨w,ew,rw'⟩:=r.get h2;have hl:=r.length;have hn:=mD;have fin:EP X pins σ Q w s:=⟨z,H,I,rw',q⟩
  by_cases h0:0≤i
  · have hj:i.toNat=j:=by
      rw [seqIndex_of h0 h5] at h1;exact Option.some.inj h1
    exact item_listR pl.isList h0 (by omega) (by rw [hj]; simpa using ew) fin hs
  · have hj:(i+(its.toArray.size:Int)).toNat=j:=by
      rw [seqIndex_neg (by omega) h4] at h1;rw [List.size_toArray,← hl];exact Option.some.inj h1
    exact subscriptTail_builtinR (x:=w) pl.isList.typeIs slot_list_getitem.lookup
      (wpAny_getItem_list_neg (Q:=fun r s'=>r=w∧EP X pins σ Q r s') pl.isList (by omega) (by rw [List.size_toArray]<;>omega) (by omega) (by rw [hj]; simpa using ew) ⟨rfl,fin⟩) hs
theorem CD:IxR X (CZ X.K):=by
 intro value slice pins s σ H x y v u Q I rx ry h hs;obtain ⟨p,xs,i,z,rfl,rfl,hq,he,q⟩:=h
 cases rx;obtain ⟨t,rfl⟩:=ry;obtain ⟨its,r,pl,hz⟩:=I.tuple hq;obtain ⟨j,h1,h2,h3,h4,h5⟩:=ph he;obtain ⟨w,ew,rw'⟩:=r.get h2;have hl:=r.length;have hn:=mD;have fin:EP X pins σ Q w s:=⟨z,H,I,rw',q⟩
 exact subscriptTail_builtinR (x:=w) pl.typeIs slot_tuple_getitem.lookup
  (getItem_tuple (j:=j) (Q:=fun r s'=>r=w∧EP X pins σ Q r s') pl (by omega) (by omega) (by rw [List.size_toArray,← hl]; exact h1) (by simpa using ew) ⟨rfl,fin⟩) hs
theorem CC:IxR X CY:=by
 intro value slice pins s σ H x y v u Q I rx ry h hs;obtain ⟨z,i,c,rfl,rfl,hz,he,q⟩:=h;obtain ⟨t,rfl⟩:=rx;obtain ⟨t',rfl⟩:=ry;obtain ⟨j,h1,h2,h3,h4,h5⟩:=ph he;have hl:z.cps.toList.length=z.length:=by simp [Str.length]
 rw [hl] at h1 h4 h5;have hn:=mD;exact tail_any (typeIs_str s z t) slot_str_getitem.lookup (getItem_str (c:=c) (by
  have e1:decide (i < -(2 ^ 63:Int))=false:=decide_eq_false (by omega);have e2:decide (i≥2 ^ 63)=false:=decide_eq_false (by omega);rw [e1,e2,Bool.or_false]) (by rw [h1]; simpa using h2) ⟨.str ⟨#[c]⟩,H,I.tok _,⟨_,rfl⟩,q⟩) hs
theorem qk (lo hi:Option Int) (n:Nat):(sliceBounds lo hi none n).1=((HT.sIx n 0 lo:Nat):Int)∧(sliceBounds lo hi none n).2.1=((HT.sIx n n hi:Nat):Int)∧(sliceBounds lo hi none n).2.2=1:=by
 refine ⟨?_,?_,rfl⟩
 ·cases lo with
  | none => simp [sliceBounds, HT.sIx]
  | some i =>
   simp only [sliceBounds,HT.sIx,Option.getD_none,show (1:Int) > 0 by decide,if_true];by_cases h:i<0
   ·simp only [h,if_true]<;>omega
   ·simp only [h,if_false]<;>omega
 ·cases hi with
  | none => simp [sliceBounds, HT.sIx]
  | some i =>
   simp only [sliceBounds,HT.sIx,Option.getD_none,show (1:Int) > 0 by decide,if_true];by_cases h:i<0
   ·simp only [h,if_true]<;>omega
   ·simp only [h,if_false]<;>omega
theorem nO (its:List Value) (lo hi:Option Int):slicePick its.toArray lo hi none=((its.drop (HT.sIx its.length 0 lo)).take (HT.sIx its.length its.length hi - HT.sIx its.length 0 lo)).toArray:=by
 obtain ⟨h1,h2,h3⟩:=qk lo hi its.toArray.size;unfold slicePick;rw [h1,h2,h3];simp only [sliceRange_one,pick_run,List.size_toArray]<;>rfl
def A7 (K:W.Frag):V→Option Int→Option Int→Hp→VK→Prop:=fun x lo hi H Q=>∃ a xs,x=.ref a∧SqL K H a xs∧∀ p,H p=none→Q (.ref p) (upd H p (.lst (bN xs lo hi)))
theorem BA:SlR X (A7 X.K):=by
 intro pins s σ H x v vl vu lo hi sl Q I rx hs pl pu h;obtain ⟨a,xs,rfl,hx,q⟩:=h
 cases rx;obtain ⟨its,r,ht,hz⟩:=I.list hx;have hlen:=r.length;refine ⟨"list",_,slot_list_getitem.lookup,ht.isList.typeIs,?_⟩;refine wpAny_getItem_list_slice ht.isList hs pl pu .none (by simp) ?_ (by rw [List.size_toArray]<;>omega);rw [nO,← hlen];refine ⟨.ref s.heap.objs.size,_,I.laid (t':=s.toks) (o:=.lst (bN xs lo hi)) (fun b ob q=>Heap.get?_push_of_some _ q) (Nat.le_refl _) ?_,rfl,q _ (I.hok.fresh (Nat.le_refl _))⟩;exact ⟨Nat.le_trans (qL xs lo hi) hz,_,0,(r.drop (HT.sIx xs.length 0 lo)).take (HT.sIx xs.length xs.length hi - HT.sIx xs.length 0 lo),Heap.get?_push_size _ rfl⟩
noncomputable def kS:V→Bool
 | .non=>true
 | .bl _=>true
 | .int _=>true
 | .str _=>true
 | _=>false
noncomputable def eqV:V→V→Bool
 | .non,.non=>true
 | .bl a,.bl b=>a==b
 | .bl a,.int b=>(if a then 1 else 0)==b
 | .int a,.bl b=>a==(if b then 1 else 0)
 | .int a,.int b=>a==b
 | .str a,.str b=>a==b
 | _,_=>false
theorem Cw {A:Around} {s:Shared} {y x:V} {u v:Value} (ry:a7 y u) (rx:a7 x v) (fy:kS y=true) (fx:kS x=true):SeqAt.EqAt A s u v (eqV y x):=by
 cases y with
 | non =>
  cases ry
  cases x with
  | non => cases rx; exact SeqAt.EqAt.same _
  | bl b => cases rx; exact SeqAt.EqAt.none_bool b
  | int b => obtain ⟨t, rfl⟩ := rx; exact SeqAt.EqAt.none_int b t
  | str b => obtain ⟨t, rfl⟩ := rx; exact SeqAt.EqAt.none_str b t
  | _ => exact absurd (show false = true from fx) Bool.false_ne_true
 | bl a =>
  cases ry
  cases x with
  | non => cases rx; exact SeqAt.EqAt.bool_none a
  | bl b => cases rx; exact SeqAt.EqAt.bool_bool a b
  | int b => obtain ⟨t, rfl⟩ := rx; exact SeqAt.EqAt.bool_int a b t
  | str b => obtain ⟨t, rfl⟩ := rx; exact SeqAt.EqAt.bool_str a b t
  | _ => exact absurd (show false = true from fx) Bool.false_ne_true
 | int a =>
  obtain ⟨t',rfl⟩:=ry
  cases x with
  | non => cases rx; exact SeqAt.EqAt.int_none a t'
  | bl b => cases rx; exact SeqAt.EqAt.int_bool a t' b
  | int b => obtain ⟨t, rfl⟩ := rx; exact SeqAt.EqAt.int_int a t' b t
  | str b => obtain ⟨t, rfl⟩ := rx; exact SeqAt.EqAt.int_str a t' b t
  | _ => exact absurd (show false = true from fx) Bool.false_ne_true
 | str a =>
  obtain ⟨t',rfl⟩:=ry
  cases x with
  | non => cases rx; exact SeqAt.EqAt.str_none a t'
  | bl b => cases rx; exact SeqAt.EqAt.str_bool a t' b
  | int b => obtain ⟨t, rfl⟩ := rx; exact SeqAt.EqAt.str_int a t' b t
  | str b => obtain ⟨t, rfl⟩ := rx; exact SeqAt.EqAt.str_str a t' b t
  | _ => exact absurd (show false = true from fx) Bool.false_ne_true
 | _=>exact absurd (show false=true from fy) Bool.false_ne_true
noncomputable def eqU (x:V) (u:Value):Bool:=match u with
 | .none=>eqV .non x
 | .bool b=>eqV (.bl b) x
 | .int i _=>eqV (.int i) x
 | .str z _=>eqV (.str z) x
 | _=>false
theorem w5 {x y:V} {u:Value} (r:a7 y u) (f:kS y=true):eqU x u=eqV y x:=by
 cases y with
 | non=>cases r; rfl
 | bl b=>cases r; rfl
 | int i=>obtain ⟨t,rfl⟩:=r; rfl
 | str z=>obtain ⟨t,rfl⟩:=r; rfl
 | _=>exact absurd (show false=true from f) Bool.false_ne_true
theorem jx {x:V}:∀ {xs:List V} {us:List Value},a9 xs us→xs.all kS=true→us.any (eqU x)=xs.any fun y=>eqV y x
 | _,_,.nil,_=>rfl
 | y::xs,u::us,.cons r t,f=>by
  rw [List.all_cons,Bool.and_eq_true] at f;rw [List.any_cons,List.any_cons,w5 r f.1,jx t f.2]
theorem gW {A:Around} {s:Shared} {x:V} {v:Value} (rx:a7 x v) (fx:kS x=true):∀ {xs:List V} {us:List Value},a9 xs us→xs.all kS=true→∀ u∈us,SeqAt.EqAt A s u v (eqU x u)
 | _,_,.nil,_=>fun u hu=>by cases hu
 | y::xs,u::us,.cons r t,f=>fun u' hu=>by
  rw [List.all_cons,Bool.and_eq_true] at f;rcases List.mem_cons.mp hu with rfl | hu
  ·rw [w5 r f.1]; exact Cw r rx f.1 fx
  ·exact gW rx fx t f.2 u' hu
noncomputable def inV (x:V) (xs:List V):Bool:=xs.any fun y=>eqV y x
def rIn (K:W.Frag) (neg:Bool):R2:=fun x y H Q=>∃ p xs,y=.ref p∧(SqL K H p xs∨SqT K H p xs)∧kS x=true∧xs.all kS=true∧Q (.bl (if neg then !inV x xs else inV x xs)) H
theorem vR:OpR X (compareOp .In) (rIn X.K false):=by
 intro pins s σ H x y v u Q I rx ry h;obtain ⟨p,xs,rfl,hq,fx,fs,q⟩:=h
 cases ry;rcases hq with hq | hq
 ·obtain ⟨its,r,pl,hz⟩:=I.list hq;refine SeqAt.in_listAt (eqU x) pl.isList (fun w hw=>gW rx fx r fs w (by simpa using hw)) ⟨.bl _,H,I,rfl,?_⟩;rw [show its.toArray.any (eqU x)=its.any (eqU x) by simp,jx r fs];exact q
 ·obtain ⟨its,r,pl,hz⟩:=I.tuple hq;refine SeqAt.in_tupleAt (eqU x) pl (fun w hw=>gW rx fx r fs w (by simpa using hw)) ⟨.bl _,H,I,rfl,?_⟩;rw [show its.toArray.any (eqU x)=its.any (eqU x) by simp,jx r fs];exact q
theorem pR:OpR X (compareOp .NotIn) (rIn X.K true):=by
 intro pins s σ H x y v u Q I rx ry h;obtain ⟨p,xs,rfl,hq,fx,fs,q⟩:=h
 cases ry;rcases hq with hq | hq
 ·obtain ⟨its,r,pl,hz⟩:=I.list hq;refine SeqAt.notIn_listAt (eqU x) pl.isList (fun w hw=>gW rx fx r fs w (by simpa using hw)) ⟨.bl _,H,I,rfl,?_⟩;rw [show its.toArray.any (eqU x)=its.any (eqU x) by simp,jx r fs];exact q
 ·obtain ⟨its,r,pl,hz⟩:=I.tuple hq;refine SeqAt.notIn_tupleAt (eqU x) pl (fun w hw=>gW rx fx r fs w (by simpa using hw)) ⟨.bl _,H,I,rfl,?_⟩;rw [show its.toArray.any (eqU x)=its.any (eqU x) by simp,jx r fs];exact q
theorem pk:cb X (.builtin "len") (fun xs H Q=>∃ p ys,xs=[.ref p]∧(SqL X.K H p ys∨SqT X.K H p ys)∧Q (.int ys.length) H):=by
 intro pins s σ H xs us Q I r h;obtain ⟨p,ys,rfl,hq,q⟩:=h;obtain ⟨u,rfl,rx⟩:=kZ r
 cases rx;have hn:=mD;rcases hq with hq | hq
 ·obtain ⟨its,r',pl,hz⟩:=I.list hq;have hlen:=r'.length;exact Calls.call_len_list pl.isList (by simp only [List.size_toArray]<;>omega) ⟨.int ys.length,H,I.tok _,⟨s.toks+1,by rw [List.size_toArray,hlen]⟩,q⟩
 ·obtain ⟨its,r',pl,hz⟩:=I.tuple hq;have hlen:=r'.length;exact len_tuple pl (by simp only [List.size_toArray]<;>omega) ⟨.int ys.length,H,I.tok _,⟨s.toks+1,by rw [List.size_toArray,hlen]⟩,q⟩
theorem pq:cb X (.builtin "len") (fun xs H Q=>∃ z,xs=[.str z]∧z.length≤sizeLine∧Q (.int z.length) H):=by
 intro pins s σ H xs us Q I r h;obtain ⟨z,rfl,hz,q⟩:=h;obtain ⟨u,rfl,t,rfl⟩:=kZ r;have hn:=mD;exact len_str (by omega) ⟨.int z.length,H,I.tok _,⟨_,rfl⟩,q⟩
theorem pz:cb X (.type "list") (fun xs H Q=>∃ p ys,xs=[.ref p]∧(SqL X.K H p ys∨SqT X.K H p ys)∧∀ l,H l=none→Q (.ref l) (upd H l (.lst ys))):=by
  intro pins s σ H xs us Q I r h;obtain ⟨p,ys,rfl,hq,q⟩:=h;obtain ⟨u,rfl,rx⟩:=kZ r
  cases rx;have fin:∀ (its:List Value),a9 ys its→ys.length≤sizeLine→∀ (h':Heap) (c':Nat),(∀ b o',s.heap.get? b=some o'→h'.get? b=some o') →
      h'.get? s.heap.objs.size=some { cls:=.type "list",dict:=none,data:=.seq its.toArray c',slots:=#[] }→EP X pins σ Q (.ref s.heap.objs.size) { s with heap:=h' }:=fun its r' hz h' c' kp e =>
    ⟨.ref s.heap.objs.size,_,I.laid (t':=s.toks) kp (Nat.le_refl _) (show bq X.prog X.w _ h' _ (.lst ys) from ⟨hz,its,c',r',e⟩),rfl,q _ (I.hok.fresh (Nat.le_refl _))⟩
  rcases hq with hq | hq
  · obtain ⟨its,r',pl,hz⟩:=I.list hq
    have hlen:=r'.length;obtain ⟨o,ho,hc,n,hd⟩:=pl.isList;exact call_list_seq p (.inl rfl) ho hc hd (fun h' c' kp e=>fin its r' hz h' c' kp e) (by simp only [List.size_toArray]<;>omega)
  · obtain ⟨its,r',pl,hz⟩:=I.tuple hq
    have hlen:=r'.length;obtain ⟨o,ho,hc,n,hd⟩:=pl;exact call_list_seq p (.inr rfl) ho hc hd (fun h' c' kp e=>fin its r' hz h' c' kp e) (by simp only [List.size_toArray]<;>omega)
def tyV (K:W.Frag) (T:String) (x:V) (H:Hp):Prop:=match x with
  | .str _ => T = "str"
  | .int _ => T = "int"
  | .ref p => (T = "list" ∧ ∃ xs, SqL K H p xs) ∨ (T = "tuple" ∧ ∃ o, K.lookup p = some o ∧ o.cls = .type "tuple" ∧ o.dict = none) ∨
      (T="dict"∧((∃ kvs,H p=some (.dK kvs))∨∃ kvs,H p=some (.dT kvs)))∨(T="set"∧∃ S n,H p=some (.set S n))
  | _ => False
theorem Aj {pins:List (Addr×Obj)} {σ:St} {H:Hp} {s:Shared} {T:String} {x:V} {v:Value} (I:Inv X pins σ H s) (r:a7 x v) (ty:tyV X.K T x H) :
    s.TypeIs v T∧∀ a,v=.ref a→∃ ob,s.heap.get? a=some ob∧ob.dict=none:=by
  cases x with
  | str z =>
    obtain ⟨t,rfl⟩:=r
    cases (show T="str" from ty)
    exact ⟨typeIs_str s z t,fun _ e=>nomatch e⟩
  | int i =>
    obtain ⟨t,rfl⟩:=r
    cases (show T="int" from ty)
    exact ⟨typeIs_int s i t,fun _ e=>nomatch e⟩
  | ref p =>
    cases r;rcases ty with ⟨rfl,xs,hq⟩ | ⟨rfl,o,hk,hc,hd⟩ | ⟨rfl,hk⟩ | ⟨rfl,S,n,hk⟩
    · obtain ⟨its,_,pl,_⟩:=I.list hq
      refine ⟨pl.isList.typeIs,fun a e=>?_⟩
      cases e;obtain ⟨o,n,e,c,hd,_⟩:=pl;exact ⟨o,e,hd⟩
    · refine ⟨⟨o,I.kIn p o hk,hc⟩,fun a e=>?_⟩
      cases e;exact ⟨o,I.kIn _ o hk,hd⟩
    · have z:∃ o,s.heap.get? p=some o∧o.ExactDict:=by
        rcases hk with ⟨kvs,hk⟩ | ⟨kvs,hk⟩
        · obtain ⟨_,_,_,_,o,_,_,e,ex,_⟩:=I.hok p _ hk
          exact ⟨o,e,ex⟩
        · obtain ⟨_,_,_,_,o,_,_,e,ex,_⟩:=I.hok p _ hk
          exact ⟨o,e,ex⟩
      obtain ⟨o,e,ex⟩:=z;refine ⟨⟨o,e,ex.1⟩,fun a e2=>?_⟩
      cases e2;exact ⟨o,e,ex.2.1⟩
    · obtain ⟨o,_,_,_,e,ex,_⟩:=I.hok p _ hk
      refine ⟨⟨o,e,ex.1⟩,fun a e2=>?_⟩
      cases e2;exact ⟨o,e,ex.2.1⟩
  | _ => exact False.elim ty
def Er (K:W.Frag) (T:String) (r:V→List V→Hp→VK→Prop) (to:TE):TE:=fun σ H Q=>to σ H fun x H1=>tyV K T x H1∧r x [] H1 Q
def tBM (K:W.Frag) (T:String) (r:V→List V→Hp→VK→Prop) (to:TE) (t:TA):TE:=fun σ H Q=>to σ H fun x H1=>tyV K T x H1∧t σ H1 fun xs H2=>r x xs H2 Q
variable {o e:Expr} {es:List Expr} {to:TE} {t:TA} {name:Str} {apos cpos:Pos} {T id:String} {r:V→List V→Hp→VK→Prop}
theorem pS (pa:PlainAttrs T) (slot:Slot T name id) (hty:typeOf (.builtin id)=pure (.type "method_descriptor")) (hm:MtR X id r) (ho:PE X o to)
  (hbase:attributeBase o name X.env (eval o X.env)=eval o X.env:=by rfl) (hline:(apos.endLine==cpos.line)=true:=by rfl):PE X (.Call (.Attribute o name apos) [] [] cpos) (Er X.K T r to):=by
 intro pins s σ H Q I h;refine wpAny_Call_method0_late hbase hline (thn (ho pins s σ H _ I h) fun v s1 ⟨x,H1,I1,r1,ty,q1⟩=>?_);obtain ⟨h1,h2⟩:=Aj I1 r1 ty;exact ⟨T,id,pa,slot,hty,h1,h2,Calls.callWith_builtin rfl (PySem.evalArgs_none (hm pins s1 σ H1 x [] v [] Q I1 r1 .nil q1))⟩
theorem cy (pa:PlainAttrs T) (slot:Slot T name id) (hty:typeOf (.builtin id)=pure (.type "method_descriptor")) (hm:MtR X id r) (ho:PE X o to) (ha:PA X (e::es) t)
  (hbase:attributeBase o name X.env (eval o X.env)=eval o X.env:=by rfl)
  (hfew:((backTo cpos (starEach (e::es) X.env)).all (fun x=>!x.1)&&(backToKw cpos (keywordEach [] X.env)).all (fun x=>x.1.isSome)
   && decide ((e::es).length+([]:List Keyword).length+(if ([]:List Keyword).isEmpty then 0 else 1)<30))=true:=by rfl)
  (hline:(apos.endLine==cpos.line)=true:=by rfl) (hs:starEach (e::es) X.env=(false,eval e X.env)::starEach es X.env:=by rfl) (hplain:(backTo cpos (starEach es X.env)).any (·.1)=false:=by rfl) :
  PE X (.Call (.Attribute o name apos) (e::es) [] cpos) (tBM X.K T r to t):=by
 intro pins s σ H Q I h;refine wpAny_Call_method_late hbase hfew hline rfl (thn (ho pins s σ H _ I h) fun v s1 ⟨x,H1,I1,r1,ty,q1⟩=>?_);obtain ⟨h1,h2⟩:=Aj I1 r1 ty;refine ⟨T,id,pa,slot,hty,h1,h2,?_⟩;have hA:=ha cpos pins s1 σ H1 _ I1 q1;rw [hs] at hA ⊢;refine Calls.callWith_builtin (by show (false||(backTo cpos (starEach es X.env)).any (·.1))=false; rw [hplain]<;>rfl) (Calls.evalArgs_plain ?_);exact thn hA fun us s2 ⟨vs,H2,I2,r2,q2⟩=>hm pins s2 σ H2 x vs v us Q I2 r1 r2 q2
/- xs.append(e),list.index on a module's tuple .. are MtR facts of 06m -/
end
def MtM (X:Cx) (id:String) (r:V→List V→Hp→VK→Prop):Prop :=
 ∀ (pins:List (Addr×Obj)) (s:Shared) (σ:St) (H:Hp) (x:V) (xs:List V) (v:Value) (us:List Value) (Q:VK),Inv X pins σ H s→a7 x v→a9 xs us→r x xs H Q →
  wpAny (model X.prog X.w) X.A (call (.builtin id) (v::us)) (EP X pins σ Q) X.xe s
theorem a9.one:∀ {x:V} {us:List Value},a9 [x] us→∃ u,us=[u]∧a7 x u
 | _,_,.cons r .nil=>⟨_,rfl,r⟩
theorem a9.two:∀ {x y:V} {us:List Value},a9 [x,y] us→∃ u v,us=[u,v]∧a7 x u∧a7 y v
 | _,_,_,.cons r (.cons q .nil)=>⟨_,_,rfl,r,q⟩
section
variable {X:Cx} {pins:List (Addr×Obj)} {σ:St} {H:Hp} {s:Shared} {l b:Addr} {xs ys zs:List V}
theorem Inv.lset {its its':List Value} {n:Nat} {f:Array Value→Array Value} {t':Nat} (I:Inv X pins σ H s) (hH:H l=some (.lst xs))
  (e:s.heap.get? l=some { cls:=.type "list",data:=.seq its.toArray n }) (hf:f its.toArray=its'.toArray) (hv:a9 ys its') (hz:ys.length≤sizeLine) :
  Inv X pins σ (upd H l (.lst ys)) { s with heap:=s.heap.update l (Obj.mapSeq f),toks:=t' }:=by
 have q:=PySem.IsL.update e f;rw [hf] at q;refine I.write (x:=l) (e:=l) (by rw [hH]; exact trivial) (.inl rfl) (fun b' u hb hu=>(Heap.get?_update_other s.heap (Obj.mapSeq f) (Ne.symm hb)).trans hu) ⟨_,q⟩ ?_;exact ⟨hz,its',_,hv,q⟩
theorem Inv.lnew {its:List Value} {t':Nat} (I:Inv X pins σ H s) (hv:a9 ys its) (hz:ys.length≤sizeLine) :
  Inv X pins σ (upd H s.heap.objs.size (.lst ys)) { s with heap:=s.heap.push { cls:=.type "list",data:=.seq its.toArray },toks:=t' } :=
 I.laid (fun _ _ q=>Heap.get?_push_of_some _ q) (Nat.le_refl _) ⟨hz,its,0,hv,Heap.get?_push_size _ rfl⟩
theorem Inv.fresh (I:Inv X pins σ H s):H s.heap.objs.size=none:=I.hok.fresh (Nat.le_refl _)
theorem Inv.lstM (I:Inv X pins σ H s) (hH:H l=some (.lst xs)):xs.length≤sizeLine∧∃ (its:List Value) (n:Nat),a9 xs its∧xs.length=its.length∧s.heap.get? l=some { cls:=.type "list",data:=.seq its.toArray n }:=by
 obtain ⟨z,its,n,r,e⟩:=I.hok l _ hH;exact ⟨z,its,n,r,r.length,e⟩
theorem xR {n:Nat} (h:n≤sizeLine):Builtin.List.listTooLong n=false:=by
 unfold Builtin.List.listTooLong;exact decide_eq_false (by omega)
end
section
variable {X:Cx}
def uT:V→List V→Hp→VK→Prop:=fun x vs H Q=>∃ l xs y,x=.ref l∧vs=[y]∧H l=some (.lst xs)∧xs.length<sizeLine∧Q .non (upd H l (.lst (xs++[y])))
theorem cf:MtM X "list.append" uT:=by
 intro pins s σ H x vs v us Q I rx rv h;obtain ⟨l,xs,y,rfl,rfl,hH,hz,q⟩:=h
 cases rx;obtain ⟨u,rfl,ru⟩:=rv.one;obtain ⟨z,its,n,r,hl,e⟩:=I.lstM hH;refine call_meets F.slot_list_append ⟨_,e,rfl⟩ F.entry_list_append (F.args_list_append_2 _ _) (PySem.list_append l its.toArray n u (by rw [List.size_toArray]; omega)) ⟨e,?_⟩;refine ⟨.non,_,I.lset (its':=its++[u]) hH e (by simp) (r.append (.cons ru .nil)) ?_,rfl,q⟩;rw [List.length_append,List.length_singleton];omega
def A4:V→List V→Hp→VK→Prop:=fun x vs H Q=>∃ l b xs zs,x=.ref l∧vs=[.ref b]∧H l=some (.lst xs)∧H b=some (.lst zs)∧xs.length+zs.length≤sizeLine∧Q .non (upd H l (.lst (xs++zs)))
theorem vI:MtM X "list.extend" A4:=by
 intro pins s σ H x vs v us Q I rx rv h;obtain ⟨l,b,xs,zs,rfl,rfl,hH,hB,hz,q⟩:=h
 cases rx;obtain ⟨u,rfl,ru⟩:=rv.one
 cases ru;obtain ⟨z,its,n,r,hl,e⟩:=I.lstM hH;obtain ⟨z2,its2,n2,r2,hl2,e2⟩:=I.lstM hB;have hsz:its.toArray.size+its2.toArray.size≤sizeLine:=by rw [List.size_toArray,List.size_toArray]; omega
 have hlong:¬ (!its.toArray.isEmpty&&Builtin.List.listTooLong (its.toArray.size+its2.toArray.size))=true:=by
  rw [xR hsz,Bool.and_false];exact Bool.false_ne_true
 refine call_meets F.slot_list_extend ⟨_,e,rfl⟩ F.entry_list_extend (F.args_list_extend_2 _ _)
  (AutoSeq1.list_extend_list_list_0 l its.toArray n b its2.toArray n2 hlong (by rw [List.size_toArray]; omega) (by omega)) ⟨e,e2,?_⟩
 refine ⟨.non,_,I.lset (its':=its++its2) hH e (by simp) (r.append r2) ?_,rfl,q⟩;rw [List.length_append];omega
def A3:R2:=fun x y H Q=>∃ l b xs zs,x=.ref l∧y=.ref b∧H l=some (.lst xs)∧H b=some (.lst zs)∧xs.length+zs.length≤sizeLine∧∀ p,H p=none→Q (.ref p) (upd H p (.lst (xs++zs)))
theorem cT:OpR X (binaryOp .Add) A3:=by
 intro pins s σ H x y v u Q I rx ry h;obtain ⟨l,b,xs,zs,rfl,rfl,hH,hB,hz,q⟩:=h
 cases rx
 cases ry;obtain ⟨z,its,n,r,hl,e⟩:=I.lstM hH;obtain ⟨z2,its2,n2,r2,hl2,e2⟩:=I.lstM hB;refine PySem.P.add_list e e2 ?_ (by rw [List.size_toArray,List.size_toArray]; omega);have ea:its.toArray++its2.toArray=(its++its2).toArray:=by simp
 rw [ea];exact ⟨.ref _,_,I.lnew (t':=s.toks) (r.append r2) (by rw [List.length_append]; omega),rfl,q _ I.fresh⟩
end
section
variable {prog:Program} {w:World} {A:Around} {E:Value→Shared→Prop} {s:Shared}
set_option maxRecDepth 100000 in
end
end L2
namespace Att
open PySem PySem.W PySem.Calls PyProof.Rows
theorem lu {P:Params} {h:Heap}:∀ (ns:List Int) (vs:List Value),WellAll P h vs (ns.map WData.int)→IntsAre vs ns:=by
 intro ns
 induction ns with
 | nil =>
  intro vs w;rw [List.map_nil] at w
  cases w;exact .nil
 | cons n ns ih =>
  intro vs w;rw [List.map_cons] at w
  cases w with
  | cons a b =>
   cases a;exact .cons _ _ (ih _ b)
theorem v7 {l:OpenLaw} {n:Nat} (hn:l.most=some n) {P:Params} {h:Heap} {args:List WData} {vals:List Value}
  (hpre:l.row.toRowW.claim.pre args=true) (hwl:WellAll P h vals args) :
  ∃ a vs ns,vals=[Value.ref a]∧args=[WData.list (ns.map WData.int)]∧h.get? a=some { cls:=.type "list",data:=.seq vs.toArray }∧IntsAre vs ns∧ns.length≤n:=by
 have hsh:WShape.hasAll [] args [.list .int]=true:=(pre_splitW hpre).1;have hc:l.pre.holds [] { args:=args }=true:=(pre_splitW hpre).2;obtain ⟨d,r,rfl,h1,h2⟩:=hasAllW_cons hsh;obtain rfl:=hasAllW_nil h2
 obtain ⟨xs,rfl,h3⟩:=hasW_list h1;obtain ⟨ns,rfl⟩:=items_int h3
 have hlen:ns.length≤n:=by
  unfold OpenLaw.pre at hc
  have h4:(WTm.not (.lt (.lit (.int (n:Int))) (.len (.arg 0)))).holds [] { args:=[.list (ns.map .int)] }=true:=by
   have h4:=(holds_andW hc).1;rw [hn] at h4;exact h4
  have h5:=condW_of h4 (w_not (w_lt w_lit (w_len_list (w_arg rfl))));rw [List.length_map] at h5;refine Nat.le_of_not_lt fun q=>?_;have q':(n:Int)<((ns.length:Nat):Int):=by omega
  first
   | (rw [decide_eq_true q'] at h5; exact absurd h5 (by decide))
   | (simp at h5; omega)
 cases hwl with
 | cons w1 w2 =>
  cases w2
  cases w1 with
  | list ho hall => exact ⟨_, _, ns, rfl, rfl, ho, lu ns _ hall, hlen⟩
theorem vS (l:OpenLaw) (args:List WData):l.row.toRowW.claim.post args (.bool true) args=true :=
 postW_of (r:=l.row.toRowW) (X:=(true==true))
  (show WShape.has [] (.bool true) .bool=true by first | rfl | decide | simp [WShape.has,WShape.arms,WShape.armsAll])
  (show (WTm.eq .res (.lit (.bool true))).value [] { args:=args,res:=some (.bool true),after:=args }=some (.bool (true==true)) from w_eq_bool (w_res rfl) w_lit) rfl
theorem qD {l:OpenLaw} {n:Nat} {q:Program} {loose:List Str} {XP:(Str→Option Value)→Heap→Prop} {YP:World→Heap→Prop} {d:DefRec}
  (hn:l.most=some n) (hdf:d.params.defaults=[])
  (call:∀ (w:World) (s₀ s₁:Shared) (mg mb:Str→Option Value) (fa:Addr) (o:Obj) (pm cd doc:Value) (a:Addr) (vs:List Value) (ns:List Int),
   Ground q loose [] XP w s₀ mg mb s₁.heap→YP w s₁.heap →
   s₁.heap.get? fa=some o→o.data=.func (docDef d.name d.params d.body d.scope pm cd doc)→s₁.heap.CodeRec cd d.name→mg d.name=some (.ref fa) →
   s₁.heap.get? a=some { cls:=.type "list",data:=.seq vs.toArray }→IntsAre vs ns→ns.length≤n→s₁.gens=#[] →
   codeAny (model l.prog w) callerA (.call (.ref fa) ⟨[.ref a],[]⟩) (fun r s'=>r=.ok (.ret (.bool true))∧OldK s₁.heap s'.heap∧s'.os=s₁.os∧AllBare s'.gens) s₁) :
  WalkO q loose XP YP l.row.toRowW d [] (fun f vs=>PySem.call f vs):=by
 intro w s₀ s₁ mg mb G Y fa o pm cd doc dV kV ho hd hcd hD hmg hg args vals as hpre hlay hrd hwl hlo;obtain rfl:dV=.none:=Dflts.none hD hdf
 obtain rfl:kV=.none:=Dflts.noKw hD
 obtain ⟨a,vs,ns,rfl,rfl,hobj,hints,hlen⟩:=v7 hn hpre hwl;refine enter_call (codeAny_mono (call w s₀ s₁ mg mb fa o pm cd doc a vs ns G Y ho (fd_plain hd) hcd hmg hobj hints hlen hg) fun r s' hq=>?_);obtain ⟨rfl,h2,h3,h4⟩:=hq;exact ⟨.inl ⟨.bool true,.bool true,[],rfl,fun _=>rfl,.bool true,vS l _,fun _=>⟨List.Pairwise.nil,fun _ hm=>(nomatch hm)⟩⟩,h2,h3,h4⟩
section
variable {prog:Program} {w:World} {A:Around} {E:Value→Shared→Prop} {s:Shared} {K:Frag}
noncomputable def ES (h:Heap) (L d:Addr):List (Addr×Obj):=(List.range h.objs.size).filterMap fun a=>if a=L∨a=d then none else (h.get? a).map fun o=>(a,o)
end
end Att
namespace L2
open PySem PySem.Spec PyProof.Rows
theorem oY:∀ {vs:List Value} {ns:List Int},IntsAre vs ns→a9 (ns.map V.int) vs
 | _,_,.nil=>.nil
 | _,_,.cons n t h=>.cons ⟨t,rfl⟩ (oY h)
def Ax (H:Hp):Prop:=∀ b,H b=none∨∃ o xs,H b=some (.frz o (.lst xs))
theorem xM {P:Program} {w:World} {K:W.Frag} {mg mb:Str→Option Value} {CX:CXT} {k:Nat} {fa a:Addr} {fd:FuncData} {x:Str} {sp:Sp} {s₁:Shared} {vs:List Value} {ns:List Int}
    (KX:K.In s₁.heap) (hns:s₁.heap.Ns mainGlobals mg) (hb:s₁.heap.Ns builtinsNs mb) (hbb:∀ x:Str,x≠"__name__"→mb x=bootBuiltins x) (hlim:s₁.heap.NoLimit) (hg:s₁.gens=#[])
    (ha:s₁.heap.get? a=some { cls:=.type "list",data:=.seq vs.toArray }) (hi:IntsAre vs ns) (hl:ns.length≤sizeLine) (hr:cA k callerA)
    (F:∀ base:Heap,K.In base→base.Ns mainGlobals mg→aU P w K mg base CX k fa fd [x] sp) (hbind:∀ (s:Shared) (u:Value),BindsTo s fd ⟨[u],[]⟩ [(x,u)])
    (hsp:∀ H:Hp,Ax H→SqL K H a (ns.map V.int)→sp [.ref a] H (fun v _=>v=.bl true) fun _ _ _=>False)
    (hCX:∀ H e s',CX [] H s₁ (fun _ _ _=>False) e s'→False) :
    codeAny (model P w) callerA (.call (.ref fa) ⟨[.ref a],[]⟩) (fun r s'=>r=.ok (.ret (.bool true))∧OldK s₁.heap s'.heap∧s'.os=s₁.os∧AllBare s'.gens) s₁:=by
  have rv:=oY hi;have lenV:=hi.length
  -- from an abstract heap in which nothing but the script may be tracked
  have core:∀ H:Hp,Ax H→SqL K H a (ns.map V.int)→HOk P w H s₁.heap→(∀ b,H b≠none→b=a)→(H a≠none→K.lookup a=none) →
      codeAny (model P w) callerA (.call (.ref fa) ⟨[.ref a],[]⟩) (fun r s'=>r=.ok (.ret (.bool true))∧OldK s₁.heap s'.heap∧s'.os=s₁.os∧AllBare s'.gens) s₁:=by
    intro H hO hS hok hA hK;have base_of:∀ {b:Addr} {o:Obj},s₁.heap.get? b=some o→H b=none→(pH s₁.heap H).get? b=some o:=fun e n=>xx e n;have noA:∀ {b:Addr} {o:Obj} {es:Array DictEntry} {ep:Nat},s₁.heap.get? b=some o→o.data=.dict es ep→H b=none:=fun {b o es ep} e d=>by
      cases q:H b with
      | none=>rfl
      | some u =>
        have e':b=a:=hA b (by rw [q]; simp);subst e';rw [ha] at e; cases e;have d':Data.seq vs.toArray _=Data.dict es ep:=d
        cases d'
    have nsK:∀ {b:Addr} {m:Str→Option Value},s₁.heap.Ns b m→(pH s₁.heap H).Ns b m:=fun {b m} ⟨o,es,ep,e,d,r⟩=>⟨o,es,ep,base_of e (noA e d),d,r⟩
    have hKb:K.In (pH s₁.heap H):=fun b o e=>base_of (KX b o e) (by
      cases q:H b with
      | none=>rfl
      | some u =>
        have e':b=a:=hA b (by rw [q]; simp);subst e';rw [hK (by rw [q]; simp)] at e; cases e)
    have hM:Mod K mg (pH s₁.heap H):=⟨hKb,nsK hns,⟨mb,nsK hb,hbb⟩,let ⟨mc,h1,h2⟩:=hlim; ⟨mc,nsK h1,h2⟩⟩
    have e0:sA P w K mg (pH s₁.heap H) callerA [] s₁ H:=⟨rfl,hM,fun b o e=>AR e,Nat.le_of_eq (vB _ _),trivial,fun b hb=>absurd (show b∈([]:List Addr) from hb) (by simp),hok,.of_eq hg⟩
    refine codeAny_mono ((F _ hKb (nsK hns)).run callerA [] s₁ H ⟨[.ref a],[]⟩ [.ref a] [.ref a] _ _ hr e0 (hbind s₁ (.ref a)) (.cons rfl .nil) (hsp H hO hS)) fun r s' h=>?_
    cases r with
    | error e=>exact (hCX H e s' h).elim
    | ok fl =>
      cases fl with
      | next=>exact False.elim h
      | brk=>exact False.elim h
      | cont=>exact False.elim h
      | ret u =>
        obtain ⟨v,H',os,bare,un,hok',r',q⟩:=h;have q':v=.bl true:=q;subst q';obtain rfl:u=Value.bool true:=r'
        refine ⟨rfl,OldK.of_keep fun b o e=>?_,os,bare⟩
        cases q:H b with
        | none=>exact un.keep b o e q (by intro z; exact absurd (show b∈([]:List Addr) from z) (by simp)) (by simp)
        | some u =>
          rcases hO b with z | ⟨ob,xs,z⟩
          · rw [q] at z; cases z
          · have z2:=un.frzs b ob _ z
            obtain ⟨e1,_⟩:=hok b _ z;obtain ⟨e2,_⟩:=hok' b _ z2;rw [e] at e1; cases e1;exact e2
  cases hk:K.lookup a with
  | some o =>
    -- the script is one of the module's own objects
    have e:=KX a o hk;rw [ha] at e
    cases e;refine core (fun _=>none) (fun _=>.inl rfl) (.inr ⟨_,vs.toArray,_,hk,rfl,rfl,rfl,by rw [List.size_toArray,lenV]; exact hl,by simpa using rv⟩) (fun b u z=>by have z':(none:Option HO)=some u:=z; cases z') (fun b z=>absurd rfl z) fun z=>absurd rfl z
  | none =>
    refine core (fun b=>if b=a then some (.frz { cls:=.type "list",data:=.seq vs.toArray } (.lst (ns.map V.int))) else none) (fun b=>?_) (.inl (.inr ⟨{ cls:=.type "list",data:=.seq vs.toArray },if_pos rfl⟩)) (fun b u z=>?_) (fun b z=>?_) fun _=>hk
    · by_cases hb:b=a
      · exact .inr ⟨_,_,if_pos hb⟩
      · exact .inl (if_neg hb)
    · by_cases hb:b=a
      · have z':=(if_pos hb).symm.trans z
        cases z';subst hb;exact ⟨ha,by rw [List.length_map]; exact hl,vs,_,rv,ha⟩
      · have z':=(if_neg hb).symm.trans z
        cases z'
    · by_cases hb:b=a
      · exact hb
      · exact absurd (if_neg hb) z
noncomputable abbrev KOf {K:W.Frag} {h:Heap} (_:K.In h):W.Frag:=K
theorem walk_of {l:PySem.W.OpenLaw} {n k:Nat} {q:Program} {loose:List Str} {XP:(Str→Option Value)→Heap→Prop} {YP:World→Heap→Prop} {d:DefRec} {K:Params→W.Frag} {CX:World→CXT} {sp:World→Sp} {x:Str}
  (hn:l.most=some n) (hn2:n≤sizeLine) (hdf:d.params.defaults=[]) (hr:cA k callerA)
  (hY:∀ (w:World) (h:Heap),YP w h→(K w.params).In h)
  (F:∀ (w:World) (mg:Str→Option Value) (fa:Addr) (h:Heap),(K w.params).In h→h.Ns mainGlobals mg→mg d.name=some (.ref fa) →
   ∃ fd:FuncData,(∀ (s:Shared) (u:Value),BindsTo s fd ⟨[u],[]⟩ [(x,u)]) ∧
    ∀ base:Heap,(K w.params).In base→base.Ns mainGlobals mg→aU l.prog w (K w.params) mg base (CX w) k fa fd [x] (sp w))
  (hsp:∀ (w:World) (H:Hp) (a:Addr) (ns:List Int),ns.length≤n→Ax H→SqL (K w.params) H a (ns.map V.int)→sp w [.ref a] H (fun v _=>v=.bl true) fun _ _ _=>False)
  (hCX:∀ (w:World) (H:Hp) (s:Shared) (e:Value) (s':Shared),CX w [] H s (fun _ _ _=>False) e s'→False) :
  PySem.W.WalkO q loose XP YP l.row.toRowW d [] (fun f vs=>PySem.call f vs):=by
 refine Att.qD hn hdf fun w s₀ s₁ mg mb fa o pm cd doc a vs ns G Y ho hd hcd hmg hobj hints hlen hg=>?_;have KX:=hY w _ Y;obtain ⟨fd,hb,hF⟩:=F w mg fa _ KX G.T.g hmg;exact xM KX G.T.g G.T.b G.T.builtins G.T.nolimit hg hobj hints (Nat.le_trans hlen hn2) hr hF hb (fun H hO hS=>hsp w H a ns hlen hO hS) fun H e s'=>hCX w H s₁ e s'
theorem walk_ofK {l:PySem.W.OpenLaw} {n k:Nat} {q:Program} {loose:List Str} {XP:(Str→Option Value)→Heap→Prop} {YP:World→Heap→Prop} {d:DefRec} {K:Params→W.Frag} {CX:CXT} {sp:W.Frag→Sp} {x:Str}
  (hn:l.most=some n) (hn2:n≤sizeLine) (hdf:d.params.defaults=[]) (hr:cA k callerA)
  (hY:∀ (w:World) (h:Heap),YP w h→(K w.params).In h)
  (F:∀ (w:World) (mg:Str→Option Value) (fa:Addr) (h:Heap),(K w.params).In h→h.Ns mainGlobals mg→mg d.name=some (.ref fa) →
   ∃ fd:FuncData,(∀ (s:Shared) (u:Value),BindsTo s fd ⟨[u],[]⟩ [(x,u)]) ∧
    ∀ base:Heap,(K w.params).In base→base.Ns mainGlobals mg→aU l.prog w (K w.params) mg base CX k fa fd [x] (sp (K w.params)))
  (hsp:∀ (K:W.Frag) (H:Hp) (a:Addr) (ns:List Int),ns.length≤n→Ax H→SqL K H a (ns.map V.int)→sp K [.ref a] H (fun v _=>v=.bl true) fun _ _ _=>False)
  (hCX:∀ (H:Hp) (s:Shared) (e:Value) (s':Shared),CX [] H s (fun _ _ _=>False) e s'→False) :
  PySem.W.WalkO q loose XP YP l.row.toRowW d [] (fun f vs=>PySem.call f vs) :=
 walk_of (K:=K) (CX:=fun _=>CX) (sp:=fun w=>sp (K w.params)) hn hn2 hdf hr hY F (fun w H a ns h1 h2 h3=>hsp (K w.params) H a ns h1 h2 h3) fun _ H s e s'=>hCX H s e s'
end L2
/- THE LAST THEOREM (shape; LID,My.* are yours):
   My.Adr: a structure of the addresses that your layer names (classes,functions); My.Txt K t: a structure (Prop) of the equations over K;
   My.txt_mk:{K} {implicit addresses ..} (e1:nsIn K mainGlobals "law"=some (some (.ref f))) (e2:K.lookup f=some ⟨oc,od,.func (fnOf "law" "law" params body scope dV kV doc pm an cdv ct),sl⟩) (e3:codeIn K cdv "law"=true) ..:∃ t,My.Txt K t
set_option maxRecDepth 100000 in
set_option maxHeartbeats 0 in
theorem PySem.Challenge.cw_LID_holds : PySem.Challenge.rw_LID.Holds := by
 w_on; o_law; k_head; (case hw=>w_witness2)
 k_fill
 refine L2.walk_of (l:=PySem.Challenge.rw_LID) (n:=63) (k:=40) (x:="script") (CX:=fun w=>..) (sp:=fun _=>My.sp_law) rfl (by decide) rfl ⟨rfl,by decide,by decide⟩ (fun w h Y=>W.kIn_of Y) ?F ?S ?C
 case F =>
  intro w mg fa h KX G hmg
  have T:∃ t,My.Txt (L2.KOf KX) t:=by
   dsimp only [L2.KOf]                          -- K must stand as «<heap const> w.params» for k_is;refine' My.txt_mk ?e1 ?e2 ?e3 ..
   (case e1=>W.k_is)                    -- in the order: a name -> its address -> its object -> its parts
   (case e2=>W.k_is)
   ..
  obtain ⟨t,T⟩:=T;have e0:=hmg.symm.trans (W.mg_of KX G T.law)
  cases e0                                       -- fa is the law's own address
  exact ⟨_,fun s u=>.of_eq rfl,fun base kb nb=>My.law_fn T kb nb⟩     -- if «.of_eq rfl» comes too early: refine' ⟨_,?b,fun base kb nb=>My.law_fn T kb nb⟩; exact fun s u=>.of_eq rfl
 case S=>exact fun w H a ns hl hO hS=>..
 case C=>exact ..
(the tactic k_is has no namespace: write k_is) -/
namespace L2
open PySem PySem.Spec PyProof.Rows
noncomputable def dz (s:Stmt) (j:Nat):Stmt:=match s with
 | .ClassDef _ _ _ body _ _ _ _ _ _ _=>body.getD j (.Pass ⟨0,0,0,0⟩)
 | _=>.Pass ⟨0,0,0,0⟩
noncomputable def eN (s:Stmt):Arguments:=match s with
 | .FunctionDef _ a _ _ _ _ _ _ _ _=>a
 | _=>{ posonlyargs:=[],args:=[],vararg:=none,kwonlyargs:=[],kw_defaults:=[],kwarg:=none,defaults:=[] }
noncomputable def c7 (s:Stmt):List Stmt:=match s with
 | .FunctionDef _ _ b _ _ _ _ _ _ _=>b
 | _=>[]
noncomputable def aq (s:Stmt):Scope:=match s with
 | .FunctionDef _ _ _ _ _ _ sc _ _ _=>sc
 | _=>{ kind:=.function,names:=[],isGenerator:=false,isCoroutine:=false }
noncomputable abbrev CX0:CXT:=fun _ _ _ _ _ _=>False
abbrev E0:XK:=fun _ _ _=>False
theorem bo {X:Cx}:gh CX0 X E0:=fun _ _ _ _ _ _ _ h=>h.elim
structure Fun (K:W.Frag) (x qual:Str) (st:Stmt) (f:Addr) (fd:FuncData):Prop where
 ex:∃ (oc:Value) (od:Option Addr) (kV doc pm:Value) (an:Option Addr) (cdv ct:Value) (osl:Array (Option Value)),
  fd=W.fnOf x qual (eN st) (c7 st) (aq st) .none kV doc pm an cdv ct∧K.lookup f=some ⟨oc,od,.func fd,osl⟩∧W.codeIn K cdv qual=true
 kp:W.keepIn K (.ref f)=true
section
variable {P:Program} {w:World} {K:W.Frag} {mg:Str→Option Value} {base:Heap}
theorem Fun.ok {x qual:Str} {st:Stmt} {f:Addr} {fd:FuncData} {N ps:List Str} {k:Nat} {sp:Sp} (F:Fun K x qual st f fd) (S:aG N ps (aq st)) (len:∀ vs H Q E,sp vs H Q E→vs.length=ps.length)
  (hbody:∀ (cdv:Value) (A:Around) (outer:List Env) (s:Shared) (H:Hp) (vs:List V) (Q:VK) (E:XK),cA k (A.deeper (envOfC qual (aq st) s.heap.objs.size f cdv))→sp vs H Q E →
   ∃ t,PSs (cq CX0 P w K mg base N qual (aq st) f cdv A outer s H E).nox (c7 st) t∧t { nx:=fun _ H'=>Q .non H',rt:=Q } (iX N vs) H):aU P w K mg base CX0 (k+1) f fd ps sp:=by
 obtain ⟨oc,od,kV,doc,pm,an,cdv,ct,osl,rfl,lk,hcd⟩:=F.ex;refine xk lk hcd S len fun A outer s H vs Q E hr hsp=>?_;obtain ⟨t,h,q⟩:=hbody cdv A outer s H vs Q E hr hsp;exact ⟨t,h.nox,q⟩
theorem Fun.binds {x qual:Str} {st:Stmt} {f:Addr} {fd:FuncData} {ps:List Str} (F:Fun K x qual st f fd)
  (h:∀ (kV doc pm:Value) (an:Option Addr) (cdv ct:Value) (us:List Value),us.length=ps.length→bindArgs (W.fnOf x qual (eN st) (c7 st) (aq st) .none kV doc pm an cdv ct) ⟨us,[]⟩=pure (ps.zip us)):aN K fd ps []:=by
 obtain ⟨oc,od,kV,doc,pm,an,cdv,ct,osl,rfl,lk,hcd⟩:=F.ex;exact .all (h kV doc pm an cdv ct)
theorem fun_mk {x qual:Str} {st:Stmt} {f:Addr} {oc:Value} {od an:Option Addr} {osl:Array (Option Value)} {kV doc pm cdv ct:Value} (l:K.lookup f=some ⟨oc,od,.func (W.fnOf x qual (eN st) (c7 st) (aq st) .none kV doc pm an cdv ct),osl⟩)
  (c:W.codeIn K cdv qual=true) (k:W.keepIn K (.ref f)=true):Fun K x qual st f (W.fnOf x qual (eN st) (c7 st) (aq st) .none kV doc pm an cdv ct):=⟨⟨oc,od,kV,doc,pm,an,cdv,ct,osl,rfl,l,c⟩,k⟩
end
theorem b0 {A:Around} {k:Nat} (hr:cA k A):A.units+1<cLine:=Nat.lt_of_le_of_lt (Nat.add_le_add_left (by decide:1≤64) _) hr.units
theorem aZ {n:Nat} (h:n≤1000):n<sizeLine:=Nat.lt_of_le_of_lt h (by decide)
section
variable {X:Cx}
theorem pv (i:Nat) {x:Str} {pos:Pos} (hN:X.N[i]?=some x:=by rfl) (hv:Vis X.env.scope x:=by first | exact Or.inl rfl | exact Or.inr (Or.inl rfl) | exact Or.inr (Or.inr rfl)) (hd:(x==("__debug__":Str))=false:=by decide)
  (hcd:(x==("__classdict__":Str))=false:=by decide):PE X (.Name x pos) (DB i):=yo hN hv hd hcd
end
theorem EO {A B:Prop} (h:B):if false=true then A else B:=by
 rw [if_neg Bool.false_ne_true];exact h
theorem mw {A B:Prop} (h:A):if true=true then A else B:=by
 rw [if_pos rfl];exact h
theorem i8 {c A B:Prop} [Decidable c] (h1:c→A) (h2:¬ c→B):if c then A else B:=by
 by_cases h:c
 ·rw [if_pos h];exact h1 h
 ·rw [if_neg h];exact h2 h
def ao (H H':Hp):Prop:=∀ b o,H b=some o→H' b=some o
theorem ao.refl (H:Hp):ao H H:=fun _ _ h=>h
theorem ao.trans {H H1 H2:Hp} (a:ao H H1) (b:ao H1 H2):ao H H2:=fun c o h=>b c o (a c o h)
theorem ao.free {H H':Hp} (e:ao H H') {l:Addr} (h:H' l=Option.none):H l=Option.none:=by
 cases q:H l with
 | none=>rfl
 | some o =>
  rw [e l o q] at h
  cases h
theorem ao.seq {K:W.Frag} {H H':Hp} {a:Addr} {xs:List V} (e:ao H H') (h:SqL K H a xs):SqL K H' a xs:=by
 rcases h with (h | ⟨o,h⟩) | h
 ·exact .inl (.inl (e _ _ h))
 ·exact .inl (.inr ⟨o,e _ _ h⟩)
 ·exact .inr h
noncomputable def cD (cells:List (Str×Addr)):List (Str×NameKind)→List (Str×Addr)→List (Str×Addr)
 | [],acc=>acc
 | (n,k)::r,acc=>cD cells r (if k==.free then (n,(cells.lookup n).getD 0)::acc else acc)
theorem iO {scope:Scope} {env:Env} (h:∀ x∈scope.names,x.2=.free→∃ c,env.cells.lookup x.1=some c):closureFor scope env=pure (cD env.cells scope.names []):=by
 unfold closureFor;generalize hn:scope.names=names at h ⊢;clear hn;generalize ([]:List (Str×Addr))=acc
 induction names generalizing acc with
 | nil=>simp [cD]
 | cons x r ih =>
  obtain ⟨n,k⟩:=x;have ih':=fun a=>ih (fun x hx=>h x (List.mem_cons_of_mem _ hx)) a;simp only [List.forIn_cons,bind_pure] at ih' ⊢;by_cases hk:k=.free
  ·obtain ⟨c,hc⟩:=h (n,k) List.mem_cons_self hk;subst hk;have hcl:cellOf env n=pure c:=by simp only [cellOf,hc]
   simp only [beq_self_eq_true,if_true,hcl,hc,pure_bind,cD,Option.getD_some]
   simpa using ih' _
  ·have hb:(k==NameKind.free)=false:=by simpa using hk
   simp only [hb,Bool.false_eq_true,if_false,pure_bind,cD]
   simpa using ih' _
theorem fq {cells:List (Str×Addr)} {y:Str} {c:Addr}:∀ {names:List (Str×NameKind)} {acc:List (Str×Addr)},(∀ x∈names,x.2=.free→∃ c,cells.lookup x.1=some c)→(acc.lookup y=some c→cells.lookup y=some c) →
  (cD cells names acc).lookup y=some c→cells.lookup y=some c
 | [],_,_,ha,e=>ha e
 | (n,k)::r,acc,h,ha,e=>by
  unfold cD at e;refine fq (names:=r) (fun x hx=>h x (List.mem_cons_of_mem _ hx)) (fun e'=>?_) e;by_cases hk:k=.free
  ·obtain ⟨d,hd⟩:=h (n,k) List.mem_cons_self hk;subst hk;simp only [beq_self_eq_true,if_true,hd,Option.getD_some,List.lookup_cons] at e'
   cases q:y==n with
   | true =>
    rw [q] at e';have:y=n:=by simpa using q
    subst this;exact hd.trans e'
   | false=>rw [q] at e'; exact ha e'
  ·have hb:(k==NameKind.free)=false:=by simpa using hk
   simp only [hb,Bool.false_eq_true,if_false] at e';exact ha e'
theorem i4 {cells:List (Str×Addr)} {y:Str}:∀ {names:List (Str×NameKind)} {acc:List (Str×Addr)},((y,NameKind.free)∈names∨∃ c,acc.lookup y=some c)→∃ c,(cD cells names acc).lookup y=some c
 | [],_,h=>by simpa [cD] using h
 | (n,k)::r,acc,h=>by
  unfold cD;refine i4 (names:=r) ?_;rcases h with h | ⟨c,h⟩
  ·rcases List.mem_cons.mp h with e | e
   ·cases e;right
    simp
   ·exact .inl e
  ·right
   by_cases hk:(k==NameKind.free)=true
   ·rw [if_pos hk,List.lookup_cons]
    cases y==n
    ·exact ⟨c,h⟩
    ·exact ⟨_,rfl⟩
   ·rw [if_neg hk];exact ⟨c,h⟩
def PTs (X:Cx) (ifs:List Expr) (t:TT):Prop :=
 ∀ (pins:List (Addr×Obj)) (s:Shared) (σ:St) (H:Hp) (Q:Bool→Hp→Prop),Inv X pins σ H s→t σ H Q →
  wpAny (model X.prog X.w) X.A (forIn ifs true fun c r=>if r=true then do let ok ← isTrue c X.env (eval c X.env); pure (ForInStep.yield ok) else pure (ForInStep.yield r)) (TP X pins σ Q) X.xe s
def jZ:TT:=fun _ H Q=>Q true H
theorem dZ {X:Cx}:PTs X [] jZ:=fun _ _ _ H _ I h=>wpAny_tests_nil ⟨H,I,h⟩
theorem A2 {X:Cx} {c:Expr} {t:TT} (h:PT X c t):PTs X [c] t:=fun pins s σ H Q I hw=>wpAny_tests_one (h pins s σ H Q I hw)
noncomputable def Cx.block (X:Cx) (scope:Scope) (N:List Str) (s:Shared) (H:Hp) (fp:List Addr):Cx where
 prog:=X.prog
 w:=X.w
 K:=X.K
 mg:=X.mg
 base:=X.base
 A:=X.A
 N:=N
 s₀:=s
 H₀:=H
 env:=compEnvC scope (cD X.env.cells scope.names []) s.heap.objs.size X.env
 outer:=X.stack
 stack:=X.stack
 ex:=fp
 fn:=fun _=>false
 calm:=X.calm
 pn:=[]
 xe:=fun _ _=>False
noncomputable def xD:Option NameKind→Bool
 | some .cell=>true
 | some .free=>true
 | _=>false
theorem mn {k:Option NameKind} (h:xD k=true):k=some .cell∨k=some .free:=by
 unfold xD at h
 split at h
 ·exact .inl rfl
 ·exact .inr rfl
 ·cases h
structure eV (X:Cx) (scope:Scope) (N:List Str) (cap:List (Option Nat)):Prop where
 kind:scope.kind=.function
 nocell:(scope.names.all fun y=>!(y.2==.cell))=true
 loc:(scope.names.all fun y=>!(y.2==.local)||(scope.names.lookup y.1==some .local))=true
 fre:(scope.names.all fun y=>!(y.2==.free)||xD (X.env.kindOf y.1))=true
 len:cap.length=N.length
 cap:((cap.zip N).all fun p=>match p.1 with | none=>true | some j=>(X.N[j]?==some p.2)&&xD (X.env.kindOf p.2)&&xD ((relabel scope X.env).names.lookup p.2))=true
noncomputable def gk (cap:List (Option Nat)) (σ:St):St:=cap.map fun o=>match o with | none=>none | some j=>(σ[j]?).join
section
variable {X:Cx} {pins:List (Addr×Obj)} {σ:St} {H:Hp} {s:Shared} {fp:List Addr} {scope:Scope} {N:List Str} {cap:List (Option Nat)}
theorem eV.freeH (c:eV X scope N cap) (ok:X.Ok):∀ x∈scope.names,x.2=.free→∃ a,X.env.cells.lookup x.1=some a:=fun x hx hf=>by
 have:=List.all_eq_true.mp c.fre x hx
 rw [hf] at this;simp only [beq_self_eq_true,Bool.not_true,Bool.false_or] at this;exact ok.has x.1 (mn this)
theorem jQ {scope:Scope} {env:Env} {y:Str} (h:(relabel scope env).names.lookup y=some .cell∨(relabel scope env).names.lookup y=some .free) (nc:∀ z∈scope.names,z.2≠.cell):(y,NameKind.free)∈scope.names:=by
 unfold relabel at h;dsimp only at h;generalize scope.names=names at h nc
 induction names with
 | nil=>simp at h
 | cons z r ih =>
  obtain ⟨n,k⟩:=z;have nc':∀ z∈r,z.2≠.cell:=fun z hz=>nc z (List.mem_cons_of_mem _ hz);rw [List.map_cons,List.lookup_cons] at h;have nck:=nc (n,k) List.mem_cons_self;dsimp only at h nck;by_cases hc:(k==NameKind.free&&env.scope.kind==.function&&env.kindOf n==some .cell)=true
  ·rw [if_pos hc] at h;dsimp only at h
   have hk:k=.free:=by
    simp only [Bool.and_eq_true,beq_iff_eq] at hc;exact hc.1.1
   cases q:y==n with
   | true=>rw [show y=n from by simpa using q,hk]; exact List.mem_cons_self
   | false=>rw [q] at h; exact List.mem_cons_of_mem _ (ih h nc')
  ·rw [if_neg hc] at h;dsimp only at h
   cases q:y==n with
   | true =>
    rw [q] at h;rcases h with h | h
    ·cases h; exact absurd rfl nck
    ·cases h; rw [show y=n from by simpa using q]; exact List.mem_cons_self
   | false=>rw [q] at h; exact List.mem_cons_of_mem _ (ih h nc')
theorem eV.nc (c:eV X scope N cap):∀ z∈scope.names,z.2≠.cell:=fun z hz e=>by
 have:=List.all_eq_true.mp c.nocell z hz
 rw [e] at this;exact absurd this (by decide)
theorem eV.lc (c:eV X scope N cap):∀ x∈scope.names,x.2=.local→scope.names.lookup x.1=some .local:=fun x hx e=>by
 have:=List.all_eq_true.mp c.loc x hx
 rw [e] at this
 simpa using this
theorem wK (c:eV X scope N cap) (I:Inv X pins σ H s) (hf:∀ b∈fp,iI X pins H b) (hlt:∀ b∈fp,b<s.heap.objs.size):(X.block scope N s H fp).Ok:=by
 have lk:∀ {y:Str} {a:Addr},(cD X.env.cells scope.names []).lookup y=some a→X.env.cells.lookup y=some a:=fun e=>fq (c.freeH I.ok) (fun z=>by simp at z) e;refine ⟨I.ok.mod,c.kind,I.ok.glob,I.ok.blt,Nat.le_refl _,fun x y a h1 h2=>I.ok.inj x y a (lk h1) (lk h2),fun x hx=>i4 (.inl (jQ hx c.nc)),fun x a h=>absurd h (by simp [Cx.block]),I.ok.hd,I.ok.frames,.inl rfl,fun b hb=>⟨?_,fun x a h=>(hf b hb).2.2.2.2.1 x a (lk h)⟩,I.bs,Nat.le_trans I.ok.bsz I.sz,fun b o e hb=>?_,fun b hb z=>?_,I.stack,I.stkFree⟩
 ·exact Nat.ne_of_lt (hlt b hb)
 ·rcases (hf b hb).2.2.2.1 with z | z
  ·exact I.ok.noex b o e z
  ·exact absurd (Nat.lt_of_lt_of_le (Heap.lt_size (I.ok.bs b o e).1) z) (Nat.lt_irrefl _)
 ·rcases List.mem_cons.mp (I.stkSub b z) with e | e
  ·exact (hf b hb).2.1 e
  ·exact (hf b hb).2.2.1 e
theorem wQ {i:Nat} {v:V} (h:(gk cap σ)[i]?=some (some v)):∃ j,cap[i]?=some (some j)∧σ[j]?=some (some v):=by
 unfold gk at h;rw [List.getElem?_map] at h
 cases q:cap[i]? with
 | none=>rw [q] at h; cases h
 | some o =>
  rw [q] at h
  cases o with
  | none => cases h
  | some j =>
   refine ⟨j,rfl,?_⟩;have h':(σ[j]?).join=some v:=Option.some.inj h
   cases q2:σ[j]? with
   | none=>rw [q2] at h'; cases h'
   | some o =>
    rw [q2] at h';have:o=some v:=h'
    rw [this]
theorem vi (c:eV X scope N cap) (I:Inv X pins σ H s) (hf:∀ b∈fp,iI X pins H b) (hlt:∀ b∈fp,b<s.heap.objs.size) {h1:Heap} {t1:Nat} (hns:h1.Ns s.heap.objs.size (fun x=>([]:List (Str×Value)).reverse.lookup x))
  (hsb:Heap.SameBut s.heap.objs.size (s.heap.push { cls:=.type (if (some X.env:Option Env).isSome then "dict" else "frame"),data:=.dict #[] }) h1):Inv (X.block scope N s H fp) [] (gk cap σ) H { s with heap:=h1,toks:=t1 }:=by
 have lk:∀ {y:Str} {a:Addr},(cD X.env.cells scope.names []).lookup y=some a→X.env.cells.lookup y=some a:=fun e=>fq (c.freeH I.ok) (fun z=>by simp at z) e;have keep:∀ b o,s.heap.get? b=some o→h1.get? b=some o:=fun b o e=>(hsb.2 b (Nat.ne_of_lt (Heap.lt_size e))).trans (Heap.get?_push_of_some _ e);have cellK:∀ {a:Addr} {v:Option Value},s.heap.IsCell a v→h1.IsCell a v:=fun ⟨o,e,d⟩=>⟨o,keep _ _ e,d⟩
 refine ⟨wK c I hf hlt,rfl,I.bare,Un.kept keep,⟨_,hns,fun i x v h1 h2 h3=>?_⟩,fun x a e=>?_,I.hok.fresh (Nat.le_refl _),fun x a e=>I.freeC x a (lk e),fun p hp=>absurd (show p∈([]:List (Addr×Obj)) from hp) (by simp),I.hok.kept keep,?_⟩
 ·obtain ⟨j,hc,hs⟩:=wQ h2;have hN:N[i]?=some x:=h1;have hz:(cap.zip N)[i]?=some (some j,x):=by rw [List.getElem?_zip_eq_some]; exact ⟨hc,hN⟩
  have:=List.all_eq_true.mp c.cap _ (List.mem_of_getElem? hz)
  simp only [Bool.and_eq_true,beq_iff_eq] at this;obtain ⟨⟨e1,e2⟩,e3⟩:=this;obtain ⟨m,hn,hl⟩:=I.loc;have hk:=mn e2;obtain ⟨u,r,l⟩:=hl j x v e1 hs (by rcases hk with z | z; exact .inr (.inl z); exact .inr (.inr z));refine ⟨u,r,?_⟩;rcases l with ⟨l,_⟩ | ⟨_,a,ea,ca⟩
  ·rw [l] at hk; rcases hk with z | z<;>cases z
  ·have hk':=mn e3;obtain ⟨a',ha'⟩:=i4 (cells:=X.env.cells) (acc:=[]) (.inl (jQ hk' c.nc));have:a'=a:=Option.some.inj ((lk ha').symm.trans ea)
   subst this;exact .inr ⟨hk',a',ha',cellK ca⟩
 ·obtain ⟨v,hv⟩:=I.cell x a (lk e);exact ⟨v,cellK hv⟩
 ·unfold gk;rw [List.length_map];exact c.len
end
theorem qI {prog:Program} {w:World} {A:Around} {R:Result→Shared→Prop} {s:Shared} {elt target iter:Expr} {ifs:List Expr} {scope:Scope} {pos:Pos} {it acc:Value} {env:Env} (J:Nat→Shared→Prop)
    (turn:∀ n s,J n s→wpAny (model prog w) A (pyNext it) (fun r s₁=>match r with
      | none=>R (.ok .next) s₁
      | some v=>wpAny (model prog w) A (letOwnedTupleGo target it v) (fun _ s₀=>wpAny (model prog w) A (assign target env v) (fun _ s₂ =>
          wpAny (model prog w) A (forIn ifs true fun c r=>if r=true then do let ok ← isTrue c env (eval c env); pure (ForInStep.yield ok) else pure (ForInStep.yield r)) (fun ok s₃ =>
            if ok=true then wpAny (model prog w) A (eval elt env) (fun x s₄ =>
              wpAny (model prog w) A (call (.builtin "list.append") [acc,x]) (fun _ s₅=>∃ m,m<n∧J m s₅) (fun _ _=>False) s₄) (fun _ _=>False) s₃
            else ∃ m,m<n∧J m s₃) (fun _ _=>False) s₂) (fun _ _=>False) s₀) (fun _ _=>False) s₁) (fun _ _=>False) s)
    (n:Nat) (h:J n s) :
    codeAny (model prog w) A (.compLoop (.ListComp elt [⟨target,iter,ifs,0⟩] scope pos) 0 it acc env) R s:=by
  refine codeAny_loop rfl J (fun n s hI=>?_) n h
  show wpAny _ A ((compTurn (.ListComp elt [⟨target,iter,ifs,0⟩] scope pos) 0 it acc env).onRaise (fun x=>do noteFrame x env; theTreesLotGoes x)) _ _ s
  refine wpAny_noted ?_;rw [compTurn_list];refine wpAny_bind (wpAny_standAt (wpAny_bind (wpAny_mono (turn n s hI) (fun r s₁ h₁=>?_) fun _ _ h'=>h'.elim)))
  cases r with
  | none => exact wpAny_pure h₁
  | some v =>
    refine wpAny_bind (wpAny_mono h₁ (fun _ s₀ h₀=>?_) fun _ _ h'=>h'.elim);refine wpAny_bind (wpAny_mono h₀ (fun _ s₂ h₂=>wpAny_bind (wpAny_mono h₂ (fun ok s₃ h₃=>?_) fun _ _ h'=>h'.elim)) fun _ _ h'=>h'.elim)
    cases ok with
    | false=>exact wpAny_pure ⟨rfl,h₃⟩
    | true =>
      exact wpAny_bind (wpAny_bind (wpAny_mono h₃ (fun x s₄ h₄=>wpAny_bind (wpAny_mono h₄ (fun _ s₅ h₅=>wpAny_pure (wpAny_pure ⟨rfl,h₅⟩)) fun _ _ h'=>h'.elim)) fun _ _ h'=>h'.elim))
def u3 (wi:TI) (g:TG) (tt:TT) (te:TE) (cap:List (Option Nat)):TE:=fun σ H Q=>wi σ H fun J H1=>∀ l,H1 l=none →
 ∃ (n:Nat) (Pv:Nat→List V→St→Hp→Prop),Pv 0 [] (gk cap σ) (upd H1 l (.lst [])) ∧
  (∀ i ys σ' H',i<n→Pv i ys σ' H'→J.go i H'∧∀ x H2,J.yld i H' x H2→g x σ' H2 fun σ3 H3=>tt σ3 H3 fun b H4 =>
   if b=true then te σ3 H4 fun y H5=>H5 l=some (.lst ys)∧ys.length<sizeLine∧Pv (i+1) (ys++[y]) σ3 (upd H5 l (.lst (ys++[y]))) else Pv (i+1) ys σ3 H4) ∧
  ∀ ys σ' H',Pv n ys σ' H'→J.stop n H'∧Q (.ref l) H'
section
variable {X:Cx} {elt tg iter:Expr} {ifs:List Expr} {scope:Scope} {pos:Pos} {N:List Str} {cap:List (Option Nat)} {wi:TI} {g:TG} {tt:TT} {te:TE}
theorem qK {U:Value→Addr→Shared→Prop} (hc:X.calm=true) (c:eV X scope N cap) (hi:PI X tg iter wi) (hg:∀ s H fp,PG (X.block scope N s H fp) tg g) (ht:∀ s H fp,PTs (X.block scope N s H fp) ifs tt)
    (he:∀ s H fp,PE (X.block scope N s H fp) elt te)
    {pins:List (Addr×Obj)} {s:Shared} {σ:St} {H:Hp} {Q:VK} (I:Inv X pins σ H s) (h:u3 wi g tt te cap σ H Q)
    (hU:∀ (l C:Addr) (H':Hp) (s':Shared),Inv X pins σ H' s'→(∃ m,s'.heap.Ns C m)→iI X pins H' C→Q (.ref l) H'→U (.ref l) C s')
    {RR:Value→Addr→Result→Shared→Prop} (hRR:∀ a C s',U a C s'→RR a C (.ok .next) s') :
    wpAny (model X.prog X.w) X.A (eval iter X.env) (fun x s₁=>wpAny (model X.prog X.w) X.A (pyIter x) (fun it s₂=>wpAny (model X.prog X.w) X.A (newList []) (fun acc s₃ =>
      wpAny (model X.prog X.w) X.A (newFunctionEnv scope X.env.globals (cD X.env.cells scope.names []) [] X.env.qual none .none (some X.env)) (fun cenv s₄ =>
        codeAny (model X.prog X.w) X.A (.compStart (.ListComp elt [⟨tg,iter,ifs,0⟩] scope pos) 0 it acc { cenv with scope:=relabel scope X.env }) (RR acc cenv.locals) s₄) X.xe s₃) X.xe s₂) X.xe s₁) X.xe s:=by
  refine thn (hi pins s σ H _ I h) fun v s1 h1=>thn h1 fun itv s2 h2=>?_;obtain ⟨it,fp,tn,J,H2,e,I2,T,st2,f2,hq⟩:=h2;subst e;have hl:H2 s2.heap.objs.size=none:=I2.hok.fresh (Nat.le_refl _);obtain ⟨n,Pv,p0,step,fin⟩:=hq _ hl;refine wpAny_newObj_type ?_ (by show 0≤sizeLine; exact Nat.zero_le _)
  have I3:Inv X pins σ (upd H2 s2.heap.objs.size (.lst [])) { s2 with heap:=s2.heap.push { cls:=.type "list",data:=.seq ([]:List Value).toArray } } :=
    I2.laid (t':=s2.toks) (fun b u e=>Heap.get?_push_of_some _ e) (Nat.le_refl _) ⟨Nat.zero_le _,[],_,.nil,Heap.get?_push_size _ rfl⟩
  generalize hs3:({ s2 with heap:=s2.heap.push { cls:=.type "list",data:=.seq ([]:List Value).toArray } }:Shared)=s3 at I3 ⊢;have k23:∀ b o,s2.heap.get? b=some o→s3.heap.get? b=some o:=fun b o e=>by rw [← hs3]; exact Heap.get?_push_of_some _ e
  have fplt2:∀ b∈fp,b<s2.heap.objs.size:=fun b hb=>let ⟨o,e,_⟩:=T.obj _ _ st2 b hb; Heap.lt_size e;have sz23:s2.heap.objs.size≤s3.heap.objs.size:=by rw [← hs3]; show _≤(s2.heap.push _).objs.size; rw [Heap.size_push]; exact Nat.le_succ _
  have fplt:∀ b∈fp,b<s3.heap.objs.size:=fun b hb=>Nat.lt_of_lt_of_le (fplt2 b hb) sz23;have f3:∀ b∈fp,iI X pins (upd H2 s2.heap.objs.size (.lst [])) b:=fun b hb=>⟨by rw [aw (Nat.ne_of_lt (fplt2 b hb))]; exact (f2 b hb).1,(f2 b hb).2⟩
  have st3:tn 0 s3.heap:=T.keep _ _ _ st2 fun b hb o e=>k23 b o e;refine wpAny_newFunctionEnv c.nc (by intro y hy; simp at hy) (fun h4 hns hsb=>?_) c.kind;have I4:=vi (t1:=s3.toks+([]:List (Str×Value)).length) c I3 f3 fplt hns hsb;have st4:tn 0 h4:=T.keep _ _ _ st3 fun b hb o e=>(hsb.2 b (Nat.ne_of_lt (fplt b hb))).trans (Heap.get?_push_of_some _ e);generalize hY:X.block scope N s3 (upd H2 s2.heap.objs.size (.lst [])) fp=Y at I4;have yP:Y.prog=X.prog:=by rw [← hY]; rfl
  have yw:Y.w=X.w:=by rw [← hY]; rfl
  have yK:Y.K=X.K:=by rw [← hY]; rfl
  have yA:Y.A=X.A:=by rw [← hY]; rfl
  have yx:Y.xe=fun _ _=>False:=by rw [← hY]; rfl
  have yc:Y.calm=true:=by rw [← hY]; exact hc
  have yex:Y.ex=fp:=by rw [← hY]; rfl
  have yfs:Y.fs=frs X.stack:=by rw [← hY]; rfl
  have yH:Y.H₀=upd H2 s2.heap.objs.size (.lst []):=by rw [← hY]; rfl
  have ys:Y.s₀=s3:=by rw [← hY]; rfl
  have yC:Y.env.locals=s3.heap.objs.size:=by rw [← hY]; rfl
  have yenv:compEnvC scope (cD X.env.cells scope.names []) s3.heap.objs.size X.env=Y.env:=by rw [← hY]; rfl
  have yg:=hg s3 (upd H2 s2.heap.objs.size (.lst [])) fp;have yt:=ht s3 (upd H2 s2.heap.objs.size (.lst [])) fp;have ye:=he s3 (upd H2 s2.heap.objs.size (.lst [])) fp;have ypn:Y.pn=[]:=by rw [← hY]; rfl
  have ycl:Y.env.cells=cD X.env.cells scope.names []:=by rw [← hY]; rfl
  rw [hY] at yg yt ye;have lk:∀ {y:Str} {a:Addr},Y.env.cells.lookup y=some a→X.env.cells.lookup y=some a:=fun e=>by rw [ycl] at e; exact fq (c.freeH I.ok) (fun z=>by simp at z) e
  have stat:∀ {H':Hp},(∀ b∈fp,H' b=none)→∀ b∈fp,iI Y [] H' b:=fun hn b hb=>by
    refine ⟨hn b hb,by rw [yC]; exact Nat.ne_of_lt (fplt b hb),?_,.inl (by rw [yex]; exact hb),fun x a e=>(f2 b hb).2.2.2.2.1 x a (lk e),fun p hp=>?_⟩
    · rw [yfs]
      intro z;rcases List.mem_cons.mp (I2.stkSub b z) with e | e
      · exact (f2 b hb).2.1 e
      · exact (f2 b hb).2.2.1 e
    · rw [ypn] at hp
      exact absurd hp (by simp)
  -- the end
  have done:∀ {σ':St} {H':Hp} {s':Shared},Inv Y [] σ' H' s'→Q (.ref s2.heap.objs.size) H'→U (.ref s2.heap.objs.size) s3.heap.objs.size s':=fun {σ' H' s'} J' q=>by
    have un:=J'.base;rw [yfs,yex,yH,ys] at un;have J3:=I3.call' (s':=s') (ch:=fp) (by rw [J'.os,ys]) un (by have:=J'.hok; rw [yP,yw] at this; exact this) J'.bare fun b hb=>⟨(f3 b hb).2.2.2.1,(f3 b hb).2.1,(f3 b hb).2.2.2.2.1,(f3 b hb).2.2.2.2.2⟩
    have hCn:H' s3.heap.objs.size=none:=by have:=J'.free; rw [yC] at this; exact this
    have hne:s3.heap.objs.size≠X.env.locals:=Nat.ne_of_gt I3.lt;have hcl:∀ x a,X.env.cells.lookup x=some a→a≠s3.heap.objs.size:=fun x a e=>let ⟨_,o,ho,_⟩:=I3.cell x a e; Nat.ne_of_lt (Heap.lt_size ho);have hpn:∀ p∈X.pn++pins,p.1≠s3.heap.objs.size:=fun p hp=>Nat.ne_of_lt (Heap.lt_size (I3.pin p hp).1);obtain ⟨m,hn,_⟩:=J'.loc;rw [yC] at hn;exact hU _ _ H' s' J3 ⟨m,hn⟩ ⟨hCn,hne,I3.nofs (Nat.le_refl _),.inr I3.sz,hcl,hpn⟩ q
  have loop:∀ s5:Shared,s5={ s3 with heap:=h4,toks:=s3.toks+([]:List (Str×Value)).length } →
      codeAny (model X.prog X.w) X.A (.compLoop (.ListComp elt [⟨tg,iter,ifs,0⟩] scope pos) 0 (.ref it) (.ref s2.heap.objs.size) Y.env) (RR (.ref s2.heap.objs.size) s3.heap.objs.size) s5:=by
    rintro s5 rfl;refine qI (fun k s'=>∃ i ys σ' H',Inv Y [] σ' H' s'∧tn i s'.heap∧(∀ b∈fp,H' b=none)∧i≤n∧k=n - i∧Pv i ys σ' H') ?_ n ⟨0,[],_,_,I4,st4,fun b hb=>(f3 b hb).1,Nat.zero_le _,rfl,p0⟩;rintro k s6 ⟨i,zs,σ6,H6,I6,st6,fr6,hin,rfl,pv6⟩;by_cases hlt:i<n
    · obtain ⟨go,stp⟩:=step i zs σ6 H6 hlt pv6
      have q:=T.item Y yP yw yK yc i [] s6 σ6 H6 (fun _ _=>False) I6 (stat fr6) st6 go;rw [yA] at q;refine thn q fun r s7 ⟨u,hr,h7⟩=>?_;subst hr;refine thn h7 fun _ s8 ⟨x,H8,I8,r8,y8,st8,fr8⟩=>?_;have I8':=I8.pinned (stat fr8) (T.obj _ _ st8);have q:=yg _ s8 σ6 H8 x u _ I8' r8 (stp x H8 y8);rw [yP,yw,yA,yx] at q;refine thn q fun _ s9 ⟨σ9,H9,I9,q9⟩=>?_;have q:=yt _ s9 σ9 H9 _ I9 q9;rw [yP,yw,yA,yx] at q;refine thn q fun b s10 ⟨H10,I10,q10⟩=>?_;have again:∀ {ws:List V} {σ':St} {H':Hp} {s':Shared},Inv Y ([]++mL fp s8.heap) σ' H' s'→Pv (i+1) ws σ' H'→∃ m,m<n - i∧∃ i ys σ' H',Inv Y [] σ' H' s'∧tn i s'.heap∧(∀ b∈fp,H' b=none)∧i≤n∧m=n - i∧Pv i ys σ' H':=fun {ws σ' H' s'} J' p'=>by
        refine ⟨n - (i+1),by omega,i+1,ws,σ',H',J'.unpinned,T.keep _ _ _ st8 fun b hb o e=>(J'.pin (b,o) (List.mem_append_right _ (List.mem_append_right _ (gv hb e)))).1,fun b hb=>?_,hlt,rfl,p'⟩;obtain ⟨o,e,d⟩:=T.obj _ _ st8 b hb;exact (J'.pin (b,o) (List.mem_append_right _ (List.mem_append_right _ (gv hb e)))).2.1
      cases b with
      | false=>exact again I10 q10
      | true =>
        have q10:=(if_pos (α:=Prop) rfl).mp q10;have q:=ye _ s10 σ9 H10 _ I10 q10;rw [yP,yw,yA,yx] at q;refine mw ?_;refine thn q fun xv s11 ⟨y,H11,I11,r11,hl11,hz,p11⟩=>?_;have q:=cf (X:=Y) _ s11 σ9 H11 (.ref s2.heap.objs.size) [y] _ [xv] (fun _ H'=>Pv (i+1) (zs++[y]) σ9 H') I11 rfl (.cons r11 .nil) ⟨_,_,_,rfl,rfl,hl11,hz,p11⟩;rw [yP,yw,yA,yx] at q;exact thn q fun _ s12 ⟨_,H12,I12,_,p12⟩=>again I12 p12
    · have e:i=n:=by omega
      subst e;obtain ⟨stop,q⟩:=fin zs σ6 H6 pv6;have qd:=T.done Y yP yw yK yc i [] s6 σ6 H6 (fun _ _=>False) I6 (stat fr6) st6 stop;rw [yA] at qd;refine thn qd fun r s7 ⟨hr,I7⟩=>?_;subst hr;exact hRR _ _ _ (done I7 q)
  show codeAny _ _ (.compStart _ 0 (.ref it) _ (compEnvC scope (cD X.env.cells scope.names []) s3.heap.objs.size X.env)) (RR (.ref s2.heap.objs.size) s3.heap.objs.size) _
  rw [yenv];exact codeAny_compStart_list (loop _ rfl) (T.self X.A 0 _ _ _ st4 (loop _ rfl))
theorem iI.turned {pins:List (Addr×Obj)} {σ:St} {H:Hp} {s:Shared} {C:Addr} {h':Heap} (f:iI X pins H C) (I:Inv X pins σ H s) (sb:Heap.SameBut C s.heap h'):Inv X pins σ H { s with heap:=h' } :=
 I.turned (t':=s.toks) (fun b o hb e=>(sb.2 b hb).trans e) f.1 f.2.1 f.2.2.2.1 f.2.2.2.2.1 f.2.2.2.2.2
theorem eQ (hc:X.calm=true) (c:eV X scope N cap) (hi:PI X tg iter wi) (hg:∀ s H fp,PG (X.block scope N s H fp) tg g) (ht:∀ s H fp,PTs (X.block scope N s H fp) ifs tt)
  (he:∀ s H fp,PE (X.block scope N s H fp) elt te) (hs:∀ x,foldedSetIterable iter X.env x=pure x:=by intro _; rfl):PE X (.ListComp elt [⟨tg,iter,ifs,0⟩] scope pos) (u3 wi g tt te cap):=by
 intro pins s σ H Q I h;rw [eval_ListComp];refine wpAny_comprehension_free rfl hs (iO (c.freeH I.ok)) c.kind c.lc ?_;exact qK (U:=fun a C s'=>∃ m,s'.heap.Ns C m∧∀ h',Heap.SameBut C s'.heap h'→EP X pins σ Q a { s' with heap:=h' }) hc c hi hg ht he I h
  (fun l C H' s' I' ⟨m,hn⟩ f q=>⟨m,hn,fun h' sb=>⟨.ref l,H',f.turned I' sb,rfl,q⟩⟩) fun a C s' u=>u
theorem uS {i:Nat} {x:Str} {pos' pos2:Pos} (hN:X.N.Nodup) (hi':X.N[i]?=some x) (hx:Loc X.env.scope x) (hc:X.calm=true) (c:eV X scope N cap) (hi:PI X tg iter wi) (hg:∀ s H fp,PG (X.block scope N s H fp) tg g) (ht:∀ s H fp,PTs (X.block scope N s H fp) ifs tt)
  (he:∀ s H fp,PE (X.block scope N s H fp) elt te) (hsw:swapsWith (.ListComp elt [⟨tg,iter,ifs,0⟩] scope pos) (some (.Name x pos')) pos2.line X.env=pure true) (hs:∀ x,foldedSetIterable iter X.env x=pure x:=by intro _; rfl)
  (hf:X.fn x=true∨X.env.scope.names.lookup x=some .local:=by first | exact .inl rfl | exact .inr rfl | assumption):PS X (.Assign [.Name x pos'] (.ListComp elt [⟨tg,iter,ifs,0⟩] scope pos) pos2) (wu (u3 wi g tt te cap) (d7 i)):=by
 intro pins s σ H D I h;rw [exec_Assign_Name_used _ _ _ _ hsw];refine wpAny_bind (wpAny_standAt (wpAny_bind ?_))
 show wpAny _ X.A (do let _ ← comprehension (.ListComp elt [⟨tg,iter,ifs,0⟩] scope pos) scope X.env _ (newList []) false (eval iter X.env) (some (assign (.Name x pos') X.env))) _ _ s
 refine wpAny_bind (wpAny_mono (wpAny_comprehension_free (Q:=fun _ s'=>SP X pins D .next s') rfl hs (iO (c.freeH I.ok)) c.kind c.lc ?_) (fun _ s' hq=>wpAny_pure (wpAny_pure hq)) fun _ _ e=>e);refine qK (U:=fun a C s'=>wpAny (model X.prog X.w) X.A (assign (.Name x pos') X.env a) (fun _ s''=>∃ m,s''.heap.Ns C m∧∀ h',Heap.SameBut C s''.heap h'→SP X pins D .next { s'' with heap:=h' }) X.xe s') hc c hi hg ht he I h ?_ fun a C s' u=>u;intro l C H' s' I' hn f q;obtain ⟨m,o,es,ep,ho,hd,r⟩:=hn;have I2:Inv X (pins++[(C,o)]) σ H' s':=I'.pins_of fun p hp=>by
  rcases List.mem_append.mp hp with z | z
  ·exact I'.pin p (List.mem_append_right _ z)
  ·have e:p=(C,o):=by simpa using z
   subst e;exact ⟨ho,f.1,f.2.1,f.2.2.1,fun v z=>by rw [hd] at z; cases z⟩
 refine wpAny_assign_Name (eA I2 hN hi' hx (v:=.ref l) rfl (fun s2 I3=>?_) hf);have pc:=(I3.pin (C,o) (List.mem_append_right _ (List.mem_append_right _ List.mem_cons_self))).1;exact ⟨m,⟨o,es,ep,pc,hd,r⟩,fun h' sb=>⟨_,H',f.turned I3.unpinned sb,q⟩⟩
end
section
variable {X:Cx}
theorem qG:cb X (.builtin "isinstance") (fun xs H Q=>∃ x n t b,xs=[x,.ty n]∧iM X.K H x t∧W.kitOne X.K t (.type n)=some b∧Q (.bl b) H):=by
 intro pins s σ H xs us Q I r h;obtain ⟨x,n,t,b,rfl,ty,e,q⟩:=h;obtain ⟨u,v,rfl,ru,rv⟩:=r.two
 cases (show v=Value.type n from rv)
 exact vD I ru ty e fun tk=>⟨.bl b,H,I.tok tk,rfl,q⟩
theorem xA {A:Around} (h:A.handled=none):A.in1.handled=none:=h
theorem wC {its:List Value} {bs:List Bool} (r:a9 (bs.map V.bl) its) {i:Nat} {v:Value} (e:its[i]?=some v):v=.bool (bs.getD i false):=by
 have hl:=r.length;rw [List.length_map] at hl;have hi:i<its.length:=(List.getElem?_eq_some_iff.mp e).1
 have hb:(bs.map V.bl)[i]?=some (V.bl (bs.getD i false)):=by
  rw [List.getElem?_map,List.getD_eq_getElem?_getD,List.getElem?_eq_getElem (by omega)];rfl
 obtain ⟨u,hu,ru⟩:=r.get hb;rw [e] at hu
 cases hu;exact ru
theorem vU (bs:List Bool):(List.range bs.length).all (fun i=>bs.getD i false)=bs.all id:=by
 rw [Bool.eq_iff_iff];simp only [List.all_eq_true,List.mem_range,id];constructor
 ·intro h b hb;obtain ⟨i,hi,rfl⟩:=List.mem_iff_getElem.mp hb;have:=h i hi
  rwa [List.getD_eq_getElem?_getD,List.getElem?_eq_getElem hi] at this
 ·intro h i hi;rw [List.getD_eq_getElem?_getD,List.getElem?_eq_getElem hi];exact h _ (List.getElem_mem hi)
theorem qF (hc:X.calm=true):cb X (.builtin "all") (fun xs H Q=>∃ (p:Addr) (bs:List Bool),xs=[.ref p]∧SqL X.K H p (bs.map V.bl)∧Q (.bl (bs.all id)) H):=by
 intro pins s σ H xs us Q I r h;obtain ⟨p,bs,rfl,hp,q⟩:=h;obtain ⟨u,rfl,ru⟩:=r.one
 cases (show u=Value.ref p from ru)
 obtain ⟨its,rv,pl,hz⟩:=I.list hp;have hh:=xA (I.ok.hd hc);have hlt:p<s.heap.objs.size:=let ⟨o,ho,_⟩:=pl.isList; Heap.lt_size ho;refine call_all_walk (wpAny_pyIter_list pl.isList ?_);refine ⟨s.heap.objs.size,_,_,_,_,_,fun i=>bs.getD i false,rfl,Walks.list hh s.heap.objs.size p (Nat.ne_of_lt hlt) its.toArray,⟨⟨_,Heap.get?_push_size _ rfl,rfl,rfl⟩,pl.isList.push _⟩,fun i v s' Q' E' hP hQ=>?_,fun h' tk hk=>?_⟩
 ·have:=wC rv (i:=i) (v:=v) (by simpa using hP)
  subst this;exact wpAny_truthy_bool hQ
 ·have hl:=rv.length;rw [List.length_map] at hl;refine ⟨.bl (bs.all id),H,I.kept (h':=h') (t':=tk) fun b o e=>hk b o (by simpa using Nat.ne_of_lt (Heap.lt_size e)) (Heap.get?_push_of_some _ e),?_,q⟩
  show _=_
  rw [List.size_toArray,← hl,vU]
theorem oX {its:List Value} {ns:List Int} (r:a9 (ns.map V.int) its) {i:Nat} {v:Value} (e:its[i]?=some v):∃ t,v=.int (ns.getD i 0) t:=by
 have hl:=r.length;rw [List.length_map] at hl;have hi:i<its.length:=(List.getElem?_eq_some_iff.mp e).1
 have hb:(ns.map V.int)[i]?=some (V.int (ns.getD i 0)):=by
  rw [List.getElem?_map,List.getD_eq_getElem?_getD,List.getElem?_eq_getElem (by omega)];rfl
 obtain ⟨u,hu,ru⟩:=r.get hb;rw [e] at hu
 cases hu;exact ru
theorem g0 (ns:List Int):∀ k,k≤ns.length→preSum (fun i=>ns.getD i 0) k=(ns.take k).sum
 | 0,_=>rfl
 | k+1,h=>by
  have ih:=g0 ns k (by omega);rw [List.take_add_one,List.sum_append,← ih,List.getElem?_eq_getElem (by omega)]
  show preSum _ k+ns.getD k 0=_
  rw [List.getD_eq_getElem?_getD,List.getElem?_eq_getElem (by omega)];simp
def jv (ns:List Int):Prop:=∀ k,k≤ns.length→InLong ((ns.take k).sum)∧∀ n∈ns,InLong n
theorem pA (hc:X.calm=true):cb X (.builtin "sum") (fun xs H Q=>∃ (p:Addr) (ns:List Int),xs=[.ref p]∧(SqL X.K H p (ns.map V.int)∨SqT X.K H p (ns.map V.int))∧jv ns∧Q (.int ns.sum) H):=by
  intro pins s σ H xs us Q I r h;obtain ⟨p,ns,rfl,hp,sm,q⟩:=h;obtain ⟨u,rfl,ru⟩:=r.one
  cases (show u=Value.ref p from ru)
  have hh:=xA (I.ok.hd hc);have fin:∀ {its:List Value} {h':Heap} {tk:Nat} {t':Tok},a9 (ns.map V.int) its→(∀ b o,b∉[s.heap.objs.size]→s.heap.get? b=some o→h'.get? b=some o) →
      EP X pins σ Q (.int (preSum (fun i=>ns.getD i 0) its.length) t') { s with heap:=h',toks:=tk }:=fun {its h' tk t'} rv hk=>by
    have hl:=rv.length;rw [List.length_map] at hl;refine ⟨.int ns.sum,H,I.kept (h':=h') (t':=tk) fun b o e=>hk b o (by simpa using Nat.ne_of_lt (Heap.lt_size e)) e,⟨t',?_⟩,q⟩;rw [← hl,g0 _ _ (Nat.le_refl _),List.take_of_length_le (Nat.le_refl _)]
  have fit:∀ {its:List Value},a9 (ns.map V.int) its→∀ j,j<its.length→InLong (ns.getD j 0)∧InLong (preSum (fun i=>ns.getD i 0) (j+1)):=fun {its} rv j hj=>by
    have hl:=rv.length;rw [List.length_map] at hl;refine ⟨(sm 0 (Nat.zero_le _)).2 _ ?_,?_⟩
    · rw [List.getD_eq_getElem?_getD,List.getElem?_eq_getElem (by omega)]
      exact List.getElem_mem _
    · rw [g0 _ _ (by omega)]
      exact (sm _ (by omega)).1
  rcases hp with hp | hp
  · obtain ⟨its,rv,pl,hz⟩:=I.list hp
    have hlt:p<s.heap.objs.size:=let ⟨o,ho,_⟩:=pl.isList; Heap.lt_size ho;refine call_sum_walk (wpAny_pyIter_list pl.isList ?_);refine ⟨s.heap.objs.size,_,_,_,_,_,fun i=>ns.getD i 0,rfl,Walks.list hh s.heap.objs.size p (Nat.ne_of_lt hlt) its.toArray,⟨⟨_,Heap.get?_push_size _ rfl,rfl,rfl⟩,pl.isList.push _⟩,fun b hb=>?_,fun i v hP=>oX rv (by simpa using hP),fun j hj=>fit rv j (by simpa using hj),fun h' tk t' hk=>fin rv fun b o hb e=>hk b o hb (Heap.get?_push_of_some _ e)⟩;rw [Heap.size_push];rcases List.mem_cons.mp hb with e | e
    · rw [e]; exact Nat.lt_succ_self _
    · have:b=p:=by simpa using e
      rw [this]; exact Nat.lt_succ_of_lt hlt
  · obtain ⟨its,rv,pl,hz⟩:=I.tuple hp
    have hlt:p<s.heap.objs.size:=let ⟨o,ho,_⟩:=pl; Heap.lt_size ho;refine call_sum_walk (wpAny_pyIter_tuple pl ?_);refine ⟨s.heap.objs.size,_,_,_,_,_,fun i=>ns.getD i 0,rfl,Walks.tuple hh s.heap.objs.size p (Nat.ne_of_lt hlt) its.toArray,⟨⟨_,Heap.get?_push_size _ rfl,rfl,rfl⟩,pl.push _⟩,fun b hb=>?_,fun i v hP=>oX rv (by simpa using hP),fun j hj=>fit rv j (by simpa using hj),fun h' tk t' hk=>fin rv fun b o hb e=>hk b o hb (Heap.get?_push_of_some _ e)⟩;rw [Heap.size_push];rcases List.mem_cons.mp hb with e | e
    · rw [e]; exact Nat.lt_succ_self _
    · have:b=p:=by simpa using e
      rw [this]; exact Nat.lt_succ_of_lt hlt
end
mutual
def Rep (H:Hp):PyData→V→Prop
 | .none,v=>v=.non
 | .bool b,v=>v=.bl b
 | .int i,v=>v=.int i
 | .str x,v=>v=.str x
 | .list ds,v=>∃ a xs,v=.ref a∧H a=some (.lst xs)∧RepL H ds xs
 | .tuple ds,v=>∃ a xs,v=.ref a∧H a=some (.tup xs)∧RepL H ds xs
 | .dict _,_=>False
def RepL (H:Hp):List PyData→List V→Prop
 | [],xs=>xs=[]
 | d::ds,xs=>∃ x r,xs=x::r∧Rep H d x∧RepL H ds r
end
mutual
theorem Rep.mono {H H':Hp} (s:ao H H'):∀ {d:PyData} {v:V},Rep H d v→Rep H' d v
 | .none,_,h=>by simpa [Rep] using h
 | .bool _,_,h=>by simpa [Rep] using h
 | .int _,_,h=>by simpa [Rep] using h
 | .str _,_,h=>by simpa [Rep] using h
 | .list ds,_,h=>by
  simp only [Rep] at h ⊢;obtain ⟨a,xs,e,h1,h2⟩:=h;exact ⟨a,xs,e,s _ _ h1,RepL.mono s h2⟩
 | .tuple ds,_,h=>by
  simp only [Rep] at h ⊢;obtain ⟨a,xs,e,h1,h2⟩:=h;exact ⟨a,xs,e,s _ _ h1,RepL.mono s h2⟩
 | .dict _,_,h=>by simp only [Rep] at h
theorem RepL.mono {H H':Hp} (s:ao H H'):∀ {ds:List PyData} {xs:List V},RepL H ds xs→RepL H' ds xs
 | [],_,h=>by simpa [RepL] using h
 | d::ds,_,h=>by
  simp only [RepL] at h ⊢;obtain ⟨x,r,e,h1,h2⟩:=h;exact ⟨x,r,e,Rep.mono s h1,RepL.mono s h2⟩
end
section
variable {X:Cx} {pins:List (Addr×Obj)} {σ:St} {H:Hp} {s:Shared}
mutual
theorem Rep.reads (I:Inv X pins σ H s):∀ {d:PyData} {v:V} {u:Value},Rep H d v→a7 v u→∃ as,Reads s.heap u d as
 | .none,_,_,h,r=>by simp only [Rep] at h; subst h; cases r; exact ⟨_,.none⟩
 | .bool _,_,_,h,r=>by simp only [Rep] at h; subst h; cases r; exact ⟨_,.bool _⟩
 | .int _,_,_,h,r=>by simp only [Rep] at h; subst h; obtain ⟨t,rfl⟩:=r; exact ⟨_,.int _ _⟩
 | .str _,_,_,h,r=>by simp only [Rep] at h; subst h; obtain ⟨t,rfl⟩:=r; exact ⟨_,.str _ _⟩
 | .list ds,_,_,h,r=>by
  simp only [Rep] at h;obtain ⟨a,xs,rfl,h1,h2⟩:=h
  cases (show _=Value.ref a from r)
  obtain ⟨its,rv,pl,_⟩:=I.list (SqL.of h1);obtain ⟨as,ra⟩:=RepL.reads I h2 rv;obtain ⟨o,n,e,c,_,d⟩:=pl;exact ⟨_,.list e c d (by simpa using ra)⟩
 | .tuple ds,_,_,h,r=>by
  simp only [Rep] at h;obtain ⟨a,xs,rfl,h1,h2⟩:=h
  cases (show _=Value.ref a from r)
  obtain ⟨its,rv,pl,_⟩:=I.tuple (SqT.of h1);obtain ⟨as,ra⟩:=RepL.reads I h2 rv;obtain ⟨o,e,c,n,d⟩:=pl;exact ⟨_,.tuple e c d (by simpa using ra)⟩
 | .dict _,_,_,h,_=>by simp only [Rep] at h
theorem RepL.reads (I:Inv X pins σ H s):∀ {ds:List PyData} {xs:List V} {us:List Value},RepL H ds xs→a9 xs us→∃ as,ReadsAll s.heap us ds as
 | [],_,_,h,r=>by simp only [RepL] at h; subst h; cases r; exact ⟨_,.nil⟩
 | d::ds,_,_,h,r=>by
  simp only [RepL] at h;obtain ⟨x,t,rfl,h1,h2⟩:=h
  cases r with
  | cons r1 r2 =>
   obtain ⟨as,a1⟩:=Rep.reads I h1 r1;obtain ⟨bs,a2⟩:=RepL.reads I h2 r2;exact ⟨_,.cons a1 a2⟩
end
end
def yz (neg:Bool):R2:=fun x y H Q=>∃ d e,Rep H d x∧Rep H e y∧SeqAt.shaped d=true∧SeqAt.shaped e=true∧Q (.bl (if neg then !PyData.eqv d e else PyData.eqv d e)) H
section
variable {X:Cx}
theorem pQ (hu:X.A.units+64<cLine):OpR X (compareOp .Eq) (yz false):=by
 intro pins s σ H x y v u Q I rx ry h;obtain ⟨d,e,h1,h2,s1,s2,q⟩:=h;obtain ⟨as,r1⟩:=h1.reads I rx;obtain ⟨bs,r2⟩:=h2.reads I ry;exact eq_dataH r1 r2 s1 s2 hu ⟨.bl _,H,I,rfl,q⟩
theorem x9 (hu:X.A.units+64<cLine):OpR X (compareOp .NotEq) (yz true):=by
 intro pins s σ H x y v u Q I rx ry h;obtain ⟨d,e,h1,h2,s1,s2,q⟩:=h;obtain ⟨as,r1⟩:=h1.reads I rx;obtain ⟨bs,r2⟩:=h2.reads I ry;exact ne_dataH r1 r2 s1 s2 hu ⟨.bl _,H,I,rfl,q⟩
end
noncomputable def tyD:PyData→String
 | .none=>"NoneType"
 | .bool _=>"bool"
 | .int _=>"int"
 | .str _=>"str"
 | .list _=>"list"
 | .tuple _=>"tuple"
 | .dict _=>"dict"
theorem Rep.ty {K:W.Frag} {H:Hp} {d:PyData} {v:V} (h:Rep H d v):iM K H v (.type (tyD d)):=by
 cases d with
 | none=>simp only [Rep] at h; subst h; exact .non
 | bool b=>simp only [Rep] at h; subst h; exact .bl b
 | int b=>simp only [Rep] at h; subst h; exact .int b
 | str b=>simp only [Rep] at h; subst h; exact .str b
 | list ds=>simp only [Rep] at h; obtain ⟨a,xs,rfl,e,_⟩:=h; exact .lst e
 | tuple ds=>simp only [Rep] at h; obtain ⟨a,xs,rfl,e,_⟩:=h; exact .tup e
 | dict _=>simp only [Rep] at h
noncomputable def isD (T:String):PyData→Bool
 | .none=>T=="NoneType"
 | .bool _=>T=="bool"||T=="int"
 | .int _=>T=="int"
 | .str _=>T=="str"
 | .list _=>T=="list"
 | .tuple _=>T=="tuple"
 | .dict _=>T=="dict"
theorem rf {K:W.Frag} (d:PyData):W.kitOne K (.type (tyD d)) (.type "bool")=some (isD "bool" d):=by cases d<;>kernel_rfl
theorem uE {K:W.Frag} (d:PyData):W.kitOne K (.type (tyD d)) (.type "int")=some (isD "int" d):=by cases d<;>kernel_rfl
theorem uF {K:W.Frag} (d:PyData):W.kitOne K (.type (tyD d)) (.type "str")=some (isD "str" d):=by cases d<;>kernel_rfl
theorem mB {K:W.Frag} (d:PyData):W.kitOne K (.type (tyD d)) (.type "list")=some (isD "list" d):=by cases d<;>kernel_rfl
theorem iA {K:W.Frag} (d:PyData):W.kitOne K (.type (tyD d)) (.type "tuple")=some (isD "tuple" d):=by cases d<;>kernel_rfl
theorem Inv.turnedL {X:Cx} {pins:List (Addr×Obj)} {σ:St} {H:Hp} {s:Shared} {h':Heap} {t':Nat} {ch:List Addr} {T:Addr} {o:HO} (I:Inv X pins σ H s) (k:∀ b o,b∉ch→s.heap.get? b=some o→h'.get? b=some o)
  (f:∀ b∈ch,iI X pins H b) (there:∀ b∈ch,∃ o,h'.get? b=some o) (hT:s.heap.objs.size≤T) (new:bq X.prog X.w (upd H T o) h' T o):Inv X pins σ (upd H T o) { s with heap:=h',toks:=t' }:=by
 have nit:∀ b u,H b=some u→b∉ch:=fun b u e z=>by rw [(f b z).1] at e; cases e
 have ltT:∀ b ob,s.heap.get? b=some ob→b≠T:=fun b ob e=>Nat.ne_of_lt (Nat.lt_of_lt_of_le (Heap.lt_size e) hT);have hTn:H T=none:=I.hok.fresh hT;have neT:∀ b u,H b=some u→b≠T:=fun b u e=>aE e hTn;refine I.step (g':=s.gens) (d':=s.drawn) (ch:=ch) (fun b hb=>⟨(f b hb).2.2.2.1,(f b hb).2.1,(f b hb).2.2.2.2.1,(f b hb).2.2.2.2.2⟩) (fun b o _ _ hc e _=>k b o hc e) (fun b o _ _ hc e _=>⟨o.slots,k b o hc e⟩) (fun b o _ e n=>by rw [aw (ltT b o e)]; exact n)
  (fun b o hc e=>⟨o,k b o hc e⟩) (fun b _ e=>by rw [aw (neT b _ e)]; exact e) (fun b _ _ e=>by rw [aw (neT b _ e)]; exact e) (fun b ps e=>⟨#[],by rw [aw (neT b _ e),e]; simp⟩) (fun m hm=>?_) (fun b u e=>?_) I.bare
 ·obtain ⟨ob,es,ep,ho,r⟩:=hm;exact ⟨ob,es,ep,k _ ob (fun z=>(f _ z).2.1 rfl) ho,r⟩
 ·by_cases hb:b=T
  ·subst hb;rw [ai] at e
   cases e;exact new
  ·rw [aw hb] at e;refine (I.hok b u e).stay (fun c v hc q=>k c v ?_ q) (fun q e'=>?_) fun a q e'=>?_
   ·rcases hc with z | z
    ·rw [z]; exact nit b u e
    ·exact nit c _ z
   ·rw [aw (neT _ _ e')]; exact e'
   ·rw [aw (neT _ _ e')]; exact e'
noncomputable def Itz (K:W.Frag) (a b:Addr):It :=
  ⟨fun i H=>∃ xs ys x y,SqL K H a xs∧SqL K H b ys∧xs[i]?=some x∧ys[i]?=some y,
   fun i H v H'=>∃ T,v=.ref T∧H T=none∧∀ xs ys,SqL K H a xs→SqL K H b ys→∃ x y,xs[i]?=some x∧ys[i]?=some y∧H'=upd H T (.tup [x,y]),
   fun i H=>∃ xs ys,SqL K H a xs∧SqL K H b ys∧(xs.length≤i∨ys.length≤i)⟩
theorem Ai {P:Program} {w:World} {K:W.Frag} {elts:List Expr} {kt:Nat} {pt:Pos} {a b n:Addr} (ha:a<n) (hb:b<n) :
    sH P w K (.Tuple elts kt pt) (Itz K a b) [n+4,n+2,n+3,n,n+1] (n+4) (fun i h=>IsZip h (n+4) (n+2) (n+3) .none∧IsPair h (n+2) (.ref n) (.ref (n+1))∧(∃ x y,IsPair h (n+3) x y)∧h.IsListIter n a i∧h.IsListIter (n+1) b i) where
  mem:=by simp
  obj:=fun i h st c hc=>by
    obtain ⟨z1,z2,⟨x,y,z3⟩,⟨o4,e4,c4,d4⟩,⟨o5,e5,c5,d5⟩⟩:=st;simp only [List.mem_cons,List.not_mem_nil,or_false] at hc;rcases hc with rfl | rfl | rfl | rfl | rfl
    · exact ⟨_,z1,fun v z=>by cases z⟩
    · exact ⟨_,z2,fun v z=>by cases z⟩
    · exact ⟨_,z3,fun v z=>by cases z⟩
    · exact ⟨_,e4,fun v z=>by rw [d4] at z; cases z⟩
    · exact ⟨_,e5,fun v z=>by rw [d5] at z; cases z⟩
  keep:=fun i h h' st k=>by
    obtain ⟨z1,z2,⟨x,y,z3⟩,z4,z5⟩:=st;exact ⟨k _ (by simp) _ z1,k _ (by simp) _ z2,⟨x,y,k _ (by simp) _ z3⟩,z4.at fun o e=>k _ (by simp) o e,z5.at fun o e=>k _ (by simp) o e⟩
  item:=by
    intro X hP hw hK hc i pins s σ H E I hf st hg;subst hP hw hK;obtain ⟨xs,ys,x,y,hqa,hqb,hx,hy⟩:=hg;obtain ⟨its,rv,p,hz⟩:=I.list hqa;obtain ⟨jts,rw',p',hz'⟩:=I.list hqb;obtain ⟨u,hu,ru⟩:=rv.get hx;obtain ⟨u',hu',ru'⟩:=rw'.get hy;obtain ⟨z1,z2,⟨x0,y0,z3⟩,z4,z5⟩:=st;have D:ZipApart (n+4) (n+2) (n+3) n (n+1) a b:=PyProof.Rows.zipApart_new ha hb;have ltz:n+4<s.heap.objs.size:=Heap.lt_size z1;refine wpAny_pyNext_zip_item D z1 z2 z3 z4 z5 p.isList p'.isList (x:=u) (y:=u') (by simpa using hu) (by simpa using hu') fun h' a1 a2 a3 a4 a5 a6 hk=>?_;refine ⟨_,rfl,wpAny_letOwnedTupleGo_zip (s:={ s with heap:=h' }) a1 fun h2 b1 hs=>?_⟩;have neT:∀ {c:Addr},c≤n+4→c≠s.heap.objs.size:=fun h=>Nat.ne_of_lt (Nat.lt_of_le_of_lt h ltz);have kk:∀ c o,c∉[n+4,n+3,n,n+1]→s.heap.get? c=some o→h2.get? c=some o:=fun c o hc e=>by
      simp only [List.mem_cons,List.not_mem_nil,or_false,not_or] at hc;exact (hs.2 c hc.1).trans (hk c o hc.1 hc.2.1 hc.2.2.1 hc.2.2.2 e)
    have q2:h2.get? (n+2)=_:=kk _ _ (by simp only [List.mem_cons,List.not_mem_nil,or_false,not_or]; exact ⟨D.TIz,D.TITO,D.TIi1,D.TIi2⟩) z2;have q3:h2.get? (n+3)=_:=(hs.2 _ D.TOz).trans a2;obtain ⟨o4,e4,c4⟩:=a3;obtain ⟨o5,e5,c5⟩:=a4;have q4:h2.get? n=_:=(hs.2 _ D.i1z).trans e4;have q5:h2.get? (n+1)=_:=(hs.2 _ D.i2z).trans e5;have qT:h2.get? s.heap.objs.size=_:=(hs.2 _ (Ne.symm (neT (Nat.le_refl _)))).trans a5;have sub:∀ c∈[n+4,n+3,n,n+1],c∈[n+4,n+2,n+3,n,n+1]:=fun c hc=>by
      simp only [List.mem_cons,List.not_mem_nil,or_false] at hc ⊢;rcases hc with e | e | e | e
      · exact .inl e
      · exact .inr (.inr (.inl e))
      · exact .inr (.inr (.inr (.inl e)))
      · exact .inr (.inr (.inr (.inr e)))
    have I1:Inv X pins σ (upd H s.heap.objs.size (.tup [x,y])) { s with heap:=h2,toks:=s.toks }:=I.turnedL (ch:=[n+4,n+3,n,n+1]) kk (fun c hc=>hf c (sub c hc)) (fun c hc=>by
        simp only [List.mem_cons,List.not_mem_nil,or_false] at hc;rcases hc with rfl | rfl | rfl | rfl
        · exact ⟨_,b1⟩
        · exact ⟨_,q3⟩
        · exact ⟨_,q4⟩
        · exact ⟨_,q5⟩) (Nat.le_refl _) ⟨by show 2≤sizeLine; decide,[u,u'],.cons ru (.cons ru' .nil),_,qT,rfl,_,rfl⟩
    refine ⟨.ref s.heap.objs.size,_,I1,rfl,⟨_,rfl,I.hok.fresh (Nat.le_refl _),fun vs ws hv hw=>?_⟩,⟨b1,q2,⟨_,_,q3⟩,⟨_,q4,c4⟩,⟨_,q5,c5⟩⟩,fun c hc=>?_⟩
    · rw [I.list_inj hv hqa,I.list_inj hw hqb]
      exact ⟨x,y,hx,hy,rfl⟩
    · have hle:c≤n+4:=by
        simp only [List.mem_cons,List.not_mem_nil,or_false] at hc;rcases hc with rfl | rfl | rfl | rfl | rfl
        · exact Nat.le_refl _
        · exact Nat.le_add_right (n+2) 2
        · exact Nat.le_add_right (n+3) 1
        · exact Nat.le_add_right _ 4
        · exact Nat.le_add_right (n+1) 3
      rw [aw (neT hle)];exact (hf c hc).1
  done:=by
    intro X hP hw hK hc i pins s σ H E I hf st hg;subst hP hw hK;obtain ⟨xs,ys,hqa,hqb,hl⟩:=hg;obtain ⟨its,rv,p,hz⟩:=I.list hqa;obtain ⟨jts,rw',p',hz'⟩:=I.list hqb;obtain ⟨z1,z2,⟨x0,y0,z3⟩,z4,z5⟩:=st;have D:ZipApart (n+4) (n+2) (n+3) n (n+1) a b:=PyProof.Rows.zipApart_new ha hb;have l1:=rv.length;have l2:=rw'.length;refine wpAny_pyNext_zip_end (I.ok.hd hc) D z1 z2 z3 z4 z5 p.isList p'.isList ?_ fun h' hk=>⟨rfl,?_⟩
    · rcases hl with h | h
      · exact .inl (by simp; omega)
      · exact .inr (by simp; omega)
    · have fp:∀ c∈[n+4,n+3,n,n+1],iI X pins H c:=fun c hc=>hf c (by
        simp only [List.mem_cons,List.not_mem_nil,or_false] at hc ⊢;rcases hc with e | e | e | e
        · exact .inl e
        · exact .inr (.inr (.inl e))
        · exact .inr (.inr (.inr (.inl e)))
        · exact .inr (.inr (.inr (.inr e))))
      have kk:∀ c o,c∉[n+4,n+3,n,n+1]→s.heap.get? c=some o→h'.get? c=some o:=fun c o hc e=>by
        simp only [List.mem_cons,List.not_mem_nil,or_false,not_or] at hc;exact hk c o hc.1 hc.2.1 hc.2.2.1 hc.2.2.2 e
      have nit:∀ c u,H c=some u→c∉[n+4,n+3,n,n+1]:=fun c u e z=>by rw [(fp c z).1] at e; cases e
      refine I.step (g':=s.gens) (d':=s.drawn) (t':=s.toks) (ch:=[n+4,n+3,n,n+1]) (fun c hc=>⟨(fp c hc).2.2.2.1,(fp c hc).2.1,(fp c hc).2.2.2.2.1,(fp c hc).2.2.2.2.2⟩) (fun c o _ _ hc e _=>kk c o hc e) (fun c o _ _ hc e _=>⟨o.slots,kk c o hc e⟩) (fun _ _ _ _ n=>n)
        (fun c o hc e=>⟨o,kk c o hc e⟩) (fun _ _ e=>e) (fun _ _ _ e=>e) (fun _ ps e=>⟨#[],by rw [e]; simp⟩) (fun m hm=>?_) (fun c u e=>?_) I.bare
      · obtain ⟨ob,es,ep,ho,r⟩:=hm
        exact ⟨ob,es,ep,kk _ ob (fun z=>(fp _ z).2.1 rfl) ho,r⟩
      · refine (I.hok c u e).stay (fun d v hd q=>kk d v ?_ q) (fun _ e'=>e') fun _ _ e'=>e'
        rcases hd with z | z
        · rw [z]; exact nit c u e
        · exact nit d _ z
  self:=fun _ _ _ _ _ st h=>wpAny_pyIter_zip st.1 h
section
variable {σ:St} {H:Hp} {Q:VK} {D:cU} {QB:Bool→Hp→Prop} {QA:List V→Hp→Prop}
theorem Bo (h:D.nx σ H):Ce D σ H:=h
theorem C6 {te:TE} {g:TG} (h:te σ H fun x H1=>g x σ H1 D.nx):wu te g D σ H:=h
theorem c8 {i:Nat} {v:V} {Q:St→Hp→Prop} (h:Q (σ.set i (some v)) H):d7 i v σ H Q:=h
theorem Dr {te:TE} (h:te σ H D.rt):Ey te D σ H:=h
theorem Bs (h:D.rt .non H):Ci D σ H:=h
theorem Bh {te:TE} (h:te σ H fun _ H1=>D.nx σ H1):Ca te D σ H:=h
theorem Dk {c:TT} {t u:TS} (h:c σ H fun b H1=>if b=true then t D σ H1 else u D σ H1):Eu c t u D σ H:=h
theorem Ef {t:TE} (h:t σ H fun x H1=>∃ c,x=.bl c∧QB c H1):tB t σ H QB:=h
theorem zm {t:TE} (h:t σ H fun x H1=>∃ c,x=.bl c∧QB c H1):u9 t σ H QB:=h
theorem Bi {b:Bool} {P:Bool→Prop} (h:P b):∃ c,V.bl b=V.bl c∧P c:=⟨b,rfl,h⟩
theorem yY {a:Addr} {P:Addr→Prop} (h:P a):∃ c,V.ref a=V.ref c∧P c:=⟨a,rfl,h⟩
theorem yX {i:Int} {P:Int→Prop} (h:P i):∃ c,V.int i=V.int c∧P c:=⟨i,rfl,h⟩
theorem Dt {i:Nat} {v:V} (e:σ[i]?=some (some v)) (h:Q v H):DB i σ H Q:=⟨v,e,h⟩
theorem EZ {v:V} (h:Q v H):tC v σ H Q:=h
theorem Ec {r:R2} {ta tb:TE} (h:ta σ H fun x H1=>tb σ H1 fun y H2=>r x y H2 Q):tOp r ta tb σ H Q:=h
theorem Eg {r:V→Hp→VK→Prop} {ta:TE} (h:ta σ H fun x H1=>r x H1 Q):tUn r ta σ H Q:=h
theorem Bb {ta tb:TE} (h:ta σ H fun x H1=>∃ c,x=.bl c∧if c=true then tb σ H1 Q else Q (.bl false) H1):B5 ta tb σ H Q:=h
theorem Bq {ta:TE} (h:ta σ H fun x H1=>∃ c,x=.bl c∧Q (.bl (!c)) H1):Cf ta σ H Q:=h
theorem C5 {t u:TT} (h:t σ H fun c H1=>if c=true then u σ H1 QB else QB false H1):Eo t u σ H QB:=h
theorem Ed {t u:TT} (h:t σ H fun c H1=>if c=true then QB true H1 else u σ H1 QB):tOr t u σ H QB:=h
theorem Dp {t:TT} (h:t σ H fun c H1=>QB (!c) H1):Ew t σ H QB:=h
theorem Eb {t:TT} {ta tb:TE} (h:t σ H fun c H1=>if c=true then ta σ H1 Q else tb σ H1 Q):tIf t ta tb σ H Q:=h
theorem fF (h:QB true H):jZ σ H QB:=h
theorem D9 {g:Int→Int→V} {i j:Int} (h:Q (g i j) H):rI0 g (.int i) (.int j) H Q:=⟨i,j,rfl,rfl,h⟩
theorem bB {C:Int→Int→Prop} {g:Int→Int→V} {i j:Int} (c:C i j) (h:Q (g i j) H):rI C g (.int i) (.int j) H Q:=⟨i,j,rfl,rfl,c,h⟩
theorem EY {g:Int→V} {i:Int} (h:Q (g i) H):rU g (.int i) H Q:=⟨i,rfl,h⟩
theorem Df {i j:Int} (h:Q (.bl (decide (i=j))) H):rEq (.int i) (.int j) H Q:=⟨rfl,by
 rw [lE,Int.instDecidableEq.eq_def]<;>first | exact h | (simpa [lE] using h)⟩
theorem tS {i j:Int} (h:Q (.bl (!decide (i=j))) H):rNe (.int i) (.int j) H Q:=⟨rfl,by
 have e:decide (V.int i=V.int j)=decide (i=j):=by by_cases z:i=j<;>simp [z]
 rw [e]; exact h⟩
theorem Dg {i j:Str} (h:Q (.bl (decide (i=j))) H):rEq (.str i) (.str j) H Q:=⟨rfl,by
 have e:decide (V.str i=V.str j)=decide (i=j):=by by_cases z:i=j<;>simp [z]
 rw [e]; exact h⟩
theorem De {i j:Bool} (h:Q (.bl (decide (i=j))) H):rEq (.bl i) (.bl j) H Q:=⟨rfl,by
 have e:decide (V.bl i=V.bl j)=decide (i=j):=by by_cases z:i=j<;>simp [z]
 rw [e]; exact h⟩
theorem Dm {i j:Bool} (h:Q (.bl (!decide (i=j))) H):rNe (.bl i) (.bl j) H Q:=⟨rfl,by
 have e:decide (V.bl i=V.bl j)=decide (i=j):=by by_cases z:i=j<;>simp [z]
 rw [e]; exact h⟩
theorem aL {K:W.Frag} {p:Addr} {xs:List V} {i:Int} {v:V} (h:SqL K H p xs) (e:atI xs i=some v) (q:Q v H):CW K (.ref p) (.int i) H Q:=⟨p,xs,i,v,rfl,rfl,h,e,q⟩
theorem aA {K:W.Frag} {p:Addr} {xs:List V} {i:Int} {v:V} (h:SqT K H p xs) (e:atI xs i=some v) (q:Q v H):CZ K (.ref p) (.int i) H Q:=⟨p,xs,i,v,rfl,rfl,h,e,q⟩
theorem yO {r r':R2} {ta tb tc:TE} (h:ta σ H fun x H1=>tb σ H1 fun y H2=>r x y H2 fun z H3=>∃ k,z=.bl k∧if k=true then tc σ H3 fun y' H4=>r' y y' H4 Q else Q (.bl false) H3):uh r r' ta tb tc σ H Q:=h
theorem Bc {sp:Sp} {dvs:List V} {E:XK} {t:TA} (h:t σ H fun vs H1=>sp (vs++dvs) H1 Q E):B6 sp dvs E t σ H Q:=h
theorem Dn (h:QA [] H):DA σ H QA:=h
theorem Be {ta:TE} {tr:TA} (h:ta σ H fun x H1=>tr σ H1 fun xs H2=>QA (x::xs) H2):B7 ta tr σ H QA:=h
theorem D8 {r:List V→Hp→VK→Prop} {t:TA} (h:t σ H fun vs H1=>r vs H1 Q):tCB r t σ H Q:=h
end
theorem CG {K:W.Frag}:W.kitOne K (.type "int") (.type "int")=some true:=by kernel_rfl
theorem CF {K:W.Frag}:W.kitOne K (.type "int") (.type "bool")=some false:=by kernel_rfl
section
variable {X:Cx} {K:W.Frag} {H:Hp} {Q:VK} {σ:St}
def CV (K:W.Frag):List V→Hp→VK→Prop:=fun xs H Q=>∃ x n t b,xs=[x,.ty n]∧iM K H x t∧W.kitOne K t (.type n)=some b∧Q (.bl b) H
theorem vj:cb X (.builtin "isinstance") (CV X.K):=qG
theorem de {x:V} {n:String} {t:Value} {b:Bool} (ty:iM K H x t) (e:W.kitOne K t (.type n)=some b) (h:Q (.bl b) H):CV K [x,.ty n] H Q:=⟨x,n,t,b,rfl,ty,e,h⟩
def A6 (K:W.Frag):List V→Hp→VK→Prop:=fun xs H Q=>∃ p ys,xs=[.ref p]∧(SqL K H p ys∨SqT K H p ys)∧Q (.int ys.length) H
theorem Cr:cb X (.builtin "len") (A6 X.K):=pk
theorem b9 {p:Addr} {ys:List V} (h:H p=some (.lst ys)) (q:Q (.int ys.length) H):A6 K [.ref p] H Q:=⟨p,ys,rfl,.inl (SqL.of h),q⟩
theorem uW {p:Addr} {ys:List V} (h:H p=some (.tup ys)) (q:Q (.int ys.length) H):A6 K [.ref p] H Q:=⟨p,ys,rfl,.inr (SqT.of h),q⟩
def CU (K:W.Frag):List V→Hp→VK→Prop:=fun xs H Q=>∃ (p:Addr) (bs:List Bool),xs=[.ref p]∧SqL K H p (bs.map V.bl)∧Q (.bl (bs.all id)) H
theorem Cq (hc:X.calm=true):cb X (.builtin "all") (CU X.K):=qF hc
theorem mP {p:Addr} {bs:List Bool} (h:H p=some (.lst (bs.map V.bl))) (q:Q (.bl (bs.all id)) H):CU K [.ref p] H Q:=⟨p,bs,rfl,SqL.of h,q⟩
def C3 (K:W.Frag):List V→Hp→VK→Prop:=fun xs H Q=>∃ (p:Addr) (ns:List Int),xs=[.ref p]∧(SqL K H p (ns.map V.int)∨SqT K H p (ns.map V.int))∧jv ns∧Q (.int ns.sum) H
theorem Cs (hc:X.calm=true):cb X (.builtin "sum") (C3 X.K):=pA hc
theorem uX {p:Addr} {ns:List Int} (h:H p=some (.lst (ns.map V.int))) (s:jv ns) (q:Q (.int ns.sum) H):C3 K [.ref p] H Q:=⟨p,ns,rfl,.inl (SqL.of h),s,q⟩
def D1:List V→Hp→VK→Prop:=fun xs H Q=>∃ i,xs=[.int i]∧Q (.int (if i<0 then -i else i)) H
theorem j2:cb X (.builtin "abs") D1:=wO
theorem C4 {i:Int} (q:Q (.int (if i<0 then -i else i)) H):D1 [.int i] H Q:=⟨i,rfl,q⟩
def yD (K:W.Frag):List V→Hp→VK→Prop:=fun xs H Q=>∃ p ys,xs=[.ref p]∧(SqL K H p ys∨SqT K H p ys)∧∀ l,H l=none→Q (.ref l) (upd H l (.lst ys))
theorem AA:cb X (.type "list") (yD X.K):=pz
theorem ze {p:Addr} {ys:List V} (h:H p=some (.lst ys)) (q:∀ l,H l=none→Q (.ref l) (upd H l (.lst ys))):yD K [.ref p] H Q:=⟨p,ys,rfl,.inl (SqL.of h),q⟩
def D2 (K:W.Frag) (f:Str):V→Hp→VK→Prop:=fun x H1 Q=>∃ a C dx fs v,x=.ref a∧H1 a=some (.ins C dx fs)∧Cls K C∧c9 K C f∧fs.lookup f=some v∧Q v H1
theorem Di {ta:TE} {f:Str} (h:ta σ H fun x H1=>D2 K f x H1 Q):Dy K ta f σ H Q:=h
theorem cP {f:Str} {a C dx:Addr} {fs:List (Str×V)} {v:V} (h:H a=some (.ins C dx fs)) (c:Cls K C) (n:c9 K C f) (l:fs.lookup f=some v) (q:Q v H):D2 K f (.ref a) H Q:=⟨a,C,dx,fs,v,rfl,h,c,n,l,q⟩
def uU (C:Addr) (m:Str):V→Hp→Prop→Prop:=fun x H1 q=>∃ a dx fs,x=.ref a∧H1 a=some (.ins C dx fs)∧fs.lookup m=none∧q
theorem Bn {C:Addr} {m:Str} {sp:Sp} {dvs:List V} {E:XK} {ta:TE} {t:TA} (h:ta σ H fun x H1=>uU C m x H1 (t σ H1 fun vs H2=>sp (x::(vs++dvs)) H2 Q E)):Aa C m sp dvs E ta t σ H Q:=h
theorem bp {C a dx:Addr} {m:Str} {fs:List (Str×V)} {q:Prop} (h:H a=some (.ins C dx fs)) (l:fs.lookup m=none) (hq:q):uU C m (.ref a) H q:=⟨a,dx,fs,rfl,h,l,hq⟩
theorem Bm {C:Addr} {sp:Sp} {dvs:List V} {E:XK} {t:TA} (h:t σ H fun vs H1=>∀ x dx,H1 x=none→H1 dx=none→dx≠x →
 sp (.ref x::(vs++dvs)) (upd (upd H1 dx (.own x)) x (.ins C dx [])) (fun v H2=>v=.non∧Q (.ref x) H2) E):Cd C sp dvs E t σ H Q:=h
def rBM (K:W.Frag) (T:String):V→Hp→Prop→Prop:=fun x H1 q=>tyV K T x H1∧q
theorem Ea {T:String} {r:V→List V→Hp→VK→Prop} {to:TE} {t:TA} (h:to σ H fun x H1=>rBM K T x H1 (t σ H1 fun xs H2=>r x xs H2 Q)):tBM K T r to t σ H Q:=h
theorem C8 {T:String} {r:V→List V→Hp→VK→Prop} {to:TE} (h:to σ H fun x H1=>rBM K T x H1 (r x [] H1 Q)):Er K T r to σ H Q:=h
theorem dF {l:Addr} {xs:List V} {q:Prop} (h:H l=some (.lst xs)) (hq:q):rBM K "list" (.ref l) H q:=⟨.inl ⟨rfl,_,SqL.of h⟩,hq⟩
theorem bX {l:Addr} {xs:List V} {y:V} (h:H l=some (.lst xs)) (z:xs.length<sizeLine) (q:Q .non (upd H l (.lst (xs++[y])))):uT (.ref l) [y] H Q:=⟨l,xs,y,rfl,rfl,h,z,q⟩
theorem Ee {r:V→Option Int→Option Int→Hp→VK→Prop} {te:TE} {tl th:TO} (h:te σ H fun x H1=>tl σ H1 fun l H2=>th σ H2 fun u H3=>r x l u H3 Q):tSl r te tl th σ H Q:=h
theorem vX {Q:Option Int→Hp→Prop} (h:Q none H):u5 σ H Q:=h
theorem Br {t:TE} {Q:Option Int→Hp→Prop} (h:t σ H fun x H1=>∃ i,x=.int i∧Q (some i) H1):Cg t σ H Q:=h
theorem dh {a:Addr} {xs:List V} {lo hi:Option Int} (h:H a=some (.lst xs)) (q:∀ p,H p=none→Q (.ref p) (upd H p (.lst (bN xs lo hi)))):A7 K (.ref a) lo hi H Q:=⟨a,xs,rfl,SqL.of h,q⟩
def Au (J:It) (g:TG) (tb:TS) (D:cU) (σ:St) (H1:Hp):Prop:=∃ W:Nat→Nat→St→Hp→Prop,(∃ m,W 0 m σ H1)∧∀ i m σ H,W i m σ H →
 (J.stop i H∧D.nx σ H)∨(J.go i H∧∃ N:St→Hp→Prop,(∀ σ' H',N σ' H'→∃ m',m'<m∧W (i+1) m' σ' H')∧∀ x H',J.yld i H x H'→g x σ H' fun σ2 H2=>tb { D with nx:=N,ct:=N,bk:=D.nx } σ2 H2)
theorem Dj {wi:TI} {g:TG} {tb:TS} {D:cU} (h:wi σ H fun J H1=>Au J g tb D σ H1):Et wi g tb D σ H:=h
theorem dN {a:Addr} {xs:List V} {g:TG} {tb:TS} {D:cU} (Pv:Nat→St→Hp→Prop) (h0:Pv 0 σ H) (hl:∀ i σ H,i≤xs.length→Pv i σ H→SqL K H a xs)
  (hs:∀ i x σ H,xs[i]?=some x→Pv i σ H→g x σ H fun σ2 H2=>tb { D with nx:=Pv (i+1),ct:=Pv (i+1),bk:=D.nx } σ2 H2) (hd:∀ σ H,Pv xs.length σ H→D.nx σ H):Au (Itl K a) g tb D σ H:=xm Pv h0 hl hs hd
theorem eW {lo:Int} {n:Nat} {g:TG} {tb:TS} {D:cU} (Pv:Nat→St→Hp→Prop) (h0:Pv 0 σ H)
  (hs:∀ i σ H,i<n→Pv i σ H→g (.int (lo+i)) σ H fun σ2 H2=>tb { D with nx:=Pv (i+1),ct:=Pv (i+1),bk:=D.nx } σ2 H2) (hd:∀ σ H,Pv n σ H→D.nx σ H):Au (Itr lo n) g tb D σ H:=vx Pv h0 hs hd
theorem Bt {ta:TA} {R:It→Hp→Prop} (h:ta σ H fun vs H1=>∃ j:Int,vs=[.int j]∧-(2 ^ 62)≤j∧j<2 ^ 62∧R (Itr 0 j.toNat) H1):BQ ta σ H R:=h
theorem y6 {tl:TE} {R:It→Hp→Prop} (h:tl σ H fun x H1=>∃ a,x=.ref a∧(∃ xs,SqL K H1 a xs)∧R (Itl K a) H1):BP K tl σ H R:=h
end
theorem bj {zs:List Int} {i:Int} (h0:0≤i) (h1:i<zs.length):atI (zs.map V.int) i=some (.int (zs.getD i.toNat 0)):=by
 obtain ⟨k,rfl⟩:∃ k:Nat,i=(k:Int):=⟨i.toNat,by omega⟩
 refine cZ ?_;have hk:k<zs.length:=by omega
 simp [hk]
theorem ao.new {H:Hp} {p:Addr} {o:HO} (h:H p=none):ao H (upd H p o):=fun b u e=>by rw [aw (aE e h)]; exact e
theorem ao.later {H0 H:Hp} {p:Addr} {o:HO} (s:ao H0 H) (h:H0 p=none):ao H0 (upd H p o):=fun b u e=>by rw [aw (aE e h)]; exact s b u e
theorem DW {b:Bool} {A B:Prop} (h:if b=true then B else A):if (!b)=true then A else B:=by cases b<;>exact h
def js (J:It) (g:TG) (tt:TT) (te:TE) (cap:List (Option Nat)) (l:Addr) (σ:St) (H1:Hp) (Q:VK):Prop :=
 ∃ (n:Nat) (Pv:Nat→List V→St→Hp→Prop),Pv 0 [] (gk cap σ) (upd H1 l (.lst [])) ∧
  (∀ i ys σ' H',i<n→Pv i ys σ' H'→J.go i H'∧∀ x H2,J.yld i H' x H2→g x σ' H2 fun σ3 H3=>tt σ3 H3 fun b H4 =>
   if b=true then te σ3 H4 fun y H5=>H5 l=some (.lst ys)∧ys.length<sizeLine∧Pv (i+1) (ys++[y]) σ3 (upd H5 l (.lst (ys++[y]))) else Pv (i+1) ys σ3 H4) ∧
  ∀ ys σ' H',Pv n ys σ' H'→J.stop n H'∧Q (.ref l) H'
section
variable {K:W.Frag} {σ:St} {H:Hp} {Q:VK} {te:TE} {cap:List (Option Nat)} {l:Addr}
theorem Bd {wi:TI} {g:TG} {tt:TT} (h:wi σ H fun J H1=>∀ l,H1 l=none→js J g tt te cap l σ H1 Q):u3 wi g tt te cap σ H Q:=h
theorem n9 {α β:Type} (F:α→β) (xs:List α) (i:Nat) {x:α} (h:xs[i]?=some x):(xs.take (i+1)).map F=(xs.take i).map F++[F x]:=by
 rw [List.take_add_one,h,List.map_append];rfl
theorem gm {a:Addr} {xs:List V} (F:V→V) (hs:SqL K H a xs) (hz:xs.length≤1000) (hl:H l=none)
  (step:∀ x o H' (Q':VK),x∈xs→ao H H'→(∀ H5,ao H' H5→Q' (F x) H5)→te (((gk (none::cap) σ).set 0 o).set 0 (some x)) H' Q')
  (fin:∀ H',ao H H'→H' l=some (.lst (xs.map F))→Q (.ref l) H'):js (Itl K a) (d7 0) jZ te (none::cap) l σ H Q:=by
 refine ⟨xs.length,fun i ys σ' H'=>ys=(xs.take i).map F∧(∃ o,σ'=(gk (none::cap) σ).set 0 o)∧ao H H'∧H' l=some (.lst ys),⟨rfl,⟨none,rfl⟩,ao.new hl,ai⟩,?_,?_⟩
 ·rintro i ys σ' H' hi ⟨rfl,⟨o,rfl⟩,s,e⟩;refine ⟨⟨xs,xs[i],s.seq hs,by simp [hi]⟩,fun x H2 y=>?_⟩;obtain ⟨e2,y⟩:=y;subst e2;have hx:=y xs (s.seq hs);refine c8 (fF (mw ?_));refine step x o H2 _ (List.mem_of_getElem? hx) s fun H5 s5=>⟨s5 _ _ e,?_,?_⟩
  ·rw [List.length_map,List.length_take];exact aZ (by omega)
  ·exact ⟨(n9 F xs i hx).symm,⟨_,List.set_set ..⟩,(s.trans s5).later hl,ai⟩
 ·rintro ys σ' H' ⟨rfl,_,s,e⟩;rw [List.take_of_length_le (Nat.le_refl _)] at e;exact ⟨⟨xs,s.seq hs,Nat.le_refl _⟩,fin H' s e⟩
theorem kP {n:Nat} (F:Nat→V) (hz:n≤1000) (hl:H l=none)
  (step:∀ i o H' (Q':VK),i<n→ao H H'→(∀ H5,ao H' H5→Q' (F i) H5)→te (((gk (none::cap) σ).set 0 o).set 0 (some (.int ((0:Int)+(i:Nat))))) H' Q')
  (fin:∀ H',ao H H'→H' l=some (.lst ((List.range n).map F))→Q (.ref l) H'):js (Itr 0 n) (d7 0) jZ te (none::cap) l σ H Q:=by
 refine ⟨n,fun i ys σ' H'=>ys=(List.range i).map F∧(∃ o,σ'=(gk (none::cap) σ).set 0 o)∧ao H H'∧H' l=some (.lst ys),⟨rfl,⟨none,rfl⟩,ao.new hl,ai⟩,?_,?_⟩
 ·rintro i ys σ' H' hi ⟨rfl,⟨o,rfl⟩,s,e⟩;refine ⟨hi,fun x H2 y=>?_⟩;obtain ⟨e2,rfl⟩:=y;subst e2;refine c8 (fF (mw ?_));refine step i o H2 _ hi s fun H5 s5=>⟨s5 _ _ e,?_,?_⟩
  ·rw [List.length_map,List.length_range];exact aZ (by omega)
  ·refine ⟨?_,⟨_,List.set_set ..⟩,(s.trans s5).later hl,ai⟩;rw [List.range_succ,List.map_append];rfl
 ·rintro ys σ' H' ⟨rfl,_,s,e⟩;exact ⟨Nat.le_refl _,fin H' s e⟩
def BZ (K:W.Frag) (f:Str) (y x:V) (H2:Hp) (k:Hp→Prop):Prop:=∃ a C dx fs,x=.ref a∧H2 a=some (.ins C dx fs)∧Cls K C∧c9 K C f∧fs.length<1000∧k (upd H2 a (.ins C dx (bL f y fs)))
theorem Bv {D:cU} {ta tv:TE} {f:Str} (h:tv σ H fun y H1=>ta σ H1 fun x H2=>BZ K f y x H2 fun H3=>D.nx σ H3):Ei K ta tv f D σ H:=h
theorem ef {f:Str} {y:V} {k:Hp→Prop} {a C dx:Addr} {fs:List (Str×V)} (h:H a=some (.ins C dx fs)) (c:Cls K C) (n:c9 K C f) (z:fs.length<1000) (q:k (upd H a (.ins C dx (bL f y fs)))):BZ K f y (.ref a) H k:=⟨a,C,dx,fs,rfl,h,c,n,z,q⟩
def Co (c:TT) (tb:TS) (D:cU) (σ:St) (H:Hp):Prop:=∃ W:Nat→St→Hp→Prop,(∃ m,W m σ H)∧∀ m σ H,W m σ H →
 c σ H fun b H1=>if b=true then ∃ N:St→Hp→Prop,(∀ σ' H',N σ' H'→∃ m',m'<m∧W m' σ' H')∧tb { D with nx:=N,ct:=N,bk:=D.nx } σ H1 else D.nx σ H1
theorem zq {D:cU} {c:TT} {tb:TS} (h:Co c tb D σ H):Af c tb D σ H:=h
theorem C7 {D:cU} {i:Nat} {te:TE} {ti:TIp} {x:V} (e:σ[i]?=some (some x)) (h:te σ H fun y H1=>ti x y H1 fun z H2=>D.nx (σ.set i (some z)) H2):Ep i te ti D σ H:=⟨x,e,h⟩
theorem Dl {f:Int→Int→Int} {i j:Int} (h:Q (.int (f i j)) H):ipI f (.int i) (.int j) H Q:=⟨i,j,rfl,rfl,h⟩
theorem fD {n:Nat} {tt:TGs} {a:Addr} {xs:List V} {QS:St→Hp→Prop} (h:H a=some (.tup xs)) (hl:xs.length=n) (q:tt xs σ H QS):vz K n tt (.ref a) σ H QS:=⟨a,xs,rfl,SqT.of h,hl,q⟩
theorem eY {tg:TG} {u:TGs} {v:V} {r:List V} {QS:St→Hp→Prop} (h:tg v σ H fun σ' H'=>u r σ' H' QS):kT tg u (v::r) σ H QS:=⟨v,r,rfl,h⟩
theorem lL {QS:St→Hp→Prop} (h:QS σ H):xn [] σ H QS:=⟨rfl,h⟩
end
section
variable {X:Cx} (K:W.Frag) (h:X.K=K)
include h
theorem az:IxR X (CW K):=h ▸ AM
theorem ay:IxR X (CZ K):=h ▸ CD
theorem bH:cb X (.builtin "isinstance") (CV K):=h ▸ vj
theorem cn:cb X (.builtin "len") (A6 K):=h ▸ Cr
theorem lC (hc:X.calm=true):cb X (.builtin "all") (CU K):=h ▸ Cq hc
theorem uu (hc:X.calm=true):cb X (.builtin "sum") (C3 K):=h ▸ Cs hc
theorem wN:cb X (.type "list") (yD K):=h ▸ AA
theorem bE:SlR X (A7 K):=h ▸ BA
theorem cN {e:Expr} {ta:TE} {f:Str} {pos:Pos} (he:PE X e ta) (hb:attributeBase e f X.env (eval e X.env)=eval e X.env):PE X (.Attribute e f pos) (Dy K ta f):=h ▸ CP he hb
end
theorem iy {zs:List Int} {k:Nat}:bN (zs.map V.int) (some (k:Int)) none=(zs.drop k).map V.int:=by
 unfold bN;rw [HT.jR,HT.lO,List.length_map];rcases Nat.le_total k zs.length with h | h
 ·rw [Nat.min_eq_left h,← List.map_drop,List.take_of_length_le (by rw [List.length_map,List.length_drop]; omega)]
 ·rw [Nat.min_eq_right h,List.drop_eq_nil_of_le h,Nat.sub_self,List.take_zero]; rfl
theorem getD_mem {α:Type} {zs:List α} {k:Nat} {d:α} (h:k<zs.length):zs.getD k d∈zs:=by
 rw [List.getD_eq_getElem?_getD,List.getElem?_eq_getElem h];exact List.getElem_mem h
theorem gA {X:Cx} (K:W.Frag) (hK:X.K=K) {es:List Expr} {k:Nat} {t:TGs} {n:Nat} {pos:Pos} (hc:X.calm=true) (h:PGs X es t)
  (hn:(assignEach es X.env).length=n:=by rfl) (hst:(assignEach es X.env).findIdx? (·.1)=none:=by rfl):PG X (.Tuple es k pos) (vz K n t):=hK ▸ CS hc h hn hst
theorem oR {H:Hp}:∀ (ns:List Int),RepL H (ns.map PyData.int) (ns.map V.int)
 | []=>by simp only [List.map_nil,RepL]
 | n::r=>by
  simp only [List.map_cons,RepL,Rep];exact ⟨_,_,rfl,rfl,oR r⟩
theorem zr {H:Hp} {a:Addr} {ns:List Int} (h:H a=some (.lst (ns.map V.int))):Rep H (.list (ns.map PyData.int)) (.ref a):=by
 simp only [Rep];exact ⟨a,_,rfl,h,oR ns⟩
theorem hV {H:Hp}:∀ {ds:List PyData} {xs:List V},RepL H ds xs→ds.length=xs.length∧∀ (i:Nat) x,xs[i]?=some x→∃ d,ds[i]?=some d∧Rep H d x
 | [],xs,h=>by simp only [RepL] at h; subst h; exact ⟨rfl,fun i x e=>by simp at e⟩
 | d::ds,xs,h=>by
  simp only [RepL] at h;obtain ⟨x,r,rfl,h1,h2⟩:=h;obtain ⟨l,g⟩:=hV h2;refine ⟨by simp [l],fun i y e=>?_⟩
  cases i with
  | zero => simp at e; subst e; exact ⟨d, rfl, h1⟩
  | succ i => exact g i y (by simpa using e)
theorem vk {K:W.Frag} {σ:St} {H:Hp} {Q:VK} {te:TE} {l a b:Addr} {xs ys:List V} (F:Nat→V) (hx:H a=some (.lst xs)) (hy:H b=some (.lst ys)) (he:xs.length=ys.length) (hz:xs.length≤1000) (hl:H l=none)
  (step:∀ (i:Nat) x y H' (Q':VK),xs[i]?=some x→ys[i]?=some y→ao H H'→(∀ H5,ao H' H5→Q' (F i) H5)→te [some x,some y] H' Q')
  (fin:∀ H',ao H H'→H' l=some (.lst ((List.range xs.length).map F))→Q (.ref l) H'):js (Itz K a b) (vz K 2 (kT (d7 0) (kT (d7 1) xn))) jZ te [none,none] l σ H Q:=by
 refine ⟨xs.length,fun i zs σ' H'=>zs=(List.range i).map F∧(∃ o o',σ'=[o,o'])∧ao H H'∧H' l=some (.lst zs),⟨rfl,⟨none,none,rfl⟩,ao.new hl,ai⟩,?_,?_⟩
 ·rintro i zs σ' H' hi ⟨rfl,⟨o,o',rfl⟩,s,e⟩;refine ⟨⟨xs,ys,xs[i],ys[i]'(by omega),SqL.of (s _ _ hx),SqL.of (s _ _ hy),by simp [hi],by simp⟩,fun v H2 z=>?_⟩;obtain ⟨T,rfl,hT,z⟩:=z;obtain ⟨x,y,ex,ey,rfl⟩:=z xs ys (SqL.of (s _ _ hx)) (SqL.of (s _ _ hy));have sT:=ao.new (o:=HO.tup [x,y]) hT;refine fD ai rfl (eY (c8 (eY (c8 (lL (fF (mw ?_)))))));refine step i x y _ _ ex ey (s.trans sT) fun H5 s5=>⟨s5 _ _ (sT _ _ e),?_,?_⟩
  ·rw [List.length_map,List.length_range];exact aZ (by omega)
  ·refine ⟨?_,⟨_,_,rfl⟩,((s.trans sT).trans s5).later hl,ai⟩;rw [List.range_succ,List.map_append];rfl
 ·rintro zs σ' H' ⟨rfl,_,s,e⟩;exact ⟨⟨xs,ys,SqL.of (s _ _ hx),SqL.of (s _ _ hy),.inl (Nat.le_refl _)⟩,fin H' s e⟩
end L2
set_option maxHeartbeats 4000000
namespace L2
open PySem
inductive DS {α:Type}:Sem α→Prop
 | pure (a:α):DS (.pure a)
 | raise (e:Value):DS (.raise e)
 | unsup (w:String):DS (.unsupported w)
 | fin (e:Ending):DS (.finish e)
 | rule {t:String} {k:Unit→Sem α}:DS (k ())→DS (.rule t k)
 | here {p:Pos} {k:Unit→Sem α}:DS (k ())→DS (.at p k)
 | load {a:Addr} {p:Option Value} {k:Obj→Sem α}:(∀ o,DS (k o))→DS (.load a p k)
 | upd {a:Addr} {p:Option Value} {f:Obj→Obj} {k:Unit→Sem α}:(∀ o,(f o).dict=o.dict∧(f o).isFreed=o.isFreed)→DS (k ())→DS (.update a p f k)
 | alloc {o:Obj} {k:Addr→Sem α}:(∀ n,DS (k n))→DS (.alloc o k)
 | point {l:List Value} {k:Unit→Sem α}:DS (k ())→DS (.point l k)
 | fresh {k:Tok→Sem α}:(∀ n,DS (k n))→DS (.fresh k)
 | ask {k:Setting→Sem α}:(∀ n,DS (k n))→DS (.ask k)
 | stack {k:List (Code×Pos)→Sem α}:(∀ n,DS (k n))→DS (.stack k)
theorem DS.andThen {α β:Type} {m:Sem α} {f:α→Sem β} (h:DS m) (g:∀ a,DS (f a)):DS (m >>= f):=by
 show DS (Sem.bind m f)
 induction h with
 | pure a=>rw [Sem.bind]; exact g a
 | raise e=>rw [Sem.bind]; exact .raise e
 | unsup w=>rw [Sem.bind]; exact .unsup w
 | fin e=>rw [Sem.bind]; exact .fin e
 | rule _ ih=>rw [Sem.bind]; exact .rule ih
 | here _ ih=>rw [Sem.bind]; exact .here ih
 | load _ ih=>rw [Sem.bind]; exact .load ih
 | upd z _ ih=>rw [Sem.bind]; exact .upd z ih
 | alloc _ ih=>rw [Sem.bind]; exact .alloc ih
 | point _ ih=>rw [Sem.bind]; exact .point ih
 | fresh _ ih=>rw [Sem.bind]; exact .fresh ih
 | ask _ ih=>rw [Sem.bind]; exact .ask ih
 | stack _ ih=>rw [Sem.bind]; exact .stack ih
def pb (e:Addr) (dx:Option Addr) (h:Heap):Prop:=∃ o,h.get? e=some o∧o.dict=dx
theorem pb.upd {e a:Addr} {dx:Option Addr} {h:Heap} {f:Obj→Obj} (x:pb e dx h) (z:∀ o,(f o).dict=o.dict∧(f o).isFreed=o.isFreed):pb e dx (h.update a f):=by
 obtain ⟨o,h1,h2⟩:=x;by_cases q:a=e
 ·subst q;have fr:o.isFreed=false:=(Heap.get?_some_iff.mp h1).2;exact ⟨_,Heap.get?_update_self f h1 (by rw [(z o).2]; exact fr),by rw [(z o).1]; exact h2⟩
 ·exact ⟨o,by rw [Heap.get?_update_other h f q]; exact h1,h2⟩
theorem DS.run {α:Type} {M:Model} {Γ:Ctx} {m:Sem α} {Q:α→Pos→Shared→Prop} {E:Value→Pos→Shared→Prop} {p:Pos} {s:Shared} {e:Addr} {dx:Option Addr} (h:DS m) (w:Sem.wp M Γ m Q E p s) (x:pb e dx s.heap) :
  Sem.wp M Γ m (fun a p s'=>Q a p s'∧pb e dx s'.heap) (fun v p s'=>E v p s'∧pb e dx s'.heap) p s:=by
 induction h generalizing p s with
 | pure a=>rw [Sem.wp] at w ⊢; exact ⟨w,x⟩
 | raise v=>rw [Sem.wp] at w ⊢; exact ⟨w,x⟩
 | unsup q=>rw [Sem.wp] at w; exact w.elim
 | fin q=>rw [Sem.wp] at w; exact w.elim
 | rule _ ih=>rw [Sem.wp] at w ⊢; exact ih w x
 | here _ ih=>rw [Sem.wp] at w ⊢; exact ih w x
 | load _ ih=>rw [Sem.wp] at w ⊢; obtain ⟨o,h1,h2⟩:=w; exact ⟨o,h1,ih o h2 x⟩
 | upd z _ ih=>rw [Sem.wp] at w ⊢; exact ⟨w.1,ih w.2 (x.upd z)⟩
 | alloc _ ih=>rw [Sem.wp] at w ⊢; exact ih _ w (let ⟨o,h1,h2⟩:=x; ⟨o,Heap.get?_push_of_some _ h1,h2⟩)
 | point _ ih=>rw [Sem.wp] at w ⊢; exact ih w x
 | fresh _ ih=>rw [Sem.wp] at w ⊢; exact ih _ w x
 | ask _ ih=>rw [Sem.wp] at w ⊢; exact ih _ w x
 | stack _ ih=>rw [Sem.wp] at w ⊢; exact ih _ w x
theorem DS.any {α:Type} {M:Model} {A:Around} {m:Sem α} {Q:α→Shared→Prop} {E:Value→Shared→Prop} {s:Shared} {e:Addr} {dx:Option Addr} (h:DS m) (w:wpAny M A m Q E s) (x:pb e dx s.heap) :
  wpAny M A m (fun a s'=>Q a s'∧pb e dx s'.heap) E s:=fun Γ p hΓ =>
 Sem.wp_mono M Γ m (fun _ _ _ z=>z) (fun _ _ _ z=>z.1) p s (h.run (w Γ p hΓ) x)
theorem gQ {α:Type} {c:Prop} [Decidable c] {a b:Sem α} (h1:DS a) (h2:DS b):DS (if c then a else b):=by split<;>assumption
theorem jB (v:Value) (i:Nat):DS (field v i):=by
 unfold field fieldsOf;refine DS.andThen ?_ fun vs=>?_
 ·cases v with
  | ref a =>
   refine DS.andThen (.load fun o=>.pure o) fun o=>?_
   cases o.data<;>first | exact .pure _ | exact .unsup _
  | _ => exact .unsup _
 ·cases vs[i]?<;>first | exact .pure _ | exact .unsup _
theorem pE (f:Array Value→Array Value) (o:Obj):(Obj.mapFields f o).dict=o.dict∧(Obj.mapFields f o).isFreed=o.isFreed:=by
 obtain ⟨c,d,dt,sl⟩:=o
 cases dt<;>exact ⟨rfl,rfl⟩
theorem gR (v:Value) (i:Nat) (x:Value):DS (setField v i x):=by
 unfold setField
 cases v with
 | ref a =>
  unfold updateField;refine DS.andThen (.load fun o=>.pure o) fun o=>?_
  cases o.data with
  | fields vs => exact gQ (.upd (pE _) (.pure ())) (.unsup _)
  | _ => exact .unsup _
 | _=>exact .unsup _
theorem gq (e:Value) (f:Option Addr):DS (setFlight e f):=by
 unfold setFlight;exact DS.andThen (jB _ _) fun tb=>gQ (gR _ _ _) (.pure _)
theorem AG (env:Env) (b:Bool) (l:List Env):DS (keptBack env b l):=by
 cases l with
 | nil =>
  unfold keptBack underTheClaimsCaller;refine gQ (.pure _) (DS.andThen (DS.andThen (.stack fun n=>.pure n) fun _=>.pure _) fun q=>.pure _)
 | cons c r=>unfold keptBack; exact .pure _
theorem vp (env:Env) (l:List Env):DS (behindIsImport env l):=by
 unfold behindIsImport;exact gQ (.pure _) (gQ (.pure _) (DS.andThen (jB _ _) fun _=>.pure _))
theorem qR:∀ l:List Env,DS (readyFrames l)
 | []=>by unfold readyFrames; exact .pure _
 | env::r=>by
  unfold readyFrames
  cases env.frame with
  | none => exact .unsup _
  | some f =>
   refine DS.andThen (.load fun o=>.pure o) fun o=>gQ (.pure _) ?_;refine DS.andThen (vp _ _) fun b=>DS.andThen (AG _ _ _) fun v=>DS.andThen (.upd (fun o=>⟨rfl,by obtain ⟨c,d,dt,sl⟩:=o; cases dt<;>rfl⟩) (.pure ())) fun _=>qR r
theorem sP (env:Env):DS (frameOf env):=by
 unfold frameOf frameEnvs;refine DS.andThen (DS.andThen (.stack fun n=>.pure n) fun _=>.pure _) fun l=>DS.andThen ?_ fun o=>?_
 ·generalize l.dropWhile _=l'
  cases l' with
  | nil => unfold frameObject; exact .pure _
  | cons c r => unfold frameObject; exact DS.andThen (qR _) fun _ => .pure _
 ·cases o with
  | none => exact .unsup _
  | some f => exact .pure _
theorem wY (f:Addr) (b:Bool):DS (entryPlaceOf f b):=by
 unfold entryPlaceOf;refine DS.andThen (.stack fun n=>.pure n) fun l=>?_
 cases l.find? _ with
 | none=>exact .pure _
 | some q=>exact .pure _
theorem qQ (a b c d e:Value) (l:List Value):DS (EntryCells.newEntry a b c d e l):=by
 unfold EntryCells.newEntry newFields newObj newObjAsIs;generalize ([a,b,c,d,e]++if l.isEmpty then List.replicate 6 Value.none else l)=vs;dsimp only
 split
 ·exact DS.andThen (.unsup _) fun _=>DS.andThen (.alloc fun n=>.pure n) fun _=>.pure _
 ·exact DS.andThen (.alloc fun n=>.pure n) fun _=>.pure _
theorem jC (e:Value) (env:Env):DS (noteFrame e env):=by
  unfold noteFrame
  cases env.frame with
  | none => exact .unsup _
  | some f =>
    refine DS.andThen (jB _ _) fun hd=>?_;have tail:DS (do
        let a ← frameOf env
        let pl ← entryPlaceOf f (hd != .none)
        let b ← EntryCells.newEntry hd a .none (rawInt f) .none pl
        setField e 1 b):=DS.andThen (sP _) fun _=>DS.andThen (wY _ _) fun _=>DS.andThen (qQ _ _ _ _ _ _) fun _=>gR _ _ _
    refine gQ ?_ tail;refine DS.andThen (jB _ _) fun x=>gQ (.pure _) (DS.andThen (gR _ _ _) fun _=>tail)
theorem md (env:Env) (e:Value):DS (leaving env e):=by
 unfold leaving;exact DS.andThen (jC _ _) fun _=>gq _ _
end L2
namespace L2
open PySem PySem.Spec PyProof.Rows
structure Exc (g h:Heap) (H:Hp) (e C:Addr) (xo:Option Addr):Prop where
 tr:h.Traced g e (.ref C)
 ne:g.get? e=none
 he:H e=none
 hT:∀ oe vs T,h.get? e=some oe→oe.data=.fields vs→vs[1]?=some (.ref T)→H T=none
 dc:∀ dx,xo=some dx→pb e (some dx) h
noncomputable def CX1 (P:Program) (w:World):CXT:=fun outer H s E x s'=>∃ (e C:Addr) (xo:Option Addr) (H':Hp),x=.ref e∧s'.os=s.os∧AllBare s'.gens∧Un (frs outer) [] H H' s.heap s'.heap∧HOk P w H' s'.heap∧Exc s.heap s'.heap H' e C xo∧E (.ref C) xo H'
section
variable {X:Cx} {pins:List (Addr×Obj)} {σ:St} {H:Hp} {s:Shared}
theorem Inv.left {h':Heap} {es:List Addr} (I:Inv X pins σ H s) (hs:X.stack=X.env::X.outer) (he:∀ b∈es,H b=none∧X.s₀.heap.get? b=none)
  (keep:∀ b o,s.heap.get? b=some o→b∉frs X.stack→b∉es→h'.get? b=some o) (slot:∀ b o,s.heap.get? b=some o→b∈frs X.stack→∃ sl,h'.get? b=some { o with slots:=sl }):Un X.fs X.ex X.H₀ H X.s₀.heap h'∧HOk X.prog X.w H h':=by
 have sub:∀ b∈X.fs,b∈frs X.stack:=fun b hb=>by
  rw [hs]; unfold frs; rw [List.filterMap_cons]
  cases X.env.frame with
  | none => exact hb
  | some f => exact List.mem_cons_of_mem _ hb
 have nfr:∀ b u,H b=some u→b∉frs X.stack:=fun b u e z=>by rw [I.stkFree b z] at e; cases e
 have nes:∀ b u,H b=some u→b∉es:=fun b u e z=>by rw [(he b z).1] at e; cases e
 have neL:∀ b o,X.s₀.heap.get? b=some o→b∉X.fs→b∉frs X.stack:=fun b o e hb z=>by
  rcases List.mem_cons.mp (I.stkSub b z) with q | q
  ·exact absurd (Nat.lt_of_lt_of_le (Heap.lt_size e) (q ▸ I.ok.above)) (Nat.lt_irrefl _)
  ·exact hb q
 have ne0:∀ b o,X.s₀.heap.get? b=some o→b∉es:=fun b o e z=>by rw [(he b z).2] at e; cases e
 refine ⟨⟨fun b o e n hb hx=>keep b o (I.base.keep b o e n hb hx) (neL b o e hb) (ne0 b o e),fun b o e n hb hx=>?_,I.base.free,fun b o e hx=>?_,I.base.tups,I.base.frzs,I.base.tbls⟩,fun b u e=>?_⟩
 ·obtain ⟨sl,e1⟩:=I.base.slot b o e n hb hx;obtain ⟨sl',e2⟩:=slot b _ e1 (sub b hb);exact ⟨sl',e2⟩
 ·obtain ⟨o',e1⟩:=I.base.there b o e hx;by_cases hf:b∈frs X.stack
  ·obtain ⟨sl,e2⟩:=slot b o' e1 hf;exact ⟨_,e2⟩
  ·exact ⟨o',keep b o' e1 hf (ne0 b o e)⟩
 ·refine (I.hok b u e).stay (fun c v hc q=>?_) (fun _ q=>q) fun _ _ q=>q;rcases hc with z | z
  ·rw [z] at q ⊢; exact keep b v q (nfr b u e) (nes b u e)
  ·exact keep c v q (nfr c _ z) (nes c _ z)
end
theorem bq.get {P:Program} {w:World} {H:Hp} {h:Heap} {a:Addr} {o:HO} (x:bq P w H h a o):∃ ob,h.get? a=some ob:=by
 cases o with
 | lst xs=>obtain ⟨_,_,_,_,e⟩:=x; exact ⟨_,e⟩
 | tup xs=>obtain ⟨_,_,_,p⟩:=x; obtain ⟨o,e,_⟩:=p; exact ⟨_,e⟩
 | dK kvs=>obtain ⟨_,_,_,_,o,_,_,e,_⟩:=x; exact ⟨_,e⟩
 | dT kvs=>obtain ⟨_,_,_,_,o,_,_,e,_⟩:=x; exact ⟨_,e⟩
 | set S n=>obtain ⟨o,_,_,_,e,_⟩:=x; exact ⟨_,e⟩
 | ins C dx fs=>obtain ⟨_,_,_,e,_⟩:=x; exact ⟨_,e⟩
 | own y=>obtain ⟨_,e⟩:=x; exact ⟨_,e⟩
 | xd fs=>obtain ⟨_,⟨_,_,_,e,_⟩,_⟩:=x; exact ⟨_,e⟩
 | rng lo hi=>obtain ⟨_,_,_,e⟩:=x; exact ⟨_,e⟩
 | frz ob u=>obtain ⟨e,_⟩:=x; exact ⟨_,e⟩
 | tbl ps=>exact ⟨_,(show h.get? a=some _ from x)⟩
 | met f y=>exact ⟨_,(show h.get? a=some _ from x)⟩
 | ext φ=>obtain ⟨_,⟨_,e⟩,_⟩:=x; exact ⟨_,e⟩
theorem HOk.none_of {P:Program} {w:World} {H:Hp} {h:Heap} {a:Addr} (k:HOk P w H h) (e:h.get? a=none):H a=none:=by
 cases q:H a with
 | none=>rfl
 | some o=>obtain ⟨_,z⟩:=(k a o q).get; rw [e] at z; cases z
section
variable {P:Program} {w:World} {K:W.Frag} {mg:Str→Option Value} {base:Heap} {N:List Str} {qual:Str} {scope:Scope} {f:Addr} {cd:Value} {A:Around} {outer:List Env} {s₀:Shared} {H₀:Hp} {E:XK} {pins:List (Addr×Obj)} {σ:St} {H:Hp} {s:Shared}
theorem et {l:List Env} {as:List Addr} (h:∀ b∈frs l,b∈as):∀ env∈l,∀ a,env.frame=some a→a∈as:=fun env he a ha=>h a (List.mem_filterMap.mpr ⟨env,he,ha⟩)
theorem BN {e C:Addr} {xo:Option Addr} {oe:Obj} {vs:Array Value} (I1:Inv (cq (CX1 P w) P w K mg base N qual scope f cd A outer s₀ H₀ E) pins σ H s) (he:s.heap.get? e=some oe) (hcl:oe.cls=.ref C) (hda:oe.data=.fields vs) (h1:vs[1]?=some .none)
  (hs0:s₀.heap.get? e=none) (hHe:H e=none) (dc:∀ dx,xo=some dx→oe.dict=some dx) (q:E (.ref C) xo H):(cq (CX1 P w) P w K mg base N qual scope f cd A outer s₀ H₀ E).xe (.ref e) s:=by
 have ff:=I1.stack;have hl:=W.funFrames_hide (as:=e::frs (cq (CX1 P w) P w K mg base N qual scope f cd A outer s₀ H₀ E).stack) ff (et fun b hb=>List.mem_cons_of_mem _ hb);have fin:=wpAny_leaving_first (M:=model P w) (E:=fun v s'=>CX1 P w outer H₀ s₀ E v s') (base:=W.hideAll s.heap (e::frs (cq (CX1 P w) P w K mg base N qual scope f cd A outer s₀ H₀ E).stack)) (L:=s₀.heap.objs.size) (e:=e) (s:=s) (Q:=fun _ s'=>∃ h2,s'={ s with heap:=h2 }∧Heap.Left (W.hideAll s.heap (e::frs (cq (CX1 P w) P w K mg base N qual scope f cd A outer s₀ H₀ E).stack)) (envOfC qual scope s₀.heap.objs.size f cd::outer) e oe.cls s.heap h2) I1.ok.frames hl rfl he (fun b o z=>W.of_hideAll _ z) (W.hideAll_none _ List.mem_cons_self) hda h1 fun h2 lf=>⟨h2,rfl,lf⟩
 refine wpAny_mono (DS.any (md _ _) fin ⟨oe,he,rfl⟩) (fun _ s' ⟨⟨h2,e2,lf⟩,hd2⟩=>?_) fun _ _ z=>z;subst e2;obtain ⟨st,ff2,tr,up⟩:=lf;have lf:=I1.left (h':=h2) (es:=[e]) rfl (fun b hb=>by rw [List.mem_singleton.mp hb]; exact ⟨hHe,hs0⟩) (fun b o z nf ne=>st b o (W.hideAll_get _ z (by intro m; rcases List.mem_cons.mp m with r | r; exact ne (by simp [r]); exact nf r)))
  (fun b o z hb=>by
   obtain ⟨_,o',z',hd⟩:=ff.mem hb;rw [z] at z'; cases z';exact up b o z hd)
 obtain ⟨oe',ws,T,oT,ts,g1,g2,g3,g4,g5,g6,g7,g8,g9⟩:=tr;have nT:T∉frs (cq (CX1 P w) P w K mg base N qual scope f cd A outer s₀ H₀ E).stack:=fun z=>by
  obtain ⟨_,o,zo,hd⟩:=ff2.mem z;rw [g7] at zo; cases zo;exact hd ts g8
 have key:∀ o,s.heap.get? T=some o→False:=fun o z=>by
  rw [W.hideAll_get _ z (by intro m; rcases List.mem_cons.mp m with r | r; exact g6 r; exact nT r)] at g5
  cases g5
 have hT0:s₀.heap.get? T=none:=by
  cases z:s₀.heap.get? T with
  | none => rfl
  | some o => obtain ⟨o', z'⟩ := I1.base.there T o z (by intro q; cases q); exact (key o' z').elim
 have hHT:H T=none:=by
  cases z:H T with
  | none => rfl
  | some o => obtain ⟨o', z'⟩ := (I1.hok T o z).get; exact (key o' z').elim
 refine ⟨e,C,xo,H,rfl,I1.os,I1.bare,lf.1,lf.2,⟨⟨oe',ws,T,oT,ts,g1,g2.trans hcl,g3,g4,hT0,g6,g7,g8,g9⟩,hs0,hHe,fun oe2 vs' T' z1 z2 z3=>?_,fun dx z=>by rw [dc dx z] at hd2; exact hd2⟩,q⟩;rw [g1] at z1; cases z1;rw [g3] at z2; cases z2;rw [g4] at z3; cases z3;exact hHT
theorem jr {h':Heap} {t':Nat} {e C:Addr} {vs:List Value} (I:Inv (cq (CX1 P w) P w K mg base N qual scope f cd A outer s₀ H₀ E) pins σ H s) (hx:Heap.MadeExcOf s.heap h' e (.ref C) vs) (q:E (.ref C) none H) :
  (cq (CX1 P w) P w K mg base N qual scope f cd A outer s₀ H₀ E).xe (.ref e) { s with heap:=h',toks:=t' }:=by
 have I1:=I.kept (t':=t') hx.keeps;obtain ⟨t,he,ht,_⟩:=hx.there
 have hs0:s₀.heap.get? e=none:=by
  cases z:s₀.heap.get? e with
  | none => rfl
  | some o => obtain ⟨o', z'⟩ := I.base.there e o z (by intro q; cases q); rw [hx.new] at z'; cases z'
 exact BN I1 he rfl rfl rfl hs0 (I.hok.none_of hx.new) (fun _ z=>by cases z) q
theorem dk:gh (CX1 P w) (cq (CX1 P w) P w K mg base N qual scope f cd A outer s₀ H₀ E) E:=by
  intro pins σ H s x s' I h;obtain ⟨e,C,xo,H',rfl,os,bare,un,hok,ex,q⟩:=h;have J:=I.call' (s':=s') (ch:=[]) os un hok bare (fun b hb=>by cases hb);obtain ⟨⟨oe,ws,T,oT,ts,g1,g2,g3,g4,g5,g6,g7,g8,g9⟩,ne,hHe,hHT,dc⟩:=ex;have hHT:=hHT oe ws T g1 g3 g4;have s0:∀ {b:Addr},s.heap.get? b=none→s₀.heap.get? b=none:=fun {b} hb=>by
    cases z:s₀.heap.get? b with
    | none=>rfl
    | some o=>obtain ⟨o',z'⟩:=I.base.there b o z (by intro q; cases q); rw [hb] at z'; cases z'
  have ff:=J.stack;have hl:=W.funFrames_hide (as:=e::T::frs (cq (CX1 P w) P w K mg base N qual scope f cd A outer s₀ H₀ E).stack) ff (et fun b hb=>List.mem_cons_of_mem _ (List.mem_cons_of_mem _ hb));have fin:=wpAny_leaving_next (M:=model P w) (E:=fun v s'=>CX1 P w outer H₀ s₀ E v s') (base:=W.hideAll s'.heap (e::T::frs (cq (CX1 P w) P w K mg base N qual scope f cd A outer s₀ H₀ E).stack)) (L:=s₀.heap.objs.size) (e:=e) (s:=s') (Q:=fun _ s2=>∃ h2,s2={ s' with heap:=h2 }∧Heap.Left (W.hideAll s'.heap (e::T::frs (cq (CX1 P w) P w K mg base N qual scope f cd A outer s₀ H₀ E).stack)) (envOfC qual scope s₀.heap.objs.size f cd::outer) e (.ref C) s'.heap h2) J.ok.frames hl rfl
    ⟨oe,ws,T,oT,ts,g1,g2,g3,g4,W.hideAll_none _ (List.mem_cons_of_mem _ List.mem_cons_self),g6,g7,g8,g9⟩ (fun b o z=>W.of_hideAll _ z) (W.hideAll_none _ List.mem_cons_self) fun h2 lf=>⟨h2,rfl,lf⟩
  refine wpAny_mono (DS.any (md _ _) fin ⟨oe,g1,rfl⟩) (fun _ s2 ⟨⟨h2,e2,lf⟩,hd2⟩=>?_) fun _ _ z=>z;subst e2;obtain ⟨st,ff2,tr,up⟩:=lf;have lf:=J.left (h':=h2) (es:=[e,T]) rfl (fun b hb=>by
      simp only [List.mem_cons,List.not_mem_nil,or_false] at hb;rcases hb with rfl | rfl
      · exact ⟨hHe,s0 ne⟩
      · exact ⟨hHT,s0 g5⟩) (fun b o z nf ne=>st b o (W.hideAll_get _ z (by
        intro m;rcases List.mem_cons.mp m with r | m
        · exact ne (by simp [r])
        · rcases List.mem_cons.mp m with r | r
          · exact ne (by simp [r])
          · exact nf r)))
      (fun b o z hb=>by
        obtain ⟨_,o',z',hd⟩:=ff.mem hb;rw [z] at z'; cases z';exact up b o z hd)
  obtain ⟨oe2,ws2,T2,oT2,ts2,k1,k2,k3,k4,k5,k6,k7,k8,k9⟩:=tr;have nT:T2∉frs (cq (CX1 P w) P w K mg base N qual scope f cd A outer s₀ H₀ E).stack:=fun z=>by
    obtain ⟨_,o,zo,hd⟩:=ff2.mem z;rw [k7] at zo; cases zo;exact hd ts2 k8
  have hT0:s₀.heap.get? T2=none∧H' T2=none:=by
    by_cases r:T2=T
    · subst r; exact ⟨s0 g5,hHT⟩
    · have key:∀ o,s'.heap.get? T2=some o→False:=fun o z=>by
        rw [W.hideAll_get _ z (by
          intro m;rcases List.mem_cons.mp m with q | m
          · exact k6 q
          · rcases List.mem_cons.mp m with q | q
            · exact r q
            · exact nT q)] at k5
        cases k5
      constructor
      · cases z:s₀.heap.get? T2 with
        | none=>rfl
        | some o=>obtain ⟨o',z'⟩:=J.base.there T2 o z (by intro q; cases q); exact (key o' z').elim
      · cases z:H' T2 with
        | none=>rfl
        | some o=>obtain ⟨o',z'⟩:=(J.hok T2 o z).get; exact (key o' z').elim
  refine ⟨e,C,xo,H',rfl,J.os,J.bare,lf.1,lf.2,⟨⟨oe2,ws2,T2,oT2,ts2,k1,k2,k3,k4,hT0.1,k6,k7,k8,k9⟩,s0 ne,hHe,fun oe' vs' T' z1 z2 z3=>?_,fun dx z=>by
      obtain ⟨o,y1,y2⟩:=dc dx z;rw [g1] at y1; cases y1;rw [y2] at hd2; exact hd2⟩,q⟩
  rw [k1] at z1; cases z1;rw [k3] at z2; cases z2;rw [k4] at z3; cases z3;exact hT0.2
end
def uj (C:Addr) (E:XK) (t:TA):TS:=fun _ σ H=>t σ H fun vs H1=>vs.length≤sizeLine∧E (.ref C) none H1
theorem yv {X:Cx} {E:XK} {x:Str} {C:Addr} {B newId initId:String} {bm:List Value} {np cpos pos:Pos} {e:Expr} {es:List Expr} {t:TA} (O:OwnCls x C bm newId X.mg X.base) (FB:ExcBaseFacts B newId initId bm) (hc:X.calm=true) (hg:Gl X x)
  (hx:∀ (pins:List (Addr×Obj)) (σ:St) (H:Hp) (s:Shared) (h':Heap) (t':Nat) (e:Addr) (vs:List Value),Inv X pins σ H s→Heap.MadeExcOf s.heap h' e (.ref C) vs→E (.ref C) none H→X.xe (.ref e) { s with heap:=h',toks:=t' })
  (ha:PA X (e::es) t) (hd:(x==("__debug__":Str))=false:=by decide) (he:starEach (e::es) X.env=(false,eval e X.env)::starEach es X.env:=by rfl) (hpl:(backTo cpos (starEach es X.env)).any (·.1)=false:=by rfl) :
  PS X (.Raise (some (.Call (.Name x np) (e::es) [] cpos)) none pos) (uj C E t):=by
 intro pins s σ H D I h;obtain ⟨tl,N,nm,q,bs,hdct,sn,sub,ab,col,dd,k0,k1,k2,k3,k5,mN,hC,hN,hni,T⟩:=O.obj;refine wpAny_Raise_call_subT (C:=C) (nm:=nm) (q:=q) (N:=N) (bs:=bs) (bm:=tl) (hdct:=hdct) (sn:=sn) (sub:=sub) (ab:=ab) (col:=col) (dd:=dd) (k0:=k0) (k1:=k1) (k2:=k2) (k3:=k3) (k5:=k5)
  FB (mN:=mN) (T.hasType FB.hasBase) (I.ok.hd hc) (by rw [he]; show (false||(backTo cpos (starEach es X.env)).any (·.1))=false; rw [hpl]; rfl) hni (dX I hg O.bound ⟨rfl,?_⟩ hd)
 have h1:=ha cpos pins s σ H _ I h;rw [he] at h1 ⊢;refine Calls.evalArgs_plain (wpAny_mono h1 (fun us s2 ⟨vs,H2,I2,r2,hl,hE⟩=>⟨rfl,by show us.length≤sizeLine; rw [← r2.length]; exact hl,I2.bk _ _ hC,hN.keeps I2.bk,T.keeps I2.bk,fun h' a mk=>?_⟩) fun _ _ y=>y);exact hx pins σ H2 s2 h' s2.toks a us I2 mk hE
section
variable {P:Program} {w:World} {K:W.Frag} {mg:Str→Option Value} {base:Heap}
theorem Fun.ok1 {x qual:Str} {st:Stmt} {f:Addr} {fd:FuncData} {N ps:List Str} {k:Nat} {sp:Sp} (F:Fun K x qual st f fd) (S:aG N ps (aq st)) (len:∀ vs H Q E,sp vs H Q E→vs.length=ps.length)
  (hbody:∀ (cdv:Value) (A:Around) (outer:List Env) (s:Shared) (H:Hp) (vs:List V) (Q:VK) (E:XK),cA k (A.deeper (envOfC qual (aq st) s.heap.objs.size f cdv))→sp vs H Q E →
   ∃ t,PSs (cq (CX1 P w) P w K mg base N qual (aq st) f cdv A outer s H E) (c7 st) t∧t { nx:=fun _ H'=>Q .non H',rt:=Q } (iX N vs) H):aU P w K mg base (CX1 P w) (k+1) f fd ps sp:=by
 obtain ⟨oc,od,kV,doc,pm,an,cdv,ct,osl,rfl,lk,hcd⟩:=F.ex;exact xk lk hcd S len fun A outer s H vs Q E hr hsp=>hbody cdv A outer s H vs Q E hr hsp
theorem aU.up {k:Nat} {f:Addr} {fd:FuncData} {ps:List Str} {sp:Sp} (F:aU P w K mg base CX0 k f fd ps sp):aU P w K mg base (CX1 P w) k f fd ps sp :=
 ⟨F.len,fun A outer s H args us vs Q E hr e0 hb hv hs=>codeAny_mono (F.run A outer s H args us vs Q E hr e0 hb hv hs) fun r s' h=>by
  cases r with
  | error e => exact False.elim h
  | ok fl => cases fl <;> exact h⟩
end
end L2
namespace L2
open PySem PySem.Spec PyProof.Rows PySem.W Builtin Builtin.ObjectAttr Builtin.Getset_descriptor
section
variable {prog:Program} {w:World} {A:Around} {E:Value→Shared→Prop} {s:Shared} {K:W.Frag} {x C:Addr} {R:Result→Shared→Prop}
theorem AB {tp:Value} (X:K.In s.heap) (LT:Looks (model prog w) s.heap (typeOf (.ref x)) (.ref C)) (hm:mroIn K C (.type "object")=some true)
  (h:R (.ok (.ret (.ref C))) s):codeAny (model prog w) A (.call (.builtin "getset_descriptor.__get__") ⟨[.builtin "object.__class__",.ref x,tp],[]⟩) R s:=by
 have L1:=looks_mroIn (M:=model prog w) X hm; obtain ⟨hh,g,dr,t,os⟩:=s;refine codeAny_call_builtin KF.slot_gs.plain KF.entry_gs (KF.slot_gs.check _ _ _ _ _ _ _ _ KF.type_class (KF.args_gs _ _ _) ?_); unfold Builtin.«getset_descriptor.__get__» descrGet; rw [dga_obj];refine wpAny_bind (wpAny_pure ?_); unfold descrGetter descrCheckInstance descrNameAndClass isInstance; simp only [KF.owner_class]
 repeat lk
 refine ⟨Code.quiet_builtin _ (by decide +kernel),codeAny_builtin KF.entry_class ?_⟩; unfold Builtin.«object.__class__» shownTypeOf
 repeat lk
 exact h
theorem vq {Q:Option Value→Shared→Prop} (X:K.In s.heap) (LT:Looks (model prog w) s.heap (typeOf (.ref x)) (.ref C))
  (hga:findIn K (.ref C) "__getattribute__"=some (some (.builtin "BaseException.__getattribute__"))) (hgt:findIn K (.ref C) "__getattr__"=some none)
  (ha:findIn K (.ref C) "__class__"=some (some (.builtin "object.__class__"))) (hn:specialIn K (.builtin "object.__class__") "__get__"=some (some (.builtin "getset_descriptor.__get__"))) (htk:takesIn K (.builtin "object.__class__")=some true)
  (hm:mroIn K C (.type "object")=some true) (hb:mroIn K C (.type "BaseException")=some true)
  (h:Q (some (.ref C)) { s with toks:=s.toks+1 }):wpAny (model prog w) A (getAttr? (.ref x) "__class__") Q E s:=by
 obtain ⟨hh,g,d,t,os⟩:=s;have L1:=looks_findIn (M:=model prog w) X hga;have L2:=looks_findIn (M:=model prog w) X hgt;have L3:=looks_mroIn (M:=model prog w) X hb
 have L4:Looks (model prog w) hh (find (.ref x) (.ref C) "__class__") (.bind (.builtin "getset_descriptor.__get__") (.builtin "object.__class__")):=by
  have a1:=looks_findIn (M:=model prog w) X ha;have a2:Looks (model prog w) hh (getOf (some (.builtin "object.__class__"))) (some (.builtin "getset_descriptor.__get__")):=looks_specialIn X hn;have a3:=looks_takesIn (M:=model prog w) X htk;refine a1.andThen (a2.andThen ?_);have a4:Looks (model prog w) hh (dataDescriptor? (some (.builtin "object.__class__")) (some (.builtin "getset_descriptor.__get__"))) (some (.builtin "getset_descriptor.__get__",.builtin "object.__class__")):=a3.andThen .now;exact a4.andThen (Looks.tag .now)
 have f3:=(F.attrBase_ValueError).ga.bind (.ref x);unfold getAttr? getAttrBy? getAttrBy;refine wpAny_bind (wpAny_mkText (wpAny_bind (wpAny_attempt (wpAny_holding (wpAny_bind (LT.at (wpAny_bind (L1.at ?_))))))))
 show wpAny _ _ (getAttrByItsOwn _ _ _ _ _ _) _ _ _
 unfold getAttrByItsOwn hookBefore;refine wpAny_bind (L2.at ?_);refine wpAny_bind (wpAny_attempt (wpAny_holding ?_))
 show wpAny _ _ (boundAndCalled _ _ _) _ _ _
 unfold boundAndCalled;rw [f3];refine wpAny_bind (wpAny_pure (wpAny_call ?_));have hk:builtinKind "BaseException.__getattribute__"=some .slot:=(by decide +kernel); have hsplit:splitId "BaseException.__getattribute__"=some ("BaseException","__getattribute__"):=by decide +kernel
 refine codeAny_call_builtin (F.attrBase_ValueError).ga.plain F.entry_bexc_ga ?_;have ha:=F.args_bexc_ga (.ref x) (.str "__class__" t);simp only [checkBuiltinCall,hk,hsplit]; refine wpAny_bind ?_;unfold isInstance;refine wpAny_bind (LT.at (L3.at ?_));simp only [Bool.not_true,Bool.false_eq_true,if_false]; refine wpAny_of_eq (a:=()) ha ?_;unfold Builtin.«object.__getattribute__»
 repeat (first | with_reducible refine wpAny_call (AB X LT hm ?_) | lk)
 exact h
end
end L2
namespace L2
open PySem PySem.Spec PyProof.Rows
structure fk (K:W.Frag) (C:Addr):Prop where
 ga:W.findIn K (.ref C) "__getattribute__"=some (some (.builtin "BaseException.__getattribute__"))
 gt:W.findIn K (.ref C) "__getattr__"=some none
 cl:W.findIn K (.ref C) "__class__"=some (some (.builtin "object.__class__"))
 gs:W.specialIn K (.builtin "object.__class__") "__get__"=some (some (.builtin "getset_descriptor.__get__"))
 tk:W.takesIn K (.builtin "object.__class__")=some true
 mo:W.mroIn K C (.type "object")=some true
 mb:W.mroIn K C (.type "BaseException")=some true
theorem fk.cls {K:W.Frag} {C:Addr} (e:fk K C):∃ cd,W.clsIn K C=some cd:=by
 obtain ⟨cd,hc,_⟩:=Option.bind_eq_some_iff.mp e.mo;exact ⟨cd,hc⟩
def gK (e C:Addr) (h:Heap):Prop:=∃ o,h.get? e=some o∧o.cls=.ref C
theorem gK.looks {e C:Addr} {h:Heap} {M:Model} (p:gK e C h):PySem.W.Looks M h (typeOf (.ref e)) (.ref C):=by
 obtain ⟨o,h1,h2⟩:=p;rw [← h2]; exact (PySem.W.Looks.ld h1).andThen .now
def lU (e C:Addr) (xo:Option Addr) (h:Heap):Prop:=∃ o vs,h.get? e=some o∧o.cls=.ref C∧o.data=.fields vs∧∀ dx,xo=some dx→o.dict=some dx
theorem lU.at {e C:Addr} {xo:Option Addr} {h:Heap} (p:lU e C xo h):gK e C h:=let ⟨o,_,h1,h2,_⟩:=p; ⟨o,h1,h2⟩
noncomputable def sC (e C:Addr) (xo:Option Addr):HO:=.ext (lU e C xo)
theorem xK {K:W.Frag} {e C:Addr} (x:fk K C):PySem.W.KitX K (.ref e) (.ref C) (gK e C) where
 ty:=fun _ _ _ p=>gK.looks p
 it:=fun _ _ X _=>by
  obtain ⟨cdD,hcD⟩:=x.cls;unfold W.clsIn at hcD
  split at hcD
  ·rename_i ho;intro A' Q' E' s' k q;unfold isType loadHead;exact wpAny_bind (wpAny_loadPart (k _ _ (X _ _ ho)) (wpAny_pure q))
  ·cases hcD
 ne:=fun h tp dd its n sl X htp=>by
  obtain ⟨cdD,hcD⟩:=x.cls;refine Bool.eq_false_iff.mpr fun q=>?_;have z:=Value.ref.inj (beq_iff_eq.mp q);subst z;unfold W.clsIn at hcD
  split at hcD
  ·rename_i ho;have z:=(X _ _ ho).symm.trans htp
   cases z
  ·cases hcD
 ca:=fun X p k=>vq X (gK.looks p) x.ga x.gt x.cl x.gs x.tk x.mo x.mb k
def yB (K:W.Frag):List V→Hp→VK→Prop:=fun xs H Q=>∃ e C xo y c b,xs=[.ref e,y]∧H e=some (sC e C xo)∧fk K C∧a7 y c∧W.kitOne K (.ref C) c=some b∧Q (.bl b) H
theorem sI {X:Cx}:cb X (.builtin "isinstance") (yB X.K):=by
 intro pins s σ H xs us Q I r h;obtain ⟨e,C,xo,y,c,b,rfl,he,ex,ry,k,q⟩:=h;obtain ⟨u,v,rfl,ru,rv⟩:=r.two
 cases (show u=Value.ref e from ru)
 have hv:v=c:=by
  cases y with
  | ref a => exact (show v = Value.ref a from rv).trans (show c = Value.ref a from ry).symm
  | ty n => exact (show v = Value.type n from rv).trans (show c = Value.type n from ry).symm
  | non => exact (show v = Value.none from rv).trans (show c = Value.none from ry).symm
  | bl z => exact (show v = Value.bool z from rv).trans (show c = Value.bool z from ry).symm
  | int i => obtain ⟨t, rfl⟩ := ry; simp [W.kitOne, W.kitCls] at k
  | str i => obtain ⟨t, rfl⟩ := ry; simp [W.kitOne, W.kitCls] at k
  | byt i => obtain ⟨t, rfl⟩ := ry; simp [W.kitOne, W.kitCls] at k
  | flt i => obtain ⟨t, rfl⟩ := ry; simp [W.kitOne, W.kitCls] at k
 subst hv;have p:gK e C s.heap:=lU.at (show bq X.prog X.w H s.heap e (.ext (lU e C xo)) from I.hok e _ he).1;exact W.kia_one (xK ex) I.kIn p k (fun z=>nomatch z) fun tk=>⟨.bl b,H,I.tok tk,rfl,q⟩
theorem cm {X:Cx} (K:W.Frag) (h:X.K=K):cb X (.builtin "isinstance") (yB K):=h ▸ sI
theorem fE {K:W.Frag} {H:Hp} {Q:VK} {e C D:Addr} {xo:Option Addr} {b:Bool} (he:H e=some (sC e C xo)) (x:fk K C) (k:W.kitOne K (.ref C) (.ref D)=some b) (q:Q (.bl b) H):yB K [.ref e,.ref D] H Q :=
 ⟨e,C,xo,.ref D,.ref D,b,rfl,he,x,rfl,k,q⟩
section
variable {X:Cx} {pins:List (Addr×Obj)} {σ:St} {H:Hp} {s:Shared}
theorem Inv.held {h':Heap} {es:List Addr} (I:Inv X pins σ H s) (hs:X.stack=X.env::X.outer) (hf:X.env.frame=some X.env.locals)
  (he:∀ b∈es,H b=none∧X.s₀.heap.get? b=none∧(∀ p∈X.pn++pins,p.1≠b)∧∃ o vs,s.heap.get? b=some o∧o.data=.fields vs)
  (keep:∀ b o,s.heap.get? b=some o→b∉frs X.stack→b∉es→h'.get? b=some o) (slot:∀ b o,s.heap.get? b=some o→b∈frs X.stack→∃ sl,h'.get? b=some { o with slots:=sl }):Inv X pins σ H { s with heap:=h' }:=by
 have lf:=I.left hs (fun b hb=>⟨(he b hb).1,(he b hb).2.1⟩) keep slot;have inL:X.env.locals∈frs X.stack:=by rw [hs]; unfold frs; rw [List.filterMap_cons,hf]; exact List.mem_cons_self
 have cellK:∀ c v,s.heap.IsCell c v→h'.IsCell c v:=fun c v ⟨o,ho,hd⟩=>by
  by_cases hb:c∈frs X.stack
  ·obtain ⟨sl,q⟩:=slot c o ho hb;exact ⟨_,q,hd⟩
  ·refine ⟨o,keep c o ho hb fun hm=>?_,hd⟩;obtain ⟨_,_,_,o',vs,ho',hd'⟩:=he c hm;rw [ho] at ho'; cases ho'; rw [hd] at hd'; cases hd'
 refine ⟨I.ok,I.os,I.bare,lf.1,?_,fun x c e=>?_,I.free,I.freeC,fun p hp=>?_,lf.2,I.len⟩
 ·obtain ⟨m,⟨o,es',ep,ho,r⟩,hl⟩:=I.loc;obtain ⟨sl,hL⟩:=slot _ o ho inL;refine ⟨m,⟨_,es',ep,hL,r⟩,fun i x v e1 e2 e3=>?_⟩;obtain ⟨u,ru,l⟩:=hl i x v e1 e2 e3;refine ⟨u,ru,?_⟩;rcases l with l | ⟨k,c,e,z⟩
  ·exact .inl l
  ·exact .inr ⟨k,c,e,cellK c _ z⟩
 ·obtain ⟨v,z⟩:=I.cell x c e;exact ⟨v,cellK c v z⟩
 ·obtain ⟨e,n,ne,nf,d⟩:=I.pin p hp;refine ⟨keep p.1 p.2 e (fun z=>?_) fun z=>(he p.1 z).2.2.1 p hp rfl,n,ne,nf,d⟩;rcases List.mem_cons.mp (I.stkSub p.1 z) with q | q
  ·exact ne q
  ·exact nf q
theorem Inv.track {e:Addr} {φ:Heap→Prop} (I:Inv X pins σ H s) (hH:H e=none) (h0:X.s₀.heap.get? e=none) (hp:∀ p∈X.pn++pins,p.1≠e) (hd:∃ o vs,s.heap.get? e=some o∧o.data=.fields vs)
    (hφ:φ s.heap) (st:∀ h1 h2:Heap,φ h1→(∀ o,h1.get? e=some o→h2.get? e=some o)→φ h2):Inv X pins σ (upd H e (.ext φ)) s:=by
  obtain ⟨oe,vs,ho,hdd⟩:=hd;have ne:∀ b u,H b=some u→b≠e:=fun b u z=>aE z hH;have n0:∀ b o,X.s₀.heap.get? b=some o→b≠e:=fun b o z q=>by rw [q,h0] at z; cases z
  have nH0:∀ b u,X.H₀ b=some u→H b≠none→b≠e:=fun b u _ z q=>z (q ▸ hH);refine ⟨I.ok,I.os,I.bare,⟨I.base.keep,I.base.slot,fun b o z n hx=>?_,I.base.there,fun b xs z=>?_,fun b o u z=>?_,fun b ps z=>?_⟩,I.loc,I.cell,?_,fun x c z=>?_,fun p hp'=>?_,fun b u z=>?_,I.len⟩
  · rw [aw (n0 b o z)]; exact I.base.free b o z n hx
  · have q:=I.base.tups b xs z
    rw [aw (ne _ _ q)]; exact q
  · have q:=I.base.frzs b o u z
    rw [aw (ne _ _ q)]; exact q
  · obtain ⟨m,q⟩:=I.base.tbls b ps z
    exact ⟨m,by rw [aw (ne _ _ q)]; exact q⟩
  · have q:X.env.locals≠e:=fun q=>by
      obtain ⟨m,⟨o',es,ep,ho',hd',_⟩,_⟩:=I.loc;rw [q,ho] at ho'; cases ho'; rw [hdd] at hd'; cases hd'
    rw [aw q]; exact I.free
  · have q:c≠e:=fun q=>by
      obtain ⟨v,o',ho',hd'⟩:=I.cell x c z;rw [q,ho] at ho'; cases ho'; rw [hdd] at hd'; cases hd'
    rw [aw q]; exact I.freeC x c z
  · obtain ⟨a,n,r⟩:=I.pin p hp'
    exact ⟨a,by rw [aw (hp p hp')]; exact n,r⟩
  · by_cases q:b=e
    · subst q
      rw [ai] at z
      cases z;exact ⟨hφ,⟨oe,ho⟩,st⟩
    · rw [aw q] at z
      refine (I.hok b u z).stay (fun _ _ _ w=>w) (fun c w=>?_) fun c xs w=>?_
      · rw [aw (ne _ _ w)]; exact w
      · rw [aw (ne _ _ w)]; exact w
end
noncomputable abbrev Cx.tryIn (X:Cx) (pins:List (Addr×Obj)) (E:Value→Shared→Prop):Cx:={ X with pn:=X.pn++pins,xe:=E }
section
variable {X:Cx} {pins pins':List (Addr×Obj)} {σ:St} {H:Hp} {s:Shared} {E:Value→Shared→Prop}
theorem Cx.Ok.tryIn (ok:X.Ok):(X.tryIn pins E).Ok :=
 ⟨ok.mod,ok.kind,ok.glob,ok.blt,ok.above,ok.inj,ok.has,ok.cab,ok.hd,ok.frames,ok.stk,ok.exf,ok.bs,ok.bsz,ok.noex,ok.exfs,ok.funs,ok.frf⟩
theorem Cx.Ok.tryOut (ok:(X.tryIn pins E).Ok):X.Ok :=
 ⟨ok.mod,ok.kind,ok.glob,ok.blt,ok.above,ok.inj,ok.has,ok.cab,ok.hd,ok.frames,ok.stk,ok.exf,ok.bs,ok.bsz,ok.noex,ok.exfs,ok.funs,ok.frf⟩
theorem Inv.tryIn (I:Inv X pins σ H s) (E:Value→Shared→Prop):Inv (X.tryIn pins E) [] σ H s :=
 ⟨I.ok.tryIn,I.os,I.bare,I.base,I.loc,I.cell,I.free,I.freeC,fun p hp=>I.pin p (by simpa using hp),I.hok,I.len⟩
theorem Inv.tryOut (I:Inv (X.tryIn pins E) pins' σ H s):Inv X pins σ H s :=
 ⟨I.ok.tryOut,I.os,I.bare,I.base,I.loc,I.cell,I.free,I.freeC,fun p hp=>I.pin p (List.mem_append_left _ hp),I.hok,I.len⟩
theorem SP.tryOut {D:cU} {f:Flow} {s':Shared} (h:SP (X.tryIn pins E) pins' D f s'):SP X pins D f s':=by
 cases f with
 | next=>obtain ⟨σ',H',I,q⟩:=h; exact ⟨σ',H',I.tryOut,q⟩
 | brk=>obtain ⟨σ',H',I,q⟩:=h; exact ⟨σ',H',I.tryOut,q⟩
 | cont=>obtain ⟨σ',H',I,q⟩:=h; exact ⟨σ',H',I.tryOut,q⟩
 | ret u=>obtain ⟨v,σ',H',I,r,q⟩:=h; exact ⟨v,σ',H',I.tryOut,r,q⟩
end
def XT (X:Cx) (pins:List (Addr×Obj)) (ET:St→XK):Value→Shared→Prop:=fun x s'=>∃ (σ:St) (e C:Addr) (xo:Option Addr) (H':Hp),x=.ref e∧Inv X pins σ H' s'∧Exc X.s₀.heap s'.heap H' e C xo ∧
 (∀ p∈X.pn++pins,p.1≠e∧∀ oe vs T,s'.heap.get? e=some oe→oe.data=.fields vs→vs[1]?=some (.ref T)→p.1≠T)∧ET σ (.ref C) xo H'
def gj (CX:CXT) (X:Cx) (ET:St→XK):Prop:=∀ (pins:List (Addr×Obj)) (σ:St) (H:Hp) (s:Shared) (e:Value) (s':Shared),Inv X pins σ H s→CX X.stack H s (ET σ) e s'→X.xe e s'
theorem DZ {X:Cx} {pins:List (Addr×Obj)} {ET:St→XK} (hx:X.ex=[]:=by rfl):gj (CX1 X.prog X.w) (X.tryIn pins (XT X pins ET)) ET:=by
 intro pins' σ H s x s' I h;obtain ⟨e,C,xo,H',rfl,os,bare,un,hok,ex,q⟩:=h;have J:=I.call' (s':=s') (ch:=[]) os un hok bare (fun b hb=>by cases hb);obtain ⟨⟨oe,ws,T,oT,ts,g1,g2,g3,g4,g5,g6,g7,g8,g9⟩,ne,hHe,hHT,dc⟩:=ex;have s0:∀ {b:Addr},s.heap.get? b=none→X.s₀.heap.get? b=none:=fun {b} hb=>by
  cases z:X.s₀.heap.get? b with
  | none => rfl
  | some o => obtain ⟨o', z'⟩ := I.base.there b o z (by show b ∉ X.ex; rw [hx]; simp); rw [hb] at z'; cases z'
 refine ⟨σ,e,C,xo,H',rfl,J.tryOut,⟨⟨oe,ws,T,oT,ts,g1,g2,g3,g4,s0 g5,g6,g7,g8,g9⟩,s0 ne,hHe,hHT,dc⟩,fun p hp=>?_,q⟩;have hp':=(I.pin p (List.mem_append_left _ hp)).1;refine ⟨fun z=>(by rw [z,ne] at hp'; cases hp'),fun oe' vs' T' z1 z2 z3 z=>?_⟩;rw [g1] at z1; cases z1;rw [g3] at z2; cases z2;rw [g4] at z3; cases z3;rw [z,g5] at hp'
 cases hp'
def zR (sp:Sp) (dvs:List V) (ET:St→XK) (t:TA):TE:=fun σ H Q=>t σ H fun vs H1=>sp (vs++dvs) H1 Q (ET σ)
def Ab (C:Addr) (m:Str) (sp:Sp) (dvs:List V) (ET:St→XK) (ta:TE) (t:TA):TE:=fun σ H Q=>ta σ H fun x H1=>uU C m x H1 (t σ H1 fun vs H2=>sp (x::(vs++dvs)) H2 Q (ET σ))
def z9 (C:Addr) (sp:Sp) (dvs:List V) (ET:St→XK) (t:TA):TE:=fun σ H Q=>t σ H fun vs H1=>∀ x dx,H1 x=none→H1 dx=none→dx≠x →
 sp (.ref x::(vs++dvs)) (upd (upd H1 dx (.own x)) x (.ins C dx [])) (fun v H2=>v=.non∧Q (.ref x) H2) (ET σ)
section
variable {X:Cx} {CX:CXT} {k:Nat} {f C:Addr} {fd:FuncData} {ps:List Str} {sp:Sp} {dvs:List V} {ds:List Value} {ET:St→XK} {x m:Str} {p pos apos:Pos} {e o:Expr} {es:List Expr} {ta:TE} {t:TA}
theorem uZ {pins:List (Addr×Obj)} {σ:St} {H:Hp} {s:Shared} {Q:VK} {us:List Value} {vs:List V} (F:aU X.prog X.w X.K X.mg X.base CX k f fd ps sp) (hr:cA k X.A) (hb:aN X.K fd ps ds) (hd:a9 dvs ds) (hx:gj CX X ET)
  (I:Inv X pins σ H s) (r:a9 vs us) (h:sp (vs++dvs) H Q (ET σ)):wpAny (model X.prog X.w) X.A (call (.ref f) us) (EP X pins σ Q) X.xe s:=by
 have r2:a9 (vs++dvs) (us++ds):=r.append hd;have hl:(us++ds).length=ps.length:=by rw [← r2.length]; exact F.len _ _ _ _ h
 refine wpAny_call (codeAny_mono (F.run X.A X.stack s H ⟨us,[]⟩ (us++ds) (vs++dvs) Q (ET σ) hr I.env0 (hb s us I.kIn hl) r2 h) fun r s' hq=>?_)
 cases r with
 | error e=>exact hx pins σ H s e s' I hq
 | ok fl =>
  cases fl with
  | ret u => exact I.after hq
  | next => exact False.elim hq
  | brk => exact False.elim hq
  | cont => exact False.elim hq
theorem yd (F:aU X.prog X.w X.K X.mg X.base CX k f fd ps sp) (hr:cA k X.A) (hg:Gl X x) (hm:X.mg x=some (.ref f)) (hk:W.keepIn X.K (.ref f)=true) (hb:aN X.K fd ps ds) (hd:a9 dvs ds) (hx:gj CX X ET)
  (ha:PA X (e::es) t) (hdb:(x==("__debug__":Str))=false:=by decide) (he:starEach (e::es) X.env=(false,eval e X.env)::starEach es X.env:=by rfl) (hpl:(backTo pos (starEach es X.env)).any (·.1)=false:=by rfl) :
  PE X (.Call (.Name x p) (e::es) [] pos) (zR sp dvs ET t):=by
 intro pins s σ H Q I h;refine wpAny_Call_Name_kw (dX I hg hm ?_ hdb);refine W.callWith_K (h₀:=X.base) I.ok.mod.kin hk (thn (ha pos pins s σ H _ I h) fun us s1 ⟨vs,H1,I1,r,q⟩=>⟨I1.kIn,?_⟩) he hpl;exact uZ F hr hb hd hx I1 r q
theorem yn {pl:Sem Bool} (he:PE X o ta) (c:Cls X.K C) (hm:j1 X.K C m f) (F:aU X.prog X.w X.K X.mg X.base CX k f fd ps sp) (hr:cA k X.A) (hb:aN X.K fd ps ds) (hd:a9 dvs ds) (hx:gj CX X ET) (ha:PA X (e::es) t)
  (hst:starEach (e::es) X.env=(false,eval e X.env)::starEach es X.env:=by rfl) (hpl:(backTo pos (starEach es X.env)).any (·.1)=false:=by rfl)
  (ht:eval (.Call (.Attribute o m apos) (e::es) [] pos) X.env=(do
   let ov ← eval o X.env
   standAt apos.atName
   let (f,first) ← holding [ov] (getMethod ov m pl)
   callWith pos f first (backTo pos (starEach (e::es) X.env)) (backToKw pos (keywordEach [] X.env))):=by rfl) :
  PE X (.Call (.Attribute o m apos) (e::es) [] pos) (Ab C m sp dvs ET ta t):=by
 intro pins s σ H Q I h;refine W.methodCall_KW (pl:=pl) (thn (he pins s σ H _ I h) fun u s1 ⟨x,H1,I1,rx,a,dx,fs,ex,ea,l,q⟩=>?_) ht;subst ex;obtain rfl:u=Value.ref a:=rx
 refine i7 I1 ea c hm l ?_;refine W.callWith_K (first:=[.ref a]) (h₀:=X.base) I.ok.mod.kin hm.kp (thn (ha pos pins s1 σ H1 _ I1 q) fun us s2 ⟨vs,H2,I2,r,q2⟩=>⟨I2.kIn,?_⟩) hst hpl;exact uZ (us:=.ref a::us) (vs:=.ref a::vs) F hr hb hd hx I2 (.cons rfl r) q2
theorem v3 {pins:List (Addr×Obj)} {σ:St} {H:Hp} {s:Shared} {Q:VK} {us:List Value} {vs:List V} (M:Mk X.K C f) (F:aU X.prog X.w X.K X.mg X.base CX k f fd ps sp) (hr:cA (k+1) X.A) (hb:aN X.K fd ps ds) (hd:a9 dvs ds)
  (hx:gj CX X ET) (I:Inv X pins σ H s) (r:a9 vs us)
  (h:∀ x dx,H x=none→H dx=none→dx≠x→sp (.ref x::(vs++dvs)) (upd (upd H dx (.own x)) x (.ins C dx [])) (fun v H2=>v=.non∧Q (.ref x) H2) (ET σ)) :
  wpAny (model X.prog X.w) X.A (call (.ref C) us) (EP X pins σ Q) X.xe s:=by
 have hq:=h (s.heap.objs.size+1) s.heap.objs.size (I.hok.fresh (Nat.le_succ _)) (I.hok.fresh (Nat.le_refl _)) (Nat.ne_of_lt (Nat.lt_succ_self _));have I2:=Inv.made (C:=C) I;have r2:a9 (V.ref (s.heap.objs.size+1)::(vs++dvs)) (Value.ref (s.heap.objs.size+1)::(us++ds)):=.cons rfl (r.append hd)
 have hl:(Value.ref (s.heap.objs.size+1)::us++ds).length=ps.length:=by
  have e:=r2.length;rw [F.len _ _ _ _ hq] at e;exact e.symm
 refine wpAny_call (rg (f:=f) I.kIn M.makes M.init (beq_iff_eq.mp M.fn) (codeAny_mono (F.run _ X.stack _ _ ⟨Value.ref (s.heap.objs.size+1)::us,[]⟩ (Value.ref (s.heap.objs.size+1)::(us++ds)) _ _ (ET σ) (hr.make C us [])
  (I2.env0.make C us []) (hb _ (Value.ref (s.heap.objs.size+1)::us) I2.kIn hl) r2 hq) fun r s' hq'=>?_))
 cases r with
 | error e=>exact hx pins σ _ _ e s' I2 hq'
 | ok fl =>
  cases fl with
  | ret u =>
   obtain ⟨v,H',I3,rv,ev,q3⟩:=I2.after hq';subst ev;exact ⟨rv,⟨V.ref (s.heap.objs.size+1),H',I3,rfl,q3⟩⟩
  | next => exact False.elim hq'
  | brk => exact False.elim hq'
  | cont => exact False.elim hq'
theorem ym (M:Mk X.K C f) (F:aU X.prog X.w X.K X.mg X.base CX k f fd ps sp) (hr:cA (k+1) X.A) (hg:Gl X x) (hm:X.mg x=some (.ref C)) (hb:aN X.K fd ps ds) (hd:a9 dvs ds) (hx:gj CX X ET)
  (ha:PA X (e::es) t) (hdb:(x==("__debug__":Str))=false:=by decide) (he:starEach (e::es) X.env=(false,eval e X.env)::starEach es X.env:=by rfl) (hpl:(backTo pos (starEach es X.env)).any (·.1)=false:=by rfl) :
  PE X (.Call (.Name x p) (e::es) [] pos) (z9 C sp dvs ET t):=by
 intro pins s σ H Q I h;refine wpAny_Call_Name_kw (dX I hg hm ?_ hdb);refine W.callWith_K (h₀:=X.base) I.ok.mod.kin M.kp (thn (ha pos pins s σ H _ I h) fun us s1 ⟨vs,H1,I1,r,q⟩=>⟨I1.kIn,?_⟩) he hpl;exact v3 M F hr hb hd hx I1 r q
end
section
variable {σ:St} {H:Hp} {Q:VK}
theorem yN {sp:Sp} {dvs:List V} {ET:St→XK} {t:TA} (h:t σ H fun vs H1=>sp (vs++dvs) H1 Q (ET σ)):zR sp dvs ET t σ H Q:=h
theorem zg {C:Addr} {m:Str} {sp:Sp} {dvs:List V} {ET:St→XK} {ta:TE} {t:TA} (h:ta σ H fun x H1=>uU C m x H1 (t σ H1 fun vs H2=>sp (x::(vs++dvs)) H2 Q (ET σ))):Ab C m sp dvs ET ta t σ H Q:=h
theorem zf {C:Addr} {sp:Sp} {dvs:List V} {ET:St→XK} {t:TA} (h:t σ H fun vs H1=>∀ x dx,H1 x=none→H1 dx=none→dx≠x →
 sp (.ref x::(vs++dvs)) (upd (upd H1 dx (.own x)) x (.ins C dx [])) (fun v H2=>v=.non∧Q (.ref x) H2) (ET σ)):z9 C sp dvs ET t σ H Q:=h
end
noncomputable abbrev Cx.suite (X:Cx) (e:Addr):Cx:={ X with A:=X.A.mark (some (.ref e)),calm:=false,xe:=fun _ _=>False }
section
variable {X:Cx} {pins:List (Addr×Obj)} {σ:St} {H:Hp} {s:Shared} {e:Addr}
theorem Cx.Ok.suite (ok:X.Ok):(X.suite e).Ok :=
 ⟨ok.mod,ok.kind,ok.glob,ok.blt,ok.above,ok.inj,ok.has,ok.cab,fun z=>Bool.noConfusion z,ok.frames,ok.stk,ok.exf,ok.bs,ok.bsz,ok.noex,ok.exfs,ok.funs,ok.frf⟩
theorem Inv.suite (I:Inv X pins σ H s):Inv (X.suite e) pins σ H s:=⟨I.ok.suite,I.os,I.bare,I.base,I.loc,I.cell,I.free,I.freeC,I.pin,I.hok,I.len⟩
theorem Inv.unsuite (ok:X.Ok) (I:Inv (X.suite e) pins σ H s):Inv X pins σ H s:=⟨ok,I.os,I.bare,I.base,I.loc,I.cell,I.free,I.freeC,I.pin,I.hok,I.len⟩
end
noncomputable def Dh (i:Nat) (D:cU):cU:={ nx:=fun σ H=>D.nx (σ.set i none) H,rt:=D.rt,bk:=fun σ H=>D.bk (σ.set i none) H,ct:=fun σ H=>D.ct (σ.set i none) H }
def Cm (K:W.Frag) (S:Addr) (i:Nat) (ts:TS) (D:cU):St→XK:=fun σ cls xo H1=>∃ C,cls=.ref C∧W.exmOne K (.ref C) (.ref S)=some true∧∀ e,H1 e=none→ts (Dh i D) (σ.set i (some (.ref e))) (upd H1 e (sC e C xo))
def Ez (K:W.Frag) (S:Addr) (i:Nat) (tb:(St→XK)→TS) (ts:TS):TS:=fun D σ H=>tb (Cm K S i ts D) D σ H
theorem jE {X:Cx} {pins:List (Addr×Obj)} {σ:St} {H:Hp} {s:Shared} {M:Model} {A:Around} {E:Value→Shared→Prop} {i:Nat} {n:Str} {pos:Pos} {Q:Unit→Shared→Prop} (I:Inv X pins σ H s) (hN:X.N.Nodup) (hi:X.N[i]?=some n)
  (hk:X.env.kindOf n=some .local) (h:∀ s',Inv X pins (σ.set i none) H s'→Q () s'):wpAny M A (do bindName X.env n .none; unbindBehindTheSuite X.env n pos) Q E s:=by
 obtain ⟨m,hn,hl⟩:=id I.loc;have hcls:(X.env.scope.kind==.class||(X.env.scope.kind==.module&&X.env.locals != X.env.globals))=false:=by rw [I.ok.kind]; rfl
 have cne:=I.cne;refine wpAny_nameGoes_keeps hk hn hcls fun h' v hn' hs=>h _ ?_;obtain ⟨oL,_,_,hoL,_⟩:=id hn;have hk':HOk X.prog X.w H h':=fun b ob e=>by
  refine (I.hok b ob e).stay (fun c w' hc q=>(hs.2 c ?_).trans q) (fun _ q=>q) fun _ _ q=>q;rintro rfl;rcases hc with rfl | hc
  ·rw [I.free] at e; cases e
  ·rw [I.free] at hc; cases hc
 have nL:∀ b o,X.s₀.heap.get? b=some o→b≠X.env.locals:=fun b o e=>Nat.ne_of_lt (Nat.lt_of_lt_of_le (Heap.lt_size e) I.ok.above);refine ⟨I.ok,I.os,I.bare,⟨fun b o e n hb hx=>(hs.2 b (nL b o e)).trans (I.base.keep b o e n hb hx),fun b o e n hb hx=>?_,I.base.free,fun b o e hx=>?_,I.base.tups,I.base.frzs,I.base.tbls⟩,⟨_,hn',fun j y v' e1 e2 e3=>?_⟩,fun y c e=>?_,I.free,I.freeC,fun p hp=>?_,hk',by simpa using I.len⟩
 ·obtain ⟨sl,e1⟩:=I.base.slot b o e n hb hx;exact ⟨sl,(hs.2 b (nL b o e)).trans e1⟩
 ·obtain ⟨o',e1⟩:=I.base.there b o e hx;exact ⟨o',(hs.2 b (nL b o e)).trans e1⟩
 ·by_cases hj:j=i
  ·subst hj;have hiσ:j<σ.length:=by rw [I.len]; exact (List.getElem?_eq_some_iff.mp hi).1
   rw [List.getElem?_set_self hiσ] at e2
   cases e2
  ·rw [List.getElem?_set_ne (Ne.symm hj)] at e2;obtain ⟨u',r',q⟩:=hl j y v' e1 e2 e3;refine ⟨u',r',?_⟩;rcases q with ⟨k,e⟩ | ⟨k,c,e,z⟩
   ·refine .inl ⟨k,?_⟩;have:y≠n:=fun e=>hj (mE hN e1 (e ▸ hi))
    simp [this,e]
   ·exact .inr ⟨k,c,e,z.sameBut hs (cne y c e)⟩
 ·obtain ⟨w',z⟩:=I.cell y c e;exact ⟨w',z.sameBut hs (cne y c e)⟩
 ·obtain ⟨e,n,ne,nf,d⟩:=I.pin p hp;exact ⟨(hs.2 p.1 ne).trans e,n,ne,nf,d⟩
theorem CT {X:Cx} {i:Nat} {n x:Str} {S:Addr} {body suite:List Stmt} {b₀:Stmt} {np hpos pos:Pos} {tb:(St→XK)→TS} {ts:TS} (hN:X.N.Nodup) (hi:X.N[i]?=some n) (hk:X.env.kindOf n=some .local)
  (hg:Gl X x) (hm:X.mg x=some (.ref S)) (hb:∀ pins ET,PSs (X.tryIn pins (XT X pins ET)) body (tb ET)) (hh:∀ e,PSs (X.suite e) (b₀::suite) ts)
  (hs:X.stack=X.env::X.outer:=by rfl) (hf:X.env.frame=some X.env.locals:=by rfl) (hd:(x==("__debug__":Str))=false:=by decide) :
  PS X (.Try body [.ExceptHandler (some (.Name x np)) (some n) (b₀::suite) hpos] [] [] pos) (Ez X.K S i tb ts):=by
 intro pins s σ H D I h;refine wpAny_Try_except (wpAny_mono (hb pins (Cm X.K S i ts D) [] s σ H D (I.tryIn _) h) (fun f s1 q=>?_) (fun y s1 q=>?_))
 ·have q:=q.tryOut
  cases f with
  | next =>
   obtain ⟨σ',H',I',q'⟩:=q;exact aI pins s1 σ' H' D I' q'
  | brk => exact q
  | cont => exact q
  | ret u => exact q
 ·obtain ⟨σ1,e,C,xo,H1,rfl,I1,ex,hp,C',hC,hx',k⟩:=q
  cases hC;obtain ⟨⟨oe,ws,T,oT,tl,g1,g2,g3,g4,g5,g6,g7,g8,g9⟩,ne,hHe,hHT,dc⟩:=ex;have hHT:=hHT oe ws T g1 g3 g4;obtain ⟨a0,h0⟩:∃ a0,ws[0]?=some a0:=by
   have hsz:1<ws.size:=(Array.getElem?_eq_some_iff.mp g4).1;exact ⟨ws[0],by simp [show 0<ws.size by omega]⟩
  have ff:=I1.stack;have hl:=W.funFrames_hide (as:=e::T::frs X.stack) ff (et fun b hb=>List.mem_cons_of_mem _ (List.mem_cons_of_mem _ hb))
  have fl:Heap.FlyingW (W.hideAll s1.heap (e::T::frs X.stack)) (X.env::X.outer) e (.ref C) a0 s1.heap :=
   ⟨fun b o z=>W.of_hideAll _ z,W.hideAll_none _ List.mem_cons_self,hs ▸ hl,⟨oe,ws,T,oT,tl,g1,⟨g2,h0⟩,g3,g4,W.hideAll_none _ (List.mem_cons_of_mem _ List.mem_cons_self),g6,g7,g8,g9⟩⟩
  have stay:∀ h',Heap.StaysIn (W.hideAll s1.heap (e::T::frs X.stack)) h'→s1.heap.UpToSlots h'→Inv X pins σ1 H1 { s1 with heap:=h' }:=fun h' st sm=>by
   refine I1.held (es:=[e,T]) hs hf (fun b hb=>?_) (fun b o z nf nm=>st b o (W.hideAll_get _ z ?_)) fun b o z hb=>?_
   ·simp only [List.mem_cons,List.not_mem_nil,or_false] at hb;rcases hb with rfl | rfl
    ·exact ⟨hHe,ne,fun p hq=>(hp p hq).1,oe,ws,g1,g3⟩
    ·exact ⟨hHT,g5,fun p hq=>(hp p hq).2 oe ws _ g1 g3 g4,oT,tl,g7,g8⟩
   ·intro m;rcases List.mem_cons.mp m with r | m
    ·exact nm (by simp [r])
    ·rcases List.mem_cons.mp m with r | r
     ·exact nm (by simp [r])
     ·exact nf r
   ·obtain ⟨_,o',z',hd'⟩:=ff.mem hb;rw [z] at z'; cases z';exact sm b o z hd'
  refine wpAny_mono (DS.any (jC _ _) (wpAny_looks_onW (Q:=fun _ s2=>∃ h4,s2={ s1 with heap:=h4 }∧Heap.HeldW (W.hideAll s1.heap (e::T::frs X.stack)) (X.env::X.outer) e (.ref C) a0 X.env.locals h4∧s1.heap.UpToSlots h4) (I1.ok.frames.trans (congrArg some hs)) hf fl fun h4 held sm4=>⟨h4,rfl,held,sm4⟩) ⟨oe,g1,rfl⟩) (fun _ s2 ⟨⟨h4,e4,held,sm4⟩,d4⟩=>?_) fun _ _ z=>z;subst e4;refine wpAny_mono (DS.any (gq _ _) (wpAny_landsW (s:={ s1 with heap:=h4 }) (Q:=fun _ s2=>∃ h5,s2={ s1 with heap:=h5 }∧Heap.FlyingW (W.hideAll s1.heap (e::T::frs X.stack)) (X.env::X.outer) e (.ref C) a0 h5∧h4.UpToSlots h5) held fun h5 fl5 sm5=>⟨h5,rfl,fl5,sm5⟩) d4) (fun _ s2 ⟨⟨h5,e5,fl5,sm5⟩,d5⟩=>?_) fun _ _ z=>z;subst e5;have I5:=stay h5 fl5.1 (sm4.trans sm5);refine wpAny_handleBy_cons (codeAny_handlers_test (dX (X:=X.suite e) I5.suite hg hm ?_ hd)) (by intro q; cases q);have LT:PySem.W.Looks (model X.prog X.w) h5 (typeOf (.ref e)) (.ref C):=gK.looks fl5.there;refine (W.exm_one (h:=h5) I5.kIn LT hx').here ?_;refine codeAny_handlers_suite_as ?_;refine wpAny_mono (DS.any (gq _ _) (lands_againW (s:={ s1 with heap:=h5 }) (Q:=fun _ s2=>∃ h6,s2={ s1 with heap:=h6 }∧Heap.FlyingW (W.hideAll s1.heap (e::T::frs X.stack)) (X.env::X.outer) e (.ref C) a0 h6∧h5.UpToSlots h6) fl5 fun h6 fl6 sm6=>⟨h6,rfl,fl6,sm6⟩) d5) (fun _ s2 ⟨⟨h6,e6,fl6,sm6⟩,d6⟩=>?_) fun _ _ z=>z;subst e6;have I6:=stay h6 fl6.1 ((sm4.trans sm5).trans sm6);obtain ⟨oe6,ws6,z1,z2,z3,_⟩:=fl6.first;have dc6:∀ dx,xo=some dx→oe6.dict=some dx:=fun dx z=>by
   obtain ⟨o,y1,y2⟩:=dc dx z;rw [g1] at y1; cases y1;obtain ⟨o,y3,y4⟩:=d6;rw [show ({ s1 with heap:=h6 }:Shared).heap=h6 from rfl,z1] at y3; cases y3;rw [y4,y2]
  have I7:Inv X pins σ1 (upd H1 e (sC e C xo)) { s1 with heap:=h6 }:=I6.track hHe ne (fun p hq=>(hp p hq).1) ⟨oe6,ws6,z1,z3⟩ ⟨oe6,ws6,z1,z2,z3,dc6⟩ fun ha hb ⟨o,vs,p1,p2⟩ kk=>⟨o,vs,kk o p1,p2⟩
  refine eA (X:=X.suite e) (v:=.ref e) I7.suite hN hi (.inl hk) rfl (fun s8 I8=>?_) (.inr hk);refine wpAny_mono (hh e pins s8 _ _ (Dh i D) I8 (k e hHe)) (fun f s9 q=>?_) fun _ _ z=>False.elim z
  show wpAny _ _ _ _ _ _
  cases f with
  | next =>
   obtain ⟨σ',H',I',q'⟩:=q;exact jE (I'.unsuite I.ok) hN hi hk fun s' J=>⟨_,H',J,q'⟩
  | brk =>
   obtain ⟨σ',H',I',q'⟩:=q;exact jE (I'.unsuite I.ok) hN hi hk fun s' J=>⟨_,H',J,q'⟩
  | cont =>
   obtain ⟨σ',H',I',q'⟩:=q;exact jE (I'.unsuite I.ok) hN hi hk fun s' J=>⟨_,H',J,q'⟩
  | ret u =>
   obtain ⟨v,σ',H',I',r,q'⟩:=q;exact jE (I'.unsuite I.ok) hN hi hk fun s' J=>⟨v,_,H',J,r,q'⟩
noncomputable abbrev Cx.quiet (X:Cx):Cx:={ X with calm:=false }
theorem gu {K:W.Frag} {A S:Addr} (bs:W.subIn K (.ref S) (.type "BaseException")=some true) (mo:W.mroIn K S (.type "object")=some true) (ty:W.typeIn K (.ref S)=some (.type "type"))
  (sb:W.subIn K (.ref A) (.ref S)=some true):W.exmOne K (.ref A) (.ref S)=some true:=by
 obtain ⟨cd,hc,_⟩:=Option.bind_eq_some_iff.mp mo;simp only [W.exmOne,W.kitCls];simp [bs,hc,ty,sb]
theorem tK {K:W.Frag} {h:Heap} {mg:Str→Option Value} {x:Str} {C:Addr} {bmB:List Value} {newId:String} (X:K.In h) (hm:mg x=some (.ref C)) (q:W.excIn K C bmB newId=true):OwnCls x C bmB newId mg h:=by
 refine ⟨hm,?_⟩;simp only [W.excIn] at q
 split at q
 case h_2=>cases q
 case h_1 dd cd sl ho =>
  split at q
  case h_2=>cases q
  case h_1 C' bm k0 k1 k2 k3 n k5 hmr hsl =>
   simp only [Bool.and_eq_true,beq_iff_eq,Bool.not_eq_true'] at q;obtain ⟨⟨⟨⟨⟨e1,e2⟩,hdel⟩,ht⟩,hok⟩,hni⟩:=q;subst e1 e2;have hh:=X _ _ ho;obtain ⟨nm,bs,mro,ns,qn,hd,sn,sub,ab,col,del⟩:=cd;simp only at hmr hdel hok hni
   subst hmr hdel;obtain ⟨l⟩:=sl;simp only at hsl
   subst hsl;exact ⟨bm,ns,nm,qn,bs,hd,sn,sub,ab,col,dd,k0,k1,k2,k3,k5,_,hh,.of_isNs (W.isNs_of_in X hok),W.nsMap_none_of_in X hok hni,W.tail_of_in X ht⟩
theorem bS {X:Cx} {E:XK} {x:Str} {C:Addr} {B newId initId:String} {bm:List Value} {np cpos pos:Pos} {e:Expr} {es:List Expr} {t:TA} (hm:X.mg x=some (.ref C)) (q:W.excIn X.K C bm newId=true) (FB:ExcBaseFacts B newId initId bm) (hc:X.calm=true) (hg:Gl X x)
  (hx:∀ (pins:List (Addr×Obj)) (σ:St) (H:Hp) (s:Shared) (h':Heap) (t':Nat) (e:Addr) (vs:List Value),Inv X pins σ H s→Heap.MadeExcOf s.heap h' e (.ref C) vs→E (.ref C) none H→X.xe (.ref e) { s with heap:=h',toks:=t' })
  (ha:PA X (e::es) t) (hd:(x==("__debug__":Str))=false:=by decide) (he:starEach (e::es) X.env=(false,eval e X.env)::starEach es X.env:=by rfl) (hpl:(backTo cpos (starEach es X.env)).any (·.1)=false:=by rfl) :
  PS X (.Raise (some (.Call (.Name x np) (e::es) [] cpos)) none pos) (uj C E t):=fun pins s σ H D I h =>
 yv (tK I.ok.mod.kin hm q) FB hc hg hx ha hd he hpl pins s σ H D I h
theorem zk {C:Addr} {E:XK} {t:TA} {D:cU} {σ:St} {H:Hp} (h:t σ H fun vs H1=>vs.length≤sizeLine∧E (.ref C) none H1):uj C E t D σ H:=h
section
variable {P:Program} {w:World} {K:W.Frag} {mg:Str→Option Value} {base:Heap}
theorem aU.down {k:Nat} {f:Addr} {fd:FuncData} {ps:List Str} {sp sp':Sp} (F:aU P w K mg base (CX1 P w) k f fd ps sp) (h:∀ vs H Q E,sp' vs H Q E→sp vs H Q (fun _ _ _=>False)):aU P w K mg base CX0 k f fd ps sp' :=
 ⟨fun vs H Q E q=>F.len vs H Q _ (h _ _ _ _ q),fun A outer s H args us vs Q E hr e0 hb hv hs=>codeAny_mono (F.run A outer s H args us vs Q _ hr e0 hb hv (h _ _ _ _ hs)) fun r s' hq=>by
  cases r with
  | error e => obtain ⟨_, _, _, _, _, _, _, _, _, _, z⟩ := hq; exact z.elim
  | ok fl => cases fl <;> exact hq⟩
end
theorem Ds {K:W.Frag} {S:Addr} {i:Nat} {tb:(St→XK)→TS} {ts:TS} {D:cU} {σ:St} {H:Hp} (h:tb (Cm K S i ts D) D σ H):Ez K S i tb ts D σ H:=h
theorem C9 {H:Hp} {Q:VK} {a b:Addr} {xs zs:List V} (ha:H a=some (.lst xs)) (hb:H b=some (.lst zs)) (z:xs.length+zs.length≤sizeLine) (q:∀ p,H p=none→Q (.ref p) (upd H p (.lst (xs++zs)))):A3 (.ref a) (.ref b) H Q :=
 ⟨a,b,xs,zs,rfl,rfl,ha,hb,z,q⟩
def SameBut (l:Addr) (H H':Hp):Prop:=∀ b o,H b=some o→b≠l→H' b=some o
theorem ao.but {H H':Hp} (s:ao H H') (l:Addr):SameBut l H H':=fun b o e _=>s b o e
section
variable {K:W.Frag} {σ:St} {H:Hp} {Q:VK} {te:TE} {cap:List (Option Nat)} {l:Addr}
theorem pC {n:Nat} (R:Nat→V→Hp→Prop) (hz:n≤1000) (hl:H l=none) (mono:∀ i v H1 H2,SameBut l H1 H2→R i v H1→R i v H2)
  (step:∀ i o H' (Q':VK),i<n→ao H H'→(∃ ys,H' l=some (.lst ys))→(∀ v H5,ao H' H5→R i v H5→Q' v H5)→te (((gk (none::cap) σ).set 0 o).set 0 (some (.int ((0:Int)+(i:Nat))))) H' Q')
  (fin:∀ ys H',ao H H'→H' l=some (.lst ys)→ys.length=n→(∀ (i:Nat) v,ys[i]?=some v→R i v H')→Q (.ref l) H'):js (Itr 0 n) (d7 0) jZ te (none::cap) l σ H Q:=by
 refine ⟨n,fun i ys σ' H'=>ys.length=i∧(∀ (j:Nat) v,ys[j]?=some v→R j v H')∧(∃ o,σ'=(gk (none::cap) σ).set 0 o)∧ao H H'∧H' l=some (.lst ys),⟨rfl,fun j v e=>by simp at e,⟨none,rfl⟩,ao.new hl,ai⟩,?_,?_⟩
 ·rintro i ys σ' H' hi ⟨ly,hR,⟨o,rfl⟩,s,e⟩;refine ⟨hi,fun x H2 y=>?_⟩;obtain ⟨e2,rfl⟩:=y;subst e2;refine c8 (fF (mw ?_));refine step i o H2 _ hi s ⟨ys,e⟩ fun v H5 s5 r=>⟨s5 _ _ e,aZ (by omega),?_⟩
  have sb:SameBut l H5 (upd H5 l (.lst (ys++[v]))):=fun b u eb hb=>by rw [aw hb]; exact eb
  refine ⟨by rw [List.length_append,ly]; rfl,fun j u ej=>?_,⟨_,List.set_set ..⟩,(s.trans s5).later hl,ai⟩;by_cases hj:j<ys.length
  ·rw [List.getElem?_append_left hj] at ej;exact mono j u _ _ sb (mono j u _ _ (s5.but l) (hR j u ej))
  ·rw [List.getElem?_append_right (by omega)] at ej;have:j=i:=by
    have hh:=(List.getElem?_eq_some_iff.mp ej).1;rw [List.length_singleton] at hh;omega
   subst this;rw [ly,Nat.sub_self] at ej
   cases ej;exact mono j _ _ _ sb r
 ·rintro ys σ' H' ⟨ly,hR,_,s,e⟩;exact ⟨Nat.le_refl _,fin ys H' s e ly hR⟩
end
def Cc (t:TS):TS:=fun D σ H=>∃ J:St→Hp→Prop,t { D with nx:=J } σ H∧∀ σ' H',J σ' H'→D.nx σ' H'
theorem eR {X:Cx} {st:Stmt} {t:TS} (h:PS X st t):PS X st (Cc t):=by
 intro pins s σ H D I ⟨J,h1,h2⟩;refine wpAny_mono (h pins s σ H _ I h1) (fun f s' q=>?_) fun _ _ z=>z
 cases f with
 | next=>obtain ⟨σ',H',J',q⟩:=q; exact ⟨σ',H',J',h2 σ' H' q⟩
 | brk=>exact q
 | cont=>exact q
 | ret u=>exact q
theorem eS {t:TS} {D:cU} {σ:St} {H:Hp} (J:St→Hp→Prop) (h1:t { D with nx:=J } σ H) (h2:∀ σ' H',J σ' H'→D.nx σ' H'):Cc t D σ H:=⟨J,h1,h2⟩
section
variable {prog:Program} {w:World} {A:Around} {E:Value→Shared→Prop} {s:Shared}
theorem vd {I u:Addr} {k:Nat} {its:Array Value} {x:Value} {Q:Value→Shared→Prop} (hI:s.heap.IsTupleIter I u k) (hu:s.heap.IsTuple u its) (hx:its[k]?=some x)
  (hQ:∀ g,g.IsTupleIter I u (k+1)→Heap.SameBut I s.heap g→Q x { s with heap:=g }):wpAny (model prog w) A (Builtin.SmallTypes.nextOf (.ref I)) Q E s:=by
 obtain ⟨oI,eI,cI,dI⟩:=id hI;obtain ⟨ou,eu,_,nu,du⟩:=hu;unfold Builtin.SmallTypes.nextOf;refine wpAny_bind (wpAny_callSpecial?_slot (name:=Str.ofString "__next__") hI.typeIs F.slot_tuple_iterator_next (wpAny_call_entry F.slot_tuple_iterator_next hI.typeIs F.entry_tuple_iterator_next ?_ (F.args_tuple_iterator_next_1 _)))
 show wpAny _ _ (field (.ref I) 0 >>= _) _ _ s
 refine wpAny_bind (wpAny_field eI dI (x:=.ref u) rfl ?_)
 show wpAny _ _ (if (Value.ref u==Value.none)=true then _ else _) _ _ s
 rw [if_neg (show ¬ ((Value.ref u==Value.none)=true) from Bool.false_ne_true)]
 show wpAny _ _ (field (.ref I) 1 >>= _) _ _ s
 refine wpAny_bind (wpAny_field eI dI (x:=.int k 0) rfl ?_)
 show wpAny _ _ (seqItems? (.ref u) >>= _) _ _ s
 refine wpAny_bind (wpAny_seqItems eu du ?_);rw [Int.toNat_natCast]; simp only [hx];refine wpAny_bind (wpAny_setField eI dI (by simp) (wpAny_pure ⟨x,rfl,wpAny_pure (hQ _ ?_ (Heap.SameBut.update ..))⟩));exact ⟨_,Heap.get?_update_self _ eI (Obj.isFreed_of_fields (Obj.data_mapFields dI _)),(Obj.cls_mapFields ..).trans cI,by rw [Obj.data_mapFields dI]; simp [rawInt]⟩
theorem BJ {I u:Addr} {k:Nat} {its:Array Value} {Q:Value→Shared→Prop} (hd0:A.handled=none) (hI:s.heap.IsTupleIter I u k) (hu:s.heap.IsTuple u its) (hx:its[k]?=none)
  (hE:∀ g e,Heap.ExtBut I s.heap g→(∃ o,g.get? e=some o∧o.cls=.type "StopIteration")→E (.ref e) { s with heap:=g }):wpAny (model prog w) A (Builtin.SmallTypes.nextOf (.ref I)) Q E s:=by
 obtain ⟨oI,eI,cI,dI⟩:=id hI;obtain ⟨ou,eu,_,nu,du⟩:=hu;unfold Builtin.SmallTypes.nextOf;refine wpAny_bind (wpAny_callSpecial?_slot (name:=Str.ofString "__next__") hI.typeIs F.slot_tuple_iterator_next (wpAny_call_entry F.slot_tuple_iterator_next hI.typeIs F.entry_tuple_iterator_next ?_ (F.args_tuple_iterator_next_1 _)))
 show wpAny _ _ (field (.ref I) 0 >>= _) _ _ s
 refine wpAny_bind (wpAny_field eI dI (x:=.ref u) rfl ?_)
 show wpAny _ _ (if (Value.ref u==Value.none)=true then _ else _) _ _ s
 rw [if_neg (show ¬ ((Value.ref u==Value.none)=true) from Bool.false_ne_true)]
 show wpAny _ _ (field (.ref I) 1 >>= _) _ _ s
 refine wpAny_bind (wpAny_field eI dI (x:=.int k 0) rfl ?_)
 show wpAny _ _ (seqItems? (.ref u) >>= _) _ _ s
 refine wpAny_bind (wpAny_seqItems eu du ?_);rw [Int.toNat_natCast]; simp only [hx];refine wpAny_bind (wpAny_rule (wpAny_bind (wpAny_setField eI dI (by simp) ?_)))
 show wpAny _ _ (newExc (.type "StopIteration") [] >>= _) _ _ _; refine wpAny_bind ?_
 simp only [newExc,newTuple]; refine wpAny_bind (wpAny_newObj_type ?_ (by size_fits));refine wpAny_bind (m:=firstArgMember _ _) (wpAny_of_eq (a:=Value.none) (by first | rfl | (simp only [firstArgMember]; rfl)) ?_); refine wpAny_newObj_type ?_ (by size_fits);simp only [raiseNew]; refine wpAny_bind (wpAny_handled ?_); rw [show A.in1.handled=none from hd0];refine wpAny_bind (wpAny_pure (wpAny_throw ?_)); exact hE _ _ (((Heap.SameBut.update ..).extBut.push _).push _) ⟨_,Heap.get?_push_size _ rfl,rfl⟩
theorem wH {Z TI TO i j u v:Addr} {k l:Nat} {xs ys:Array Value} {x y a b:Value} {Q:Option Value→Shared→Prop} (D:ZipApart Z TI TO i j u v)
  (eZ:IsZip s.heap Z TI TO .none) (eI:IsPair s.heap TI (.ref i) (.ref j)) (eO:IsPair s.heap TO a b) (ei:s.heap.IsTupleIter i u k) (ej:s.heap.IsTupleIter j v l) (eu:s.heap.IsTuple u xs) (ev:s.heap.IsTuple v ys) (hx:xs[k]?=some x) (hy:ys[l]?=some y)
  (hQ:∀ g,IsZip g Z TI TO (rawInt s.heap.objs.size)→IsPair g TO x y→g.IsTupleIter i u (k+1)→g.IsTupleIter j v (l+1)→IsPair g s.heap.objs.size x y→g.objs.size=s.heap.objs.size+1 →
   (∀ c o,c≠Z→c≠TO→c≠i→c≠j→s.heap.get? c=some o→g.get? c=some o)→Q (some (.ref s.heap.objs.size)) { s with heap:=g }):wpAny (model prog w) A (pyNext (.ref Z)) Q E s:=by
 have hT:s.TypeIs (.ref Z) "zip":=⟨_,eZ,rfl⟩
 unfold pyNext;refine wpAny_bind (wpAny_attempt (wpAny_callSpecial?_slot (name:=Str.ofString "__next__") hT F.slot_zip_next (wpAny_call_entry F.slot_zip_next hT F.entry_zip_next ?_ (F.args_zip_next_1 _))))
 show wpAny _ _ (field (.ref Z) 2 >>= _) _ _ _
 refine wpAny_bind (wpAny_field eZ rfl (x:=.bool false) rfl ?_)
 show wpAny _ _ (field (.ref Z) 3 >>= _) _ _ _
 refine wpAny_bind (wpAny_field eZ rfl (x:=.ref TI) rfl ?_); refine wpAny_bind (wpAny_seqItems eI rfl ?_)
 show wpAny _ _ (Builtin.SmallTypes.ownedTupleIsFree (.ref Z) >>= _) _ _ _
 refine wpAny_bind ?_; unfold Builtin.SmallTypes.ownedTupleIsFree;refine wpAny_bind (wpAny_field eZ rfl (x:=.none) rfl (wpAny_pure ?_)); simp only [if_true];refine wpAny_bind (wpAny_rule ?_); refine wpAny_bind (wpAny_field eZ rfl (x:=.ref TO) rfl ?_);refine wpAny_bind (wpAny_setField_rec eZ (by simp) fun g1 z1 t1=>?_)
 replace z1:IsZip g1 Z TI TO .ellipsis:=z1
 refine wpAny_bind ?_; simp only [List.zipIdx_cons,List.zipIdx_nil,List.forIn_cons,List.forIn_nil]; refine wpAny_bind (wpAny_bind (wpAny_onRaise ?_))
 show wpAny _ _ (Builtin.SmallTypes.nextOf (.ref i) >>= _) _ _ _
 refine wpAny_bind (vd (ei.extBut t1.extBut D.i1z) (eu.extBut t1.extBut D.l1z) hx fun g2 i2 t2=>wpAny_pure ?_);have o2:IsPair g2 TO a b:=t2.extBut _ _ D.TOi1 (t1.extBut _ _ D.TOz eO);refine wpAny_bind (wpAny_seqItems o2 rfl ?_); refine wpAny_bind (wpAny_updateSeq_pair o2 fun g3 o3 t3=>?_)
 replace o3:IsPair g3 TO x b:=o3
 refine wpAny_bind (wpAny_letGo (wpAny_pure ?_)); refine wpAny_bind (wpAny_bind (wpAny_onRaise ?_))
 show wpAny _ _ (Builtin.SmallTypes.nextOf (.ref j) >>= _) _ _ _
 refine wpAny_bind (vd (((ej.extBut t1.extBut D.i2z).extBut t2.extBut D.i12.symm).extBut t3.extBut D.TOi2.symm) (((ev.extBut t1.extBut D.l2z).extBut t2.extBut D.l2i1).extBut t3.extBut D.l2TO) hy fun g4 j4 t4=>wpAny_pure ?_);have o4:IsPair g4 TO x b:=t4.extBut _ _ D.TOi2 o3;refine wpAny_bind (wpAny_seqItems o4 rfl ?_); refine wpAny_bind (wpAny_updateSeq_pair o4 fun g5 o5 t5=>?_)
 replace o5:IsPair g5 TO x y:=o5
 refine wpAny_bind (wpAny_letGo (wpAny_pure (wpAny_pure ?_))); refine wpAny_bind (wpAny_seqItems o5 rfl ?_); refine wpAny_bind (wpAny_newTuple ?_);have sz:g5.objs.size=s.heap.objs.size:=by rw [t5.1,t4.1,t3.1,t2.1,t1.1]
 have z5:IsZip g5 Z TI TO .ellipsis:=t5.extBut _ _ D.TOz.symm (t4.extBut _ _ D.i2z.symm (t3.extBut _ _ D.TOz.symm (t2.extBut _ _ D.i1z.symm z1)));have k5:∀ c o,c≠Z→c≠TO→c≠i→c≠j→s.heap.get? c=some o→g5.get? c=some o:=fun c o c1 c2 c3 c4 q=>t5.extBut _ _ c2 (t4.extBut _ _ c4 (t3.extBut _ _ c2 (t2.extBut _ _ c3 (t1.extBut _ _ c1 q))));have i5:g5.IsTupleIter i u (k+1):=((i2.extBut t3.extBut D.TOi1.symm).extBut t4.extBut D.i12).extBut t5.extBut D.TOi1.symm;have j5:g5.IsTupleIter j v (l+1):=j4.extBut t5.extBut D.TOi2.symm;have lz:Z<g5.objs.size:=Heap.lt_size z5
 show wpAny _ _ (Builtin.SmallTypes.ownedTupleHandOut (.ref Z) (.ref g5.objs.size) >>= _) _ _ _
 refine wpAny_bind ?_; unfold Builtin.SmallTypes.ownedTupleHandOut;have z6:IsZip (g5.push { cls:=.type "tuple",data:=.seq #[x,y] }) Z TI TO .ellipsis:=Heap.get?_push_of_some _ z5;refine wpAny_bind (wpAny_setField_rec z6 (by simp) fun g7 z7 t7=>?_)
 replace z7:IsZip g7 Z TI TO (rawInt g5.objs.size):=z7
 refine wpAny_setField_rec z7 (by simp) fun g8 z8 t8=>?_
 replace z8:IsZip g8 Z TI TO (rawInt g5.objs.size):=z8
 have up:∀ c o,c≠Z→g5.get? c=some o→g8.get? c=some o:=fun c o c1 q=>t8.extBut _ _ c1 (t7.extBut _ _ c1 (Heap.get?_push_of_some _ q));have n8:IsPair g8 g5.objs.size x y:=t8.extBut _ _ (Nat.ne_of_gt lz) (t7.extBut _ _ (Nat.ne_of_gt lz) (Heap.get?_push_size _ rfl));have s8:g8.objs.size=g5.objs.size+1:=by rw [t8.1,t7.1,Heap.size_push]
 rw [sz] at z8 n8 s8;refine wpAny_pure ⟨_,rfl,wpAny_pure ?_⟩;rw [sz];obtain ⟨oi,qi⟩:=i5;obtain ⟨oj,qj⟩:=j5;exact hQ g8 z8 (up _ _ D.TOz o5) ⟨oi,up _ _ D.i1z qi.1,qi.2⟩ ⟨oj,up _ _ D.i2z qj.1,qj.2⟩ n8 s8 fun c o c1 c2 c3 c4 q=>up c o c1 (k5 c o c1 c2 c3 c4 q)
theorem Ap {Z TI TO i j u v:Addr} {k:Nat} {xs:Array Value} {Q:Option Value→Shared→Prop} (hd0:A.handled=none) (D:ZipApart Z TI TO i j u v)
    (eZ:IsZip s.heap Z TI TO .none) (eI:IsPair s.heap TI (.ref i) (.ref j)) (ei:s.heap.IsTupleIter i u k) (eu:s.heap.IsTuple u xs) (hx:xs[k]?=none)
    (hQ:∀ g,(∀ c o,c≠Z→c≠TO→c≠i→c≠j→s.heap.get? c=some o→g.get? c=some o)→Q none { s with heap:=g }):wpAny (model prog w) A (pyNext (.ref Z)) Q E s:=by
  have hT:s.TypeIs (.ref Z) "zip":=⟨_,eZ,rfl⟩
  have body:∀ (E':Value→Shared→Prop) (Q':Fin→Shared→Prop),(∀ g e,(∀ c o,c≠Z→c≠TO→c≠i→c≠j→s.heap.get? c=some o→g.get? c=some o)→(∃ o,g.get? e=some o∧o.cls=.type "StopIteration")→E' (.ref e) { s with heap:=g }) →
      wpAny (model prog w) A.in1 (Builtin.«zip.__next__» ⟨[.ref Z],[]⟩) Q' E' s:=fun E' Q' hE=>by
    show wpAny _ _ (field (.ref Z) 2 >>= _) _ _ _
    refine wpAny_bind (wpAny_field eZ rfl (x:=.bool false) rfl ?_)
    show wpAny _ _ (field (.ref Z) 3 >>= _) _ _ _
    refine wpAny_bind (wpAny_field eZ rfl (x:=.ref TI) rfl ?_); refine wpAny_bind (wpAny_seqItems eI rfl ?_)
    show wpAny _ _ (Builtin.SmallTypes.ownedTupleIsFree (.ref Z) >>= _) _ _ _
    refine wpAny_bind ?_; unfold Builtin.SmallTypes.ownedTupleIsFree;refine wpAny_bind (wpAny_field eZ rfl (x:=.none) rfl (wpAny_pure ?_)); simp only [if_true];refine wpAny_bind (wpAny_rule ?_); refine wpAny_bind (wpAny_field eZ rfl (x:=.ref TO) rfl ?_);refine wpAny_bind (wpAny_setField_rec eZ (by simp) fun g1 z1 t1=>?_)
    replace z1:IsZip g1 Z TI TO .ellipsis:=z1
    refine wpAny_bind ?_; simp only [List.zipIdx_cons,List.zipIdx_nil,List.forIn_cons,List.forIn_nil]; refine wpAny_bind (wpAny_bind (wpAny_onRaise ?_))
    show wpAny _ _ (Builtin.SmallTypes.nextOf (.ref i) >>= _) _ _ _
    refine wpAny_bind (BJ hd0 (ei.extBut t1.extBut D.i1z) (eu.extBut t1.extBut D.l1z) hx fun g2 e t2 he=>?_);obtain ⟨oe,q1,q2⟩:=he;have z2:IsZip g2 Z TI TO .ellipsis:=t2 _ _ D.i1z.symm z1;have ne:e≠Z:=fun q=>by subst q; rw [z2] at q1; cases q1; simp at q2
    refine wpAny_setField_rec z2 (by simp) fun g3 _ t3=>hE g3 e (fun c o c1 _ c3 _ q=>t3.extBut _ _ c1 (t2 _ _ c3 (t1.extBut _ _ c1 q))) ⟨oe,t3.extBut _ _ ne q1,q2⟩
  unfold pyNext;refine wpAny_bind (wpAny_attempt (wpAny_callSpecial?_slot (name:=Str.ofString "__next__") hT F.slot_zip_next (wpAny_call_entry F.slot_zip_next hT F.entry_zip_next (body _ _ fun g e hk he=>?_) (F.args_zip_next_1 _))));obtain ⟨o,q1,q2⟩:=he;exact wpAny_bind (wpAny_isInstance (T:="StopIteration") (b:=true) ⟨o,q1,q2⟩ isSubtype_stop (wpAny_pure (hQ _ hk)))
end
theorem mq {h:Heap} {a:Addr} {its:Array Value} (p:IsTup h a its):h.IsTuple a its:=p
noncomputable def Aw (K:W.Frag) (a b:Addr):It :=
  ⟨fun i H=>∃ xs ys x y,SqT K H a xs∧SqT K H b ys∧xs[i]?=some x∧ys[i]?=some y,
   fun i H v H'=>∃ T,v=.ref T∧H T=none∧∀ xs ys,SqT K H a xs→SqT K H b ys→∃ x y,xs[i]?=some x∧ys[i]?=some y∧H'=upd H T (.tup [x,y]),
   fun i H=>∃ xs ys,SqT K H a xs∧SqT K H b ys∧xs.length≤i⟩
theorem wA {P:Program} {w:World} {K:W.Frag} {elts:List Expr} {kt:Nat} {pt:Pos} {a b n:Addr} (ha:a<n) (hb:b<n) :
    sH P w K (.Tuple elts kt pt) (Aw K a b) [n+4,n+2,n+3,n,n+1] (n+4) (fun i h=>IsZip h (n+4) (n+2) (n+3) .none∧IsPair h (n+2) (.ref n) (.ref (n+1))∧(∃ x y,IsPair h (n+3) x y)∧h.IsTupleIter n a i∧h.IsTupleIter (n+1) b i) where
  mem:=by simp
  obj:=fun i h st c hc=>by
    obtain ⟨z1,z2,⟨x,y,z3⟩,⟨o4,e4,c4,d4⟩,⟨o5,e5,c5,d5⟩⟩:=st;simp only [List.mem_cons,List.not_mem_nil,or_false] at hc;rcases hc with rfl | rfl | rfl | rfl | rfl
    · exact ⟨_,z1,fun v z=>by cases z⟩
    · exact ⟨_,z2,fun v z=>by cases z⟩
    · exact ⟨_,z3,fun v z=>by cases z⟩
    · exact ⟨_,e4,fun v z=>by rw [d4] at z; cases z⟩
    · exact ⟨_,e5,fun v z=>by rw [d5] at z; cases z⟩
  keep:=fun i h h' st k=>by
    obtain ⟨z1,z2,⟨x,y,z3⟩,z4,z5⟩:=st;exact ⟨k _ (by simp) _ z1,k _ (by simp) _ z2,⟨x,y,k _ (by simp) _ z3⟩,z4.at fun o e=>k _ (by simp) o e,z5.at fun o e=>k _ (by simp) o e⟩
  item:=by
    intro X hP hw hK hc i pins s σ H E I hf st hg;subst hP hw hK;obtain ⟨xs,ys,x,y,hqa,hqb,hx,hy⟩:=hg;obtain ⟨its,rv,p,hz⟩:=I.tuple hqa;obtain ⟨jts,rw',p',hz'⟩:=I.tuple hqb;obtain ⟨u,hu,ru⟩:=rv.get hx;obtain ⟨u',hu',ru'⟩:=rw'.get hy;obtain ⟨z1,z2,⟨x0,y0,z3⟩,z4,z5⟩:=st;have D:ZipApart (n+4) (n+2) (n+3) n (n+1) a b:=PyProof.Rows.zipApart_new ha hb;have ltz:n+4<s.heap.objs.size:=Heap.lt_size z1;refine wH D z1 z2 z3 z4 z5 (mq p) (mq p') (x:=u) (y:=u') (by simpa using hu) (by simpa using hu') fun h' a1 a2 a3 a4 a5 a6 hk=>?_;refine ⟨_,rfl,wpAny_letOwnedTupleGo_zip (s:={ s with heap:=h' }) a1 fun h2 b1 hs=>?_⟩;have neT:∀ {c:Addr},c≤n+4→c≠s.heap.objs.size:=fun h=>Nat.ne_of_lt (Nat.lt_of_le_of_lt h ltz);have kk:∀ c o,c∉[n+4,n+3,n,n+1]→s.heap.get? c=some o→h2.get? c=some o:=fun c o hc e=>by
      simp only [List.mem_cons,List.not_mem_nil,or_false,not_or] at hc;exact (hs.2 c hc.1).trans (hk c o hc.1 hc.2.1 hc.2.2.1 hc.2.2.2 e)
    have q2:h2.get? (n+2)=_:=kk _ _ (by simp only [List.mem_cons,List.not_mem_nil,or_false,not_or]; exact ⟨D.TIz,D.TITO,D.TIi1,D.TIi2⟩) z2;have q3:h2.get? (n+3)=_:=(hs.2 _ D.TOz).trans a2;obtain ⟨o4,e4,c4⟩:=a3;obtain ⟨o5,e5,c5⟩:=a4;have q4:h2.get? n=_:=(hs.2 _ D.i1z).trans e4;have q5:h2.get? (n+1)=_:=(hs.2 _ D.i2z).trans e5;have qT:h2.get? s.heap.objs.size=_:=(hs.2 _ (Ne.symm (neT (Nat.le_refl _)))).trans a5;have sub:∀ c∈[n+4,n+3,n,n+1],c∈[n+4,n+2,n+3,n,n+1]:=fun c hc=>by
      simp only [List.mem_cons,List.not_mem_nil,or_false] at hc ⊢;rcases hc with e | e | e | e
      · exact .inl e
      · exact .inr (.inr (.inl e))
      · exact .inr (.inr (.inr (.inl e)))
      · exact .inr (.inr (.inr (.inr e)))
    have I1:Inv X pins σ (upd H s.heap.objs.size (.tup [x,y])) { s with heap:=h2,toks:=s.toks }:=I.turnedL (ch:=[n+4,n+3,n,n+1]) kk (fun c hc=>hf c (sub c hc)) (fun c hc=>by
        simp only [List.mem_cons,List.not_mem_nil,or_false] at hc;rcases hc with rfl | rfl | rfl | rfl
        · exact ⟨_,b1⟩
        · exact ⟨_,q3⟩
        · exact ⟨_,q4⟩
        · exact ⟨_,q5⟩) (Nat.le_refl _) ⟨by show 2≤sizeLine; decide,[u,u'],.cons ru (.cons ru' .nil),_,qT,rfl,_,rfl⟩
    refine ⟨.ref s.heap.objs.size,_,I1,rfl,⟨_,rfl,I.hok.fresh (Nat.le_refl _),fun vs ws hv hw=>?_⟩,⟨b1,q2,⟨_,_,q3⟩,⟨_,q4,c4⟩,⟨_,q5,c5⟩⟩,fun c hc=>?_⟩
    · rw [I.tuple_inj hv hqa,I.tuple_inj hw hqb]
      exact ⟨x,y,hx,hy,rfl⟩
    · have hle:c≤n+4:=by
        simp only [List.mem_cons,List.not_mem_nil,or_false] at hc;rcases hc with rfl | rfl | rfl | rfl | rfl
        · exact Nat.le_refl _
        · exact Nat.le_add_right (n+2) 2
        · exact Nat.le_add_right (n+3) 1
        · exact Nat.le_add_right _ 4
        · exact Nat.le_add_right (n+1) 3
      rw [aw (neT hle)];exact (hf c hc).1
  done:=by
    intro X hP hw hK hc i pins s σ H E I hf st hg;subst hP hw hK;obtain ⟨xs,ys,hqa,hqb,hl⟩:=hg;obtain ⟨its,rv,p,hz⟩:=I.tuple hqa;obtain ⟨jts,rw',p',hz'⟩:=I.tuple hqb;obtain ⟨z1,z2,⟨x0,y0,z3⟩,z4,z5⟩:=st;have D:ZipApart (n+4) (n+2) (n+3) n (n+1) a b:=PyProof.Rows.zipApart_new ha hb;have l1:=rv.length;have l2:=rw'.length;refine Ap (I.ok.hd hc) D z1 z2 z4 (mq p) ?_ fun h' hk=>⟨rfl,?_⟩
    · simp; omega
    · have fp:∀ c∈[n+4,n+3,n,n+1],iI X pins H c:=fun c hc=>hf c (by
        simp only [List.mem_cons,List.not_mem_nil,or_false] at hc ⊢;rcases hc with e | e | e | e
        · exact .inl e
        · exact .inr (.inr (.inl e))
        · exact .inr (.inr (.inr (.inl e)))
        · exact .inr (.inr (.inr (.inr e))))
      have kk:∀ c o,c∉[n+4,n+3,n,n+1]→s.heap.get? c=some o→h'.get? c=some o:=fun c o hc e=>by
        simp only [List.mem_cons,List.not_mem_nil,or_false,not_or] at hc;exact hk c o hc.1 hc.2.1 hc.2.2.1 hc.2.2.2 e
      have nit:∀ c u,H c=some u→c∉[n+4,n+3,n,n+1]:=fun c u e z=>by rw [(fp c z).1] at e; cases e
      refine I.step (g':=s.gens) (d':=s.drawn) (t':=s.toks) (ch:=[n+4,n+3,n,n+1]) (fun c hc=>⟨(fp c hc).2.2.2.1,(fp c hc).2.1,(fp c hc).2.2.2.2.1,(fp c hc).2.2.2.2.2⟩) (fun c o _ _ hc e _=>kk c o hc e) (fun c o _ _ hc e _=>⟨o.slots,kk c o hc e⟩) (fun _ _ _ _ n=>n)
        (fun c o hc e=>⟨o,kk c o hc e⟩) (fun _ _ e=>e) (fun _ _ _ e=>e) (fun _ ps e=>⟨#[],by rw [e]; simp⟩) (fun m hm=>?_) (fun c u e=>?_) I.bare
      · obtain ⟨ob,es,ep,ho,r⟩:=hm
        exact ⟨ob,es,ep,kk _ ob (fun z=>(fp _ z).2.1 rfl) ho,r⟩
      · refine (I.hok c u e).stay (fun d v hd q=>kk d v ?_ q) (fun _ e'=>e') fun _ _ e'=>e'
        rcases hd with z | z
        · rw [z]; exact nit c u e
        · exact nit d _ z
  self:=fun _ _ _ _ _ st h=>wpAny_pyIter_zip st.1 h
section
variable {prog:Program} {w:World} {A:Around} {E:Value→Shared→Prop} {s:Shared}
noncomputable abbrev zT1 (h:Heap) (u:Addr):Heap:=h.push { cls:=.type "tuple_iterator",data:=.fields #[.ref u,.int 0 0] }
noncomputable abbrev zT2 (h:Heap) (u v:Addr):Heap:=(zT1 h u).push { cls:=.type "tuple_iterator",data:=.fields #[.ref v,.int 0 0] }
noncomputable abbrev zT3 (h:Heap) (u v:Addr):Heap:=(zT2 h u v).push { cls:=.type "tuple",data:=.seq #[.ref h.objs.size,.ref (zT1 h u).objs.size] }
noncomputable abbrev zT4 (h:Heap) (u v:Addr):Heap:=(zT3 h u v).push { cls:=.type "tuple",data:=.seq #[.none,.none] }
noncomputable abbrev zT5 (h:Heap) (u v:Addr):Heap:=(zT4 h u v).push { cls:=.type "zip",data:=.fields #[.none,.bool false,.bool false,.ref (zT2 h u v).objs.size,.ref (zT3 h u v).objs.size] }
theorem Aq (u v:Addr) (xs ys:Array Value):Meets (Builtin.«zip.__new__» ⟨[.type "zip",.ref u,.ref v],[]⟩) (fun _ R s=>s.heap.IsTuple u xs∧s.heap.IsTuple v ys∧R (.ok (.ret (.ref (zT4 s.heap u v).objs.size))) { s with heap:=zT5 s.heap u v }) :=
 .of_wp fun prog w A R s h=>by
  obtain ⟨hp,g,d,tk,os⟩:=s; obtain ⟨t1,t2,q⟩:=h;have sz:=sub_zip;have L1:Heap.IsTuple (Shared.heap ⟨hp,g,d,tk,os⟩) u xs:=t1;have L2:Heap.IsTuple (Shared.heap ⟨hp.push { cls:=.type "tuple_iterator",data:=.fields #[.ref u,.int 0 0] },g,d,tk,os⟩) v ys:=Heap.IsTuple.push t2 _
  wp_walk using wpAny_pyIter_tuple L1,wpAny_pyIter_tuple L2
  exact ⟨_,rfl,q⟩
theorem wG {u v:Addr} {xs ys:Array Value} {Q:Value→Shared→Prop} (t1:s.heap.IsTuple u xs) (t2:s.heap.IsTuple v ys)
  (q:∀ g,IsZip g (s.heap.objs.size+4) (s.heap.objs.size+2) (s.heap.objs.size+3) .none→IsPair g (s.heap.objs.size+2) (.ref s.heap.objs.size) (.ref (s.heap.objs.size+1))→IsPair g (s.heap.objs.size+3) .none .none →
   g.IsTupleIter s.heap.objs.size u 0→g.IsTupleIter (s.heap.objs.size+1) v 0→(∀ c o,s.heap.get? c=some o→g.get? c=some o)→Q (.ref (s.heap.objs.size+4)) { s with heap:=g }) :
  wpAny (model prog w) A (call (.type "zip") [.ref u,.ref v]) Q E s:=by
 refine callType_new F.called_zip (by decide) (F.typeCall_zip_2 _ _) (F.newCall_zip_2 _ _) (fun obj=>F.args_object_init_3 obj _ _) F.entry_zip_new (Aq u v xs ys) ⟨t1,t2,?_⟩;have y1:(zT1 s.heap u).objs.size=s.heap.objs.size+1:=Heap.size_push ..;have y2:(zT2 s.heap u v).objs.size=s.heap.objs.size+2:=by rw [Heap.size_push,y1]
 have y3:(zT3 s.heap u v).objs.size=s.heap.objs.size+3:=by rw [Heap.size_push,y2]
 have y4:(zT4 s.heap u v).objs.size=s.heap.objs.size+4:=by rw [Heap.size_push,y3]
 have k5:(zT5 s.heap u v).get? (zT4 s.heap u v).objs.size=some _:=Heap.get?_push_size _ rfl;have k4:(zT5 s.heap u v).get? (zT3 s.heap u v).objs.size=some _:=Heap.get?_push_of_some _ (Heap.get?_push_size _ rfl);have k3:(zT5 s.heap u v).get? (zT2 s.heap u v).objs.size=some _:=Heap.get?_push_of_some _ (Heap.get?_push_of_some _ (Heap.get?_push_size _ rfl));have k2:(zT5 s.heap u v).get? (zT1 s.heap u).objs.size=some _:=Heap.get?_push_of_some _ (Heap.get?_push_of_some _ (Heap.get?_push_of_some _ (Heap.get?_push_size _ rfl)));have k1:(zT5 s.heap u v).get? s.heap.objs.size=some _:=Heap.get?_push_of_some _ (Heap.get?_push_of_some _ (Heap.get?_push_of_some _ (Heap.get?_push_of_some _ (Heap.get?_push_size _ rfl))))
 show _∧_
 rw [y2,y3,y4] at k5;rw [y1,y2] at k3;rw [y3] at k4;rw [y1] at k2;refine ⟨by rw [y4]; exact ⟨_,k5,rfl⟩,?_⟩;rw [y4];exact q _ k5 k3 k4 ⟨_,k1,rfl,rfl⟩ ⟨_,k2,rfl,rfl⟩ fun c o z=>Heap.get?_push_of_some _ (Heap.get?_push_of_some _ (Heap.get?_push_of_some _ (Heap.get?_push_of_some _ (Heap.get?_push_of_some _ z))))
end
section
variable {X:Cx} {elts:List Expr} {kt:Nat} {pt:Pos}
def BU (K:W.Frag) (ta:TA):TI:=fun σ H R=>ta σ H fun vs H1=>∃ a b,vs=[.ref a,.ref b]∧(((∃ xs,SqL K H1 a xs)∧(∃ ys,SqL K H1 b ys)∧R (Itz K a b) H1)∨((∃ xs,SqT K H1 a xs)∧(∃ ys,SqT K H1 b ys)∧R (Aw K a b) H1))
theorem AZ {a b:Expr} {ta:TA} {p pos:Pos} (hg:Gl X "zip") (hm:X.mg "zip"=none) (ha:PA X [a,b] ta) (hs:starEach [a,b] X.env=[(false,eval a X.env),(false,eval b X.env)]:=by rfl) (hs2:starEach [b] X.env=[(false,eval b X.env)]:=by rfl) :
  PI X (.Tuple elts kt pt) (.Call (.Name "zip" p) [a,b] [] pos) (BU X.K ta):=by
 intro pins s σ H R I h;refine Call_ (mC I hg hm (by rfl:bootBuiltins "zip"=some (.type "zip")) (PyProof.Rows.callWith_type1 (thn (ha pos pins s σ H _ I h) fun us s1 ⟨vs,H1,I1,r1,q1⟩=>?_) (by rw [hs,hs2]) (by rw [hs2]; rfl)));obtain ⟨a,b,e,q⟩:=q1;subst e;obtain ⟨u,v,rfl,ru,rv⟩:=r1.two
 cases (show u=Value.ref a from ru)
 cases (show v=Value.ref b from rv)
 rcases q with ⟨⟨xs,ha⟩,⟨ys,hb⟩,q⟩ | ⟨⟨xs,ha⟩,⟨ys,hb⟩,q⟩
 ·obtain ⟨its,_,p1,_⟩:=I1.list ha;obtain ⟨jts,_,p2,_⟩:=I1.list hb;have l1:a<s1.heap.objs.size:=let ⟨o,ho,_⟩:=p1.isList; Heap.lt_size ho;have l2:b<s1.heap.objs.size:=let ⟨o,ho,_⟩:=p2.isList; Heap.lt_size ho;refine call_zip_2 p1.isList p2.isList fun h' hz hTI hTO h1 h2 hsz hk=>wpAny_pyIter_zip (s:={ s1 with heap:=h' }) hz ?_;refine ⟨s1.heap.objs.size+4,_,_,_,H1,rfl,I1.kept (t':=s1.toks) hk,Ai l1 l2,⟨hz,hTI,⟨_,_,hTO⟩,h1,h2⟩,fun c hc=>?_,q⟩
  have hle:s1.heap.objs.size≤c:=by
   simp only [List.mem_cons,List.not_mem_nil,or_false] at hc;rcases hc with rfl | rfl | rfl | rfl | rfl
   ·exact Nat.le_add_right _ _
   ·exact Nat.le_add_right _ _
   ·exact Nat.le_add_right _ _
   ·exact Nat.le_refl _
   ·exact Nat.le_add_right _ _
  exact I1.fpOk hle (I1.hok.fresh hle)
 ·obtain ⟨its,_,p1,_⟩:=I1.tuple ha;obtain ⟨jts,_,p2,_⟩:=I1.tuple hb;have l1:a<s1.heap.objs.size:=let ⟨o,ho,_⟩:=mq p1; Heap.lt_size ho;have l2:b<s1.heap.objs.size:=let ⟨o,ho,_⟩:=mq p2; Heap.lt_size ho;refine wG (mq p1) (mq p2) fun h' hz hTI hTO h1 h2 hk=>wpAny_pyIter_zip (s:={ s1 with heap:=h' }) hz ?_;refine ⟨s1.heap.objs.size+4,_,_,_,H1,rfl,I1.kept (t':=s1.toks) hk,wA l1 l2,⟨hz,hTI,⟨_,_,hTO⟩,h1,h2⟩,fun c hc=>?_,q⟩
  have hle:s1.heap.objs.size≤c:=by
   simp only [List.mem_cons,List.not_mem_nil,or_false] at hc;rcases hc with rfl | rfl | rfl | rfl | rfl
   ·exact Nat.le_add_right _ _
   ·exact Nat.le_add_right _ _
   ·exact Nat.le_add_right _ _
   ·exact Nat.le_refl _
   ·exact Nat.le_add_right _ _
  exact I1.fpOk hle (I1.hok.fresh hle)
end
theorem zb {K:W.Frag} {σ:St} {H:Hp} {ta:TA} {R:It→Hp→Prop} (h:ta σ H fun vs H1=>∃ a b,vs=[.ref a,.ref b]∧(((∃ xs,SqL K H1 a xs)∧(∃ ys,SqL K H1 b ys)∧R (Itz K a b) H1)∨((∃ xs,SqT K H1 a xs)∧(∃ ys,SqT K H1 b ys)∧R (Aw K a b) H1))):BU K ta σ H R:=h
theorem sJ {K:W.Frag} {σ:St} {H:Hp} {Q:VK} {te:TE} {l a b:Addr} {xs ys:List V} (F:Nat→V) (hx:H a=some (.tup xs)) (hy:H b=some (.tup ys)) (he:xs.length=ys.length) (hz:xs.length≤1000) (hl:H l=none)
  (step:∀ (i:Nat) x y H' (Q':VK),xs[i]?=some x→ys[i]?=some y→ao H H'→(∀ H5,ao H' H5→Q' (F i) H5)→te [some x,some y] H' Q')
  (fin:∀ H',ao H H'→H' l=some (.lst ((List.range xs.length).map F))→Q (.ref l) H'):js (Aw K a b) (vz K 2 (kT (d7 0) (kT (d7 1) xn))) jZ te [none,none] l σ H Q:=by
 refine ⟨xs.length,fun i zs σ' H'=>zs=(List.range i).map F∧(∃ o o',σ'=[o,o'])∧ao H H'∧H' l=some (.lst zs),⟨rfl,⟨none,none,rfl⟩,ao.new hl,ai⟩,?_,?_⟩
 ·rintro i zs σ' H' hi ⟨rfl,⟨o,o',rfl⟩,s,e⟩;refine ⟨⟨xs,ys,xs[i],ys[i]'(by omega),SqT.of (s _ _ hx),SqT.of (s _ _ hy),by simp [hi],by simp⟩,fun v H2 z=>?_⟩;obtain ⟨T,rfl,hT,z⟩:=z;obtain ⟨x,y,ex,ey,rfl⟩:=z xs ys (SqT.of (s _ _ hx)) (SqT.of (s _ _ hy));have sT:=ao.new (o:=HO.tup [x,y]) hT;refine fD ai rfl (eY (c8 (eY (c8 (lL (fF (mw ?_)))))));refine step i x y _ _ ex ey (s.trans sT) fun H5 s5=>⟨s5 _ _ (sT _ _ e),?_,?_⟩
  ·rw [List.length_map,List.length_range];exact aZ (by omega)
  ·refine ⟨?_,⟨_,_,rfl⟩,((s.trans sT).trans s5).later hl,ai⟩;rw [List.range_succ,List.map_append];rfl
 ·rintro zs σ' H' ⟨rfl,_,s,e⟩;exact ⟨⟨xs,ys,SqT.of (s _ _ hx),SqT.of (s _ _ hy),Nat.le_refl _⟩,fin H' s e⟩
theorem sL {xs:List V} {k:Nat}:bN xs none (some (k:Int))=xs.take k:=by
 unfold bN;rw [HT.jR,HT.lO,List.drop_zero,Nat.sub_zero];rcases Nat.le_total k xs.length with h | h
 ·rw [Nat.min_eq_left h]
 ·rw [Nat.min_eq_right h,List.take_of_length_le (Nat.le_refl _),List.take_of_length_le h]
theorem lZ {xs:List V} {k:Nat}:bN xs (some (k:Int)) none=xs.drop k:=by
 unfold bN;rw [HT.jR,HT.lO];rcases Nat.le_total k xs.length with h | h
 ·rw [Nat.min_eq_left h,List.take_of_length_le (by rw [List.length_drop]; omega)]
 ·rw [Nat.min_eq_right h,List.drop_eq_nil_of_le h,Nat.sub_self,List.take_zero]
end L2
open PySem PySem.Spec PyProof.Rows
namespace L2
theorem aH {X:Cx} {s:Stmt} {ss:List Stmt} {r:TS} {C:TS→Prop} (d:PS X s r) (k:∀ r',r'=r→∃ ts,PSs X ss ts∧C (BH r' ts)):∃ ts,PSs X (s::ss) ts∧C ts :=
 let ⟨_,h1,h2⟩:=k r rfl
 ⟨_,aK d h1,h2⟩
theorem cS {X:Cx} {s:Stmt} {r:TS} {C:TS→Prop} (d:PS X s r) (k:∀ r',r'=r→C r'):∃ ts,PSs X [s] ts∧C ts:=⟨_,ak d,k r rfl⟩
theorem Dc {r r':TS} {D:cU} {σ:St} {H:Hp} (e:r'=r) (h:r D σ H):r' D σ H:=e ▸ h
theorem Bu {t u:TS} {D:cU} {σ:St} {H:Hp} (k:∀ u',u'=u→t { D with nx:=u' D } σ H):BH t u D σ H:=k u rfl
theorem EU {us:List Value} (h:us.length=1):∃ a0,us=[a0]:=match us,h with | [a0],_=>⟨a0,rfl⟩
theorem EV {us:List Value} (h:us.length=2):∃ a0 a1,us=[a0,a1]:=match us,h with | [a0,a1],_=>⟨a0,a1,rfl⟩
theorem EW {us:List Value} (h:us.length=3):∃ a0 a1 a2,us=[a0,a1,a2]:=match us,h with | [a0,a1,a2],_=>⟨a0,a1,a2,rfl⟩
theorem EX {us:List Value} (h:us.length=4):∃ a0 a1 a2 a3,us=[a0,a1,a2,a3]:=match us,h with | [a0,a1,a2,a3],_=>⟨a0,a1,a2,a3,rfl⟩
section
variable {κ:Type} [DecidableEq κ]
noncomputable def a8 (kvs:List (κ×V)) (k:κ):Option V:=(kvs.find? fun kv=>decide (kv.1=k)).map (·.2)
noncomputable def bO (kvs:List (κ×V)) (k:κ) (v:V):List (κ×V) :=
 if (kvs.any fun kv=>decide (kv.1=k))=true then kvs.map (fun kv=>if kv.1=k then (kv.1,v) else kv) else kvs++[(k,v)]
noncomputable def eL (kvs:List (κ×V)) (k:κ):List (κ×V):=kvs.filter fun kv=>decide (kv.1≠k)
theorem ck {p:κ×V} {r:List (κ×V)} {k:κ} (e:p.1=k):a8 (p::r) k=some p.2:=by simp [a8,List.find?_cons,e]
theorem cj {p:κ×V} {r:List (κ×V)} {k:κ} (e:¬ p.1=k):a8 (p::r) k=a8 r k:=by simp [a8,List.find?_cons,e]
theorem gg (k:κ):∀ kvs:List (κ×V),(kvs.any fun kv=>decide (kv.1=k))=(a8 kvs k).isSome
 | []=>rfl
 | p::r=>by
  rw [List.any_cons];by_cases e:p.1=k
  ·simp only [ck e,decide_eq_true e,Bool.true_or,Option.isSome_some]
  ·rw [cj e,decide_eq_false e,Bool.false_or]; exact gg k r
theorem sj (k j:κ) (y:V):∀ kvs:List (κ×V),a8 (kvs.map fun kv=>if kv.1=k then (kv.1,y) else kv) j=(a8 kvs j).map fun x=>if j=k then y else x
 | []=>rfl
 | p::r=>by
  have ih:=sj k j y r;rw [List.map_cons];by_cases h:p.1=k
  ·rw [if_pos h];by_cases e:p.1=j
   ·rw [ck (p:=(p.1,y)) e,ck e,Option.map_some,if_pos (e.symm.trans h)]
   ·rw [cj (p:=(p.1,y)) e,cj e,ih]
  ·rw [if_neg h];by_cases e:p.1=j
   ·rw [ck (p:=p) e,ck e,Option.map_some,if_neg (fun z=>h (e.trans z))]
   ·rw [cj (p:=p) e,cj e,ih]
theorem iH (k j:κ) (y:V):∀ kvs:List (κ×V),a8 kvs k=none→a8 (kvs++[(k,y)]) j=if j=k then some y else a8 kvs j
 | [],_=>by
  by_cases e:k=j
  ·rw [if_pos e.symm]; exact ck (p:=(k,y)) e
  ·rw [if_neg (fun z=>e z.symm)]; exact cj (p:=(k,y)) e
 | p::r,hn=>by
  rw [List.cons_append];have hk:¬ p.1=k:=fun z=>by rw [ck z] at hn; cases hn
  rw [cj hk] at hn;have ih:=iH k j y r hn;by_cases e:p.1=j
  ·rw [ck e,ck e,if_neg (fun z=>hk (e.trans z))]
  ·rw [cj e,cj e,ih]
theorem cK (kvs:List (κ×V)) (k j:κ) (y:V):a8 (bO kvs k y) j=if j=k then some y else a8 kvs j:=by
 unfold bO;by_cases a:(kvs.any fun kv=>decide (kv.1=k))=true
 ·rw [if_pos a,sj];rw [gg] at a;by_cases e:j=k
  ·obtain ⟨x,hx⟩:=Option.isSome_iff_exists.mp a;rw [if_pos e,e,hx,Option.map_some,if_pos rfl]
  ·rw [if_neg e]
   cases a8 kvs j with
   | none=>rfl
   | some x=>rw [Option.map_some,if_neg e]
 ·rw [if_neg a];refine iH k j y kvs ?_;rw [gg] at a
  cases q:a8 kvs k with
  | none => rfl
  | some x => rw [q] at a; exact (a rfl).elim
theorem dj (kvs:List (κ×V)) (k:κ) (v:V):(bO kvs k v).length≤kvs.length+1:=by
 unfold bO
 split
 ·rw [List.length_map]; omega
 ·rw [List.length_append,List.length_cons,List.length_nil]; omega
theorem fY {kvs:List (κ×V)} {k:κ} (v:V) (h:a8 kvs k=none):bO kvs k v=kvs++[(k,v)]:=by
 unfold bO;rw [gg,h];exact if_neg (by decide)
theorem fj.isSome_eq {o:Option V} {u:Option Value} (r:fj o u):o.isSome=u.isSome:=by
 cases o with
 | none=>cases u with
  | none => rfl
  | some _ => exact (show False from r).elim
 | some _=>cases u with
  | none => exact (show False from r).elim
  | some _ => rfl
theorem fj.getD {o:Option V} {u:Option Value} {d:V} {d':Value} (r:fj o u) (rd:a7 d d'):a7 (o.getD d) (u.getD d'):=by
 cases o with
 | none=>cases u with
  | none => exact rd
  | some _ => exact (show False from r).elim
 | some _=>cases u with
  | none => exact (show False from r).elim
  | some _ => exact r
theorem KV.val {kvs:List (κ×V)} {vs:List (κ×Value)} (r:KV kvs vs) (k:κ):fj (a8 kvs k) (valueAt vs k):=by
 unfold KV at r
 induction r with
 | nil=>exact True.intro
 | @cons p q ps qs h t ih =>
  obtain ⟨h1,h2⟩:=h;by_cases e:p.1=k
  ·have e':q.1=k:=h1.symm.trans e;have b:valueAt (q::qs) k=some q.2:=by simp [valueAt,List.find?_cons,e']
   rw [ck e,b]; exact h2
  ·have e':¬ q.1=k:=fun z=>e (h1.trans z);have b:valueAt (q::qs) k=valueAt qs k:=by simp [valueAt,List.find?_cons,e']
   rw [cj e,b]; exact ih
theorem KV.any {kvs:List (κ×V)} {vs:List (κ×Value)} (r:KV kvs vs) (k:κ):(kvs.any fun kv=>decide (kv.1=k))=vs.any fun kv=>decide (kv.1=k):=by
 unfold KV at r
 induction r with
 | nil=>rfl
 | cons h t ih=>rw [List.any_cons,List.any_cons,ih,h.1]
theorem KV.repl {kvs:List (κ×V)} {vs:List (κ×Value)} (r:KV kvs vs) (k:κ) {y:V} {u:Value} (ry:a7 y u) :
  KV (kvs.map fun kv=>if kv.1=k then (kv.1,y) else kv) (vs.map fun kv=>if kv.1=k then (kv.1,u) else kv):=by
 unfold KV at r ⊢
 induction r with
 | nil=>exact .nil
 | @cons p q ps qs h t ih =>
  rw [List.map_cons,List.map_cons];refine .cons ?_ ih;obtain ⟨h1,h2⟩:=h;by_cases e:p.1=k
  ·rw [if_pos e,if_pos (h1.symm.trans e)]; exact ⟨h1,ry⟩
  ·rw [if_neg e,if_neg (fun z=>e (h1.trans z))]; exact ⟨h1,h2⟩
theorem KV.put {kvs:List (κ×V)} {vs:List (κ×Value)} (r:KV kvs vs) (k:κ) {y:V} {u:Value} (ry:a7 y u):KV (bO kvs k y) (stored vs k u):=by
 unfold bO stored;rw [r.any k];by_cases e:(vs.any fun kv=>decide (kv.1=k))=true
 ·rw [if_pos e,if_pos e]; exact r.repl k ry
 ·rw [if_neg e,if_neg e]; exact Paired.snoc r ⟨rfl,ry⟩
theorem KV.drop {kvs:List (κ×V)} {vs:List (κ×Value)} (r:KV kvs vs) (k:κ):KV (eL kvs k) (without vs k):=by
 unfold KV at r ⊢;unfold eL without
 induction r with
 | nil=>exact .nil
 | @cons p q ps qs h t ih =>
  obtain ⟨h1,h2⟩:=h;rw [List.filter_cons,List.filter_cons];by_cases e:p.1=k
  ·have a:¬ decide (p.1≠k)=true:=by simp [e]
   have b:¬ decide (q.1≠k)=true:=by simp [h1.symm.trans e]
   rw [if_neg a,if_neg b]; exact ih
  ·have e':¬ q.1=k:=fun z=>e (h1.trans z);have a:decide (p.1≠k)=true:=by simp [e]
   have b:decide (q.1≠k)=true:=by simp [e']
   rw [if_pos a,if_pos b]; exact .cons ⟨h1,h2⟩ ih
theorem KV.length {kvs:List (κ×V)} {vs:List (κ×Value)} (r:KV kvs vs):kvs.length=vs.length:=Paired.length r
theorem wX (kvs:List (κ×V)) (k:κ):(eL kvs k).length≤kvs.length:=List.length_filter_le _ _
end
theorem kU {P:Program} {w:World} {k:Key} {u:Value} (r:a7 (kV k) u):(bw P w).is k u=true:=by
 cases k with
 | inl i=>obtain ⟨t,e⟩:=(show ∃ t,u=Value.int i t from r); subst e; exact rh P w i t
 | inr x=>obtain ⟨t,e⟩:=(show ∃ t,u=Value.str x t from r); subst e; exact ri P w x t
theorem oC {P:Program} {w:World}:∀ {ks:List Key} {us:List Value},a9 (ks.map kV) us→ItemsAre (bw P w) ks us
 | [],_,r=>by rw [List.map_nil] at r; cases r; exact .nil
 | k::ks,_,r=>by
  rw [List.map_cons] at r
  cases r with
  | cons h t => exact .cons (kU h) (oC t)
abbrev KT (H:Hp):List (List Key×V)→List (List Key×Addr×Value)→Prop:=Paired fun p q=>p.1=q.1∧H q.2.1=some (.tup (p.1.map kV))∧a7 p.2 q.2.2
theorem KT.val {H:Hp} {kvs:List (List Key×V)} {xs:List (List Key×Addr×Value)} (r:KT H kvs xs) (k:List Key):fj (a8 kvs k) ((atKey xs k).map (·.2)):=by
 induction r with
 | nil=>exact True.intro
 | @cons p q ps qs h t ih =>
  obtain ⟨h1,_,h2⟩:=h;by_cases e:p.1=k
  ·have e':q.1=k:=h1.symm.trans e;have b:atKey (q::qs) k=some q.2:=by simp [atKey,List.find?_cons,e']
   rw [ck e,b]; exact h2
  ·have e':¬ q.1=k:=fun z=>e (h1.trans z);have b:atKey (q::qs) k=atKey qs k:=by simp [atKey,List.find?_cons,e']
   rw [cj e,b]; exact ih
theorem KT.repl {H:Hp} {kvs:List (List Key×V)} {xs:List (List Key×Addr×Value)} (r:KT H kvs xs) (k:List Key) {y:V} {u:Value} (ry:a7 y u) :
  KT H (kvs.map fun kv=>if kv.1=k then (kv.1,y) else kv) (xs.map (putAt k u)):=by
 induction r with
 | nil=>exact .nil
 | @cons p q ps qs h t ih =>
  rw [List.map_cons,List.map_cons];refine .cons ?_ ih;obtain ⟨h1,h2,h3⟩:=h;unfold putAt;by_cases e:p.1=k
  ·rw [if_pos e,if_pos (h1.symm.trans e)]; exact ⟨h1,h2,ry⟩
  ·rw [if_neg e,if_neg (fun z=>e (h1.trans z))]; exact ⟨h1,h2,h3⟩
theorem KT.put {H:Hp} {kvs:List (List Key×V)} {xs:List (List Key×Addr×Value)} (r:KT H kvs xs) (k:List Key) {b:Addr} {y:V} {u:Value} (hb:H b=some (.tup (k.map kV))) (ry:a7 y u) :
  KT H (bO kvs k y) (storedH xs k b u):=by
 have e:(kvs.any fun kv=>decide (kv.1=k))=(atKey xs k).isSome:=by
  rw [gg,(r.val k).isSome_eq,Option.isSome_map]
 unfold bO storedH;rw [e];by_cases q:(atKey xs k).isSome=true
 ·rw [if_pos q,if_pos q]; exact r.repl k ry
 ·rw [if_neg q,if_neg q]; exact Paired.snoc r ⟨rfl,hb,ry⟩
theorem KT.keeps {H H':Hp} {kvs:List (List Key×V)} {xs:List (List Key×Addr×Value)} (r:KT H kvs xs) (ht:∀ b ys,H b=some (.tup ys)→H' b=some (.tup ys)):KT H' kvs xs :=
 Paired.mapP r fun _ _ z=>⟨z.1,ht _ _ z.2.1,z.2.2⟩
section
variable {P:Program} {w:World} {H:Hp} {h:Heap} {a:Addr}
theorem B0 {u:HO} (ok:HOk P w H h) (e:Rd H a u):bq P w H h a u:=e.ok ok
theorem ma {kvs:List (Key×V)} (ok:HOk P w H h) (e:Rd H a (.dK kvs)):kvs.length≤sizeLine∧(a==sysModules)=false∧∃ vs,KV kvs vs∧h.DictOf (bw P w) a vs :=
 show bq P w H h a (.dK kvs) from B0 ok e
theorem kR {kvs:List (Key×V)} (ok:HOk P w H h) (e:H a=some (.dK kvs)):kvs.length≤sizeLine∧(a==sysModules)=false∧∃ vs,KV kvs vs∧h.DictOf (bw P w) a vs:=ma ok (.inl e)
theorem gU {ks:List Key} (ok:HOk P w H h) (e:H a=some (.tup (ks.map kV))):(tupleKind (bw P w)).is h ks a:=by
 obtain ⟨_,its,r,o,h1,h2,n,h3⟩:=(show bq P w H h a (.tup (ks.map kV)) from ok a _ e)
 exact ⟨o,its.toArray,n,h1,h2,h3,by simpa using oC r⟩
theorem mf {kvs:List (List Key×V)} (ok:HOk P w H h) (e:Rd H a (.dT kvs)):kvs.length≤sizeLine∧(a==sysModules)=false ∧
  ∃ xs,KT H kvs xs∧h.DictOfH (tupleKind (bw P w)) a xs:=by
 obtain ⟨z,y,xs,r,o,es,ep,h1,h2,h3,h4,h5⟩:=(show bq P w H h a (.dT kvs) from B0 ok e)
 refine ⟨z,y,xs,r,o,es,ep,h1,h2,h3,h4,fun x hx=>?_,h5⟩
 have all:∀ {l:List (List Key×V)} {m:List (List Key×Addr×Value)},KT H l m→∀ x∈m,(tupleKind (bw P w)).is h x.1 x.2.1:=by
  intro l m q
  induction q with
  | nil => intro x hx; exact nomatch hx
  | @cons p q ps qs hq t ih =>
   intro x hx;rcases List.mem_cons.mp hx with e | hx
   ·subst e;exact gU ok (by rw [← hq.1]; exact hq.2.1)
   ·exact ih x hx
 exact all r x hx
theorem wZ {kvs:List (List Key×V)} (ok:HOk P w H h) (e:H a=some (.dT kvs)):kvs.length≤sizeLine∧(a==sysModules)=false ∧
  ∃ xs,KT H kvs xs∧h.DictOfH (tupleKind (bw P w)) a xs:=mf ok (.inl e)
end
def dM (H:Hp) (a:Addr) (y:V) (r:Option V):Prop :=
 (∃ kvs k,Rd H a (.dK kvs)∧y=kV k∧r=a8 kvs k)∨∃ kvs k b,Rd H a (.dT kvs)∧y=.ref b∧H b=some (.tup (k.map kV))∧r=a8 kvs k
def jt (H:Hp) (a:Addr) (y v:V) (H':Hp):Prop :=
 (∃ kvs k,H a=some (.dK kvs)∧y=kV k∧kvs.length<sizeLine∧H'=upd H a (.dK (bO kvs k v))) ∨
 ∃ kvs k b,H a=some (.dT kvs)∧y=.ref b∧H b=some (.tup (k.map kV))∧kvs.length<sizeLine∧H'=upd H a (.dT (bO kvs k v))
theorem dM.k {H:Hp} {a:Addr} {kvs:List (Key×V)} {k:Key} (e:H a=some (.dK kvs)):dM H a (kV k) (a8 kvs k):=.inl ⟨kvs,k,.inl e,rfl,rfl⟩
theorem dM.t {H:Hp} {a b:Addr} {kvs:List (List Key×V)} {k:List Key} (e:H a=some (.dT kvs)) (eb:H b=some (.tup (k.map kV))):dM H a (.ref b) (a8 kvs k):=.inr ⟨kvs,k,b,.inl e,rfl,eb,rfl⟩
theorem jt.k {H:Hp} {a:Addr} {kvs:List (Key×V)} {k:Key} {v:V} (e:H a=some (.dK kvs)) (hl:kvs.length<sizeLine):jt H a (kV k) v (upd H a (.dK (bO kvs k v))):=.inl ⟨kvs,k,e,rfl,hl,rfl⟩
theorem jt.t {H:Hp} {a b:Addr} {kvs:List (List Key×V)} {k:List Key} {v:V} (e:H a=some (.dT kvs)) (eb:H b=some (.tup (k.map kV))) (hl:kvs.length<sizeLine) :
  jt H a (.ref b) v (upd H a (.dT (bO kvs k v))):=.inr ⟨kvs,k,b,e,rfl,eb,hl,rfl⟩
section
variable {X:Cx} {pins:List (Addr×Obj)} {σ:St} {H:Hp} {s:Shared} {a:Addr} {y v:V} {u r:Value} {o:Option V} {A:Around} {E:Value→Shared→Prop}
theorem Inv.big (I:Inv X pins σ H s):sysModules<s.heap.objs.size:=by
 have h:mainGlobals<s.heap.objs.size:=(I.mod.glob.keeps I.bk).lt;exact Nat.lt_trans (by decide) h
theorem vm {Q:Value→Shared→Prop} (hu:A.units+1<cLine) (I:Inv X pins σ H s) (g:dM H a y (some v)) (ry:a7 y u) (h:∀ w' s',Inv X pins σ H s'→a7 v w'→Q w' s') :
  wpAny (model X.prog X.w) A (getItem (.ref a) u) Q E s:=by
 rcases g with ⟨kvs,k,e,ey,l⟩ | ⟨kvs,k,b,e,ey,eb,l⟩
 ·subst ey;obtain ⟨z,hd,vs,rel,dd⟩:=ma I.hok e;obtain ⟨w',hw,rw'⟩:=fj.some_of (v:=v) (o:=valueAt vs k) (by rw [l]; exact rel.val k);exact wpAny_getItem_of (kU ry) dd.mapOf hw (h w' _ (I.tok _) rw')
 ·subst ey
  cases (show u=Value.ref b from ry)
  obtain ⟨z,hd,xs,rel,dd⟩:=mf I.hok e;obtain ⟨w',hw,rw'⟩:=fj.some_of (v:=v) (o:=(atKey xs k).map (·.2)) (by rw [l]; exact rel.val k);obtain ⟨p,hp,hp2⟩:=Option.map_eq_some_iff.mp hw;refine wpAny_getItem_heap (tupleKind_room_in1 hu) (gU I.hok eb) dd hp ?_;rw [hp2];exact h w' _ (I.tok _) rw'
theorem EM {Q:Value→Shared→Prop} (hu:A.units+1<cLine) (I:Inv X pins σ H s) (g:dM H a y o) (ry:a7 y u) (h:∀ s',Inv X pins σ H s'→Q (.bool o.isSome) s') :
  wpAny (model X.prog X.w) A (compareOp .In u (.ref a)) Q E s:=by
 rcases g with ⟨kvs,k,e,ey,l⟩ | ⟨kvs,k,b,e,ey,eb,l⟩
 ·subst ey;obtain ⟨z,hd,vs,rel,dd⟩:=ma I.hok e;refine wpAny_in_of (kU ry) hd dd.mapOf ?_;rw [← (rel.val k).isSome_eq,← l];exact h _ (I.tok _)
 ·subst ey
  cases (show u=Value.ref b from ry)
  obtain ⟨z,hd,xs,rel,dd⟩:=mf I.hok e;refine wpAny_in_heap (tupleKind_room_in1 hu) (gU I.hok eb) hd dd ?_;have q:=(rel.val k).isSome_eq;rw [Option.isSome_map] at q;rw [← q,← l];exact h _ (I.tok _)
theorem AD {Q:Value→Shared→Prop} (hu:A.units+1<cLine) (I:Inv X pins σ H s) (g:dM H a y o) (ry:a7 y u) (h:∀ s',Inv X pins σ H s'→Q (.bool (!o.isSome)) s') :
  wpAny (model X.prog X.w) A (compareOp .NotIn u (.ref a)) Q E s:=by
 rcases g with ⟨kvs,k,e,ey,l⟩ | ⟨kvs,k,b,e,ey,eb,l⟩
 ·subst ey;obtain ⟨z,hd,vs,rel,dd⟩:=ma I.hok e;refine wpAny_notIn_of (kU ry) hd dd.mapOf ?_;rw [← (rel.val k).isSome_eq,← l];exact h _ (I.tok _)
 ·subst ey
  cases (show u=Value.ref b from ry)
  obtain ⟨z,hd,xs,rel,dd⟩:=mf I.hok e;refine wpAny_notIn_heap (tupleKind_room_in1 hu) (gU I.hok eb) hd dd ?_;have q:=(rel.val k).isSome_eq;rw [Option.isSome_map] at q;rw [← q,← l];exact h _ (I.tok _)
theorem iz {h':Heap} {t':Nat} {ob:HO} (I:Inv X pins σ H s) (mu:Mut (H a)) (hs:Heap.SameBut a s.heap h') (he:∃ q,h'.get? a=some q) (new:bq X.prog X.w (upd H a ob) h' a ob) :
  Inv X pins σ (upd H a ob) { s with heap:=h',toks:=t' } :=
 I.write (x:=a) (e:=a) mu (.inl rfl) (fun b q hb z=>(hs.2 b hb).trans z) he new
theorem sO {P:Program} {w:World} {H':Hp} {h':Heap} {kvs:List (Key×V)} {vs:List (Key×Value)} (z:kvs.length≤sizeLine) (hd:(a==sysModules)=false) (rel:KV kvs vs) (dd:h'.DictOf (bw P w) a vs) :
  bq P w H' h' a (.dK kvs):=⟨z,hd,vs,rel,dd⟩
theorem vn {H':Hp} {Q:Unit→Shared→Prop} (hu:A.units+1<cLine) (I:Inv X pins σ H s) (g:jt H a y v H') (ry:a7 y u) (rv:a7 v r) (h:∀ s',Inv X pins σ H' s'→Q () s') :
  wpAny (model X.prog X.w) A (setItem (.ref a) u r) Q E s:=by
 rcases g with ⟨kvs,k,e,ey,l,eH⟩ | ⟨kvs,k,b,e,ey,eb,l,eH⟩
 ·subst ey eH;obtain ⟨z,hd,vs,rel,dd⟩:=kR I.hok e;have hz:vs.length≤sizeLine:=by rw [← rel.length]; exact z
  have hl:(bO kvs k v).length≤sizeLine:=by have:=dj kvs k v; omega
  refine wpAny_setItem_pairs (hsz:=hz) (kU ry) dd fun h' dd' hs=>h _ ?_;have he:∃ q,h'.get? a=some q:=let ⟨q,_,_,hq,_⟩:=dd'; ⟨q,hq⟩;exact iz I (by rw [e]; exact True.intro) hs he (sO hl hd (rel.put k rv) dd')
 ·subst ey eH
  cases (show u=Value.ref b from ry)
  obtain ⟨z,hd,xs,rel,dd⟩:=wZ I.hok e;have hz:xs.length≤sizeLine:=by rw [← Paired.length rel]; exact z
  have hl:(bO kvs k v).length≤sizeLine:=by have:=dj kvs k v; omega
  refine wpAny_setItem_heap (hsz:=hz) (tupleKind_room_in1 hu) (gU I.hok eb) dd fun h' dd' hs=>h _ ?_;obtain ⟨q,es,ep,hq,h2,h3,h4,_,h5⟩:=dd';refine iz I (by rw [e]; exact True.intro) hs ⟨q,hq⟩ ⟨hl,hd,_,(rel.put k eb rv).keeps fun c ys ec=>?_,q,es,ep,hq,h2,h3,h4,h5⟩;rw [aw (fw ec e (fun z=>nomatch z))];exact ec
end
section
variable {X:Cx} {pins:List (Addr×Obj)} {σ:St} {H:Hp} {s:Shared} {a:Addr} {kvs:List (Key×V)} {k:Key} {u:Value} {A:Around} {E:Value→Shared→Prop}
theorem DU {v:V} {more:List Value} {Q:Value→Shared→Prop} (I:Inv X pins σ H s) (e:H a=some (.dK kvs)) (ry:a7 (kV k) u) (l:a8 kvs k=some v) (hm:more=[]∨∃ x,more=[x])
  (h:∀ w' s',Inv X pins σ (upd H a (.dK (eL kvs k))) s'→a7 v w'→Q w' s'):wpAny (model X.prog X.w) A (call (.builtin "dict.pop") (.ref a::u::more)) Q E s:=by
 obtain ⟨z,hd,vs,rel,dd⟩:=kR I.hok e;obtain ⟨w',hw,rw'⟩:=fj.some_of (v:=v) (o:=valueAt vs k) (by rw [← l]; exact rel.val k)
 have hp:(keyPart u).isSome=true:=by
  cases k with
  | inl i => obtain ⟨t, q⟩ := (show ∃ t, u = Value.int i t from ry); subst q; rfl
  | inr x => obtain ⟨t, q⟩ := (show ∃ t, u = Value.str x t from ry); subst q; rfl
 have ha:argsOk "dict.pop" ⟨.ref a::u::more,[]⟩:=by
  rcases hm with q | ⟨x,q⟩
  ·subst q; exact PySem.F.args_dict_pop_2 _ _
  ·subst q; exact PySem.F.args_dict_pop_3 _ _ _
 refine call_meetsIn PySem.F.slot_dict_pop dd.typeIs PySem.F.entry_dict_pop ha (meets_dict_pop_there (bw X.prog X.w) a (kU ry) more hm hp)
  ⟨vs,w',dd,by rw [← rel.length]; exact z,hw,fun h' dd' hs=>h w' _ ?_ rw'⟩
 have he:∃ q,h'.get? a=some q:=let ⟨q,_,_,hq,_⟩:=dd'; ⟨q,hq⟩;exact iz I (by rw [e]; exact True.intro) hs he (sO (Nat.le_trans (wX kvs k) z) hd (rel.drop k) dd')
end
def DM (i:Expr):Prop:=∀ ov iv,subscripted i false ov iv=operate [ov,iv] (getItem ov iv)
theorem BG {prog:Program} {w:World} {A:Around} {E:Value→Shared→Prop} {s:Shared} {env:Env} {value slice:Expr} {pos:Pos} {T id:String} {Q:Value→Shared→Prop}
  (hl:typeLookup (.type T) "__getitem__"=pure (some (.builtin id))) (hs:DM slice)
  (h:wpAny (model prog w) A (eval value env) (fun o s₁=>wpAny (model prog w) A (eval slice env) (fun i s₂=>s₂.TypeIs o T∧wpAny (model prog w) A (getItem o i) Q E s₂) E s₁) E s) :
  wpAny (model prog w) A (eval (.Subscript value slice pos) env) Q E s:=by
 refine Subscript_ (wpAny_mono h (fun o s₁ h₁=>wpAny_mono h₁ (fun i s₂ h₂=>?_) fun _ _ x=>x) fun _ _ x=>x);obtain ⟨hT,h₂⟩:=h₂;unfold subscriptTail;refine wpAny_bind ?_;rw [getitemInPython_of_ne hT.not_modules];refine wpAny_bind (wpAny_specialOf hT hl ?_)
 have fin:wpAny (model prog w) A (subscripted slice false o i) (fun r s₃=>wpAny (model prog w) A (letTemporaryGo value o r >>= fun _=>pure r) Q E s₃) E s₂:=by
  rw [hs o i];exact wpAny_operating (wpAny_mono h₂ (fun r s₃ h₃=>wpAny_bind (wpAny_letTemporaryGo (wpAny_pure h₃))) fun _ _ x=>x)
 first
  | exact wpAny_pure (wpAny_bind fin)
  | exact wpAny_bind (wpAny_pure (wpAny_bind fin))
  | exact wpAny_bind fin
theorem qO {X:Cx} {pins:List (Addr×Obj)} {σ:St} {H:Hp} {s:Shared} {a:Addr} {y:V} {o:Option V} (I:Inv X pins σ H s) (g:dM H a y o):s.TypeIs (.ref a) "dict":=by
 rcases g with ⟨kvs,k,e,_,_⟩ | ⟨kvs,k,b,e,_,_,_⟩
 ·obtain ⟨_,_,vs,_,dd⟩:=ma I.hok e;exact dd.typeIs
 ·obtain ⟨_,_,xs,_,dd⟩:=mf I.hok e;exact dd.typeIs
def B8 (td ty:TE):TE:=fun σ H Q=>td σ H fun x H1=>ty σ H1 fun y H2=>∃ a v,x=.ref a∧dM H2 a y (some v)∧Q v H2
def Es (ty td:TE):TE:=fun σ H Q=>ty σ H fun y H1=>td σ H1 fun x H2=>∃ a o,x=.ref a∧dM H2 a y o∧Q (.bl o.isSome) H2
def u4 (ty td:TE):TE:=fun σ H Q=>ty σ H fun y H1=>td σ H1 fun x H2=>∃ a o,x=.ref a∧dM H2 a y o∧Q (.bl (!o.isSome)) H2
def B1 (td ty tv:TE):TS:=fun D σ H=>tv σ H fun v H1=>td σ H1 fun x H2=>ty σ H2 fun y H3=>∃ a H4,x=.ref a∧jt H3 a y v H4∧D.nx σ H4
section
variable {X:Cx} {o i e value:Expr} {pos pos' tpos:Pos} {td ty tv:TE}
theorem dB (hu:X.A.units+1<cLine) (ho:PE X o td) (hi:PE X i ty) (hs:DM i):PE X (.Subscript o i pos) (B8 td ty):=by
 intro pins s σ H Q I h;refine BG PySem.F.slot_dict_getitem.lookup hs (thn (ho pins s σ H _ I h) fun u s1 ⟨x,H1,I1,rx,q1⟩=>thn (hi pins s1 σ H1 _ I1 q1) fun iv s2 ⟨y,H2,I2,ry,a,v,ex,g,q2⟩=>?_);subst ex;obtain rfl:u=Value.ref a:=rx
 exact ⟨qO I2 g,vm hu I2 g ry fun w' s3 I3 rw'=>⟨v,H2,I3,rw',q2⟩⟩
theorem tL (hu:X.A.units+1<cLine) (hi:PE X i ty) (ho:PE X o td):PC X .In i o (Es ty td):=by
 intro pins s σ H Q I h;refine thn (hi pins s σ H _ I h) fun iv s1 ⟨y,H1,I1,ry,q1⟩=>thn (ho pins s1 σ H1 _ I1 q1) fun u s2 ⟨x,H2,I2,rx,a,ov,ex,g,q2⟩=>?_;subst ex;obtain rfl:u=Value.ref a:=rx
 exact EM hu I2 g ry fun s3 I3=>⟨.bl ov.isSome,H2,I3,rfl,q2⟩
theorem ki (hu:X.A.units+1<cLine) (hi:PE X i ty) (ho:PE X o td):PC X .NotIn i o (u4 ty td):=by
 intro pins s σ H Q I h;refine thn (hi pins s σ H _ I h) fun iv s1 ⟨y,H1,I1,ry,q1⟩=>thn (ho pins s1 σ H1 _ I1 q1) fun u s2 ⟨x,H2,I2,rx,a,ov,ex,g,q2⟩=>?_;subst ex;obtain rfl:u=Value.ref a:=rx
 exact AD hu I2 g ry fun s3 I3=>⟨.bl (!ov.isSome),H2,I3,rfl,q2⟩
theorem gB (hu:X.A.units+1<cLine) (ho:PE X o td) (hi:PE X i ty) (hv:PE X value tv) (hs:swapsWith value (some (.Subscript o i pos')) pos.line X.env=pure false) :
  PS X (.Assign [.Subscript o i pos'] value pos) (B1 td ty tv):=by
 intro pins s σ H D I h;refine wpAny_Assign_Subscript (thn (hv pins s σ H _ I h) fun r s1 ⟨v,H1,I1,rv,q1⟩=>thn (ho pins s1 σ H1 _ I1 q1) fun u s2 ⟨x,H2,I2,rx,q2⟩=>thn (hi pins s2 σ H2 _ I2 q2) fun iv s3 ⟨y,H3,I3,ry,a,H4,ex,g,q3⟩=>?_) hs;subst ex;obtain rfl:u=Value.ref a:=rx
 exact vn hu I3 g ry rv fun s4 I4=>⟨σ,H4,I4,q3⟩
end
theorem qP {P:Program} {w:World} {H:Hp} (h:Heap) (hb:sysModules<h.objs.size):bq P w H (h.push { cls:=.type "dict",data:=.dict #[] }) h.objs.size (.dK []) :=
 ⟨Nat.zero_le _,beq_eq_false_iff_ne.mpr (Ne.symm (Nat.ne_of_lt hb)),[],.nil,Heap.DictOf.new h⟩
theorem qS {P:Program} {w:World} {H:Hp} (h:Heap) (hb:sysModules<h.objs.size):bq P w H (h.push { cls:=.type "dict",data:=.dict #[] }) h.objs.size (.dT []) :=
 ⟨Nat.zero_le _,beq_eq_false_iff_ne.mpr (Ne.symm (Nat.ne_of_lt hb)),[],.nil,_,#[],0,Heap.get?_push_size _ rfl,⟨rfl,rfl,rfl⟩,rfl,rfl,List.nodup_nil⟩
def zT:TE:=fun _ H Q=>∀ p,H p=none→Q (.ref p) (upd H p (.dK []))
def zU:TE:=fun _ H Q=>∀ p,H p=none→Q (.ref p) (upd H p (.dT []))
section
variable {X:Cx} {pos:Pos}
theorem yj:PE X (.Dict [] [] pos) zT:=fun pins s σ H Q I h =>
 wpAny_Dict_empty ⟨.ref s.heap.objs.size,_,I.laid (a:=s.heap.objs.size) (o:=.dK []) (t':=s.toks) (fun _ _ q=>Heap.get?_push_of_some _ q) (Nat.le_refl _) (qP s.heap I.big),rfl,h _ (I.hok.fresh (Nat.le_refl _))⟩
theorem rB:PE X (.Dict [] [] pos) zU:=fun pins s σ H Q I h =>
 wpAny_Dict_empty ⟨.ref s.heap.objs.size,_,I.laid (a:=s.heap.objs.size) (o:=.dT []) (t':=s.toks) (fun _ _ q=>Heap.get?_push_of_some _ q) (Nat.le_refl _) (qS s.heap I.big),rfl,h _ (I.hok.fresh (Nat.le_refl _))⟩
end
def ui:List (TE×TE)→St→Hp→(List (V×V)→Hp→Prop)→Prop
 | [],_,H,Q=>Q [] H
 | (tk,tv)::r,σ,H,Q=>tk σ H fun x H1=>tv σ H1 fun y H2=>ui r σ H2 fun ps H3=>Q ((x,y)::ps) H3
abbrev VV:List (V×V)→List (Value×Value)→Prop:=Paired fun p q=>a7 p.1 q.1∧a7 p.2 q.2
def PPs (X:Cx) (pos:Pos) (keys:List (Option Expr)) (values:List Expr) (trs:List (TE×TE)):Prop :=
 ∀ (pins:List (Addr×Obj)) (s:Shared) (σ:St) (H:Hp) (Q:List (V×V)→Hp→Prop),Inv X pins σ H s→ui trs σ H Q →
  wpAny (model X.prog X.w) X.A (evalPairs (pairTrees keys values X.env pos)) (fun vs s'=>∃ ps H',Inv X pins σ H' s'∧VV ps vs∧Q ps H') X.xe s
theorem uQ {X:Cx} {pos:Pos}:PPs X pos [] [] []:=fun pins s σ H Q I h=>pairTrees_nil_walk ⟨[],H,I,.nil,h⟩
theorem mM {X:Cx} {pos:Pos} {k v:Expr} {ks:List (Option Expr)} {vs:List Expr} {tk tv:TE} {trs:List (TE×TE)} (hk:PE X k tk) (hv:PE X v tv) (hr:PPs X pos ks vs trs) :
  PPs X pos (some k::ks) (v::vs) ((tk,tv)::trs):=fun pins s σ H Q I h =>
 pairTrees_cons_walk (thn (hk pins s σ H _ I h) fun u s1 ⟨x,H1,I1,rx,q1⟩=>thn (hv pins s1 σ H1 _ I1 q1) fun w2 s2 ⟨y,H2,I2,ry,q2⟩ =>
  thn (hr pins s2 σ H2 _ I2 q2) fun ws s3 ⟨ps,H3,I3,rel,q3⟩=>⟨(x,y)::ps,H3,I3,.cons ⟨rx,ry⟩ rel,q3⟩)
noncomputable def j8 (kvs more:List (Key×V)):List (Key×V):=more.foldl (fun acc kv=>bO acc kv.1 kv.2) kvs
theorem KV.merge:∀ {more:List (Key×V)} {rs:List (Key×Value)} {kvs:List (Key×V)} {vs:List (Key×Value)},KV more rs→KV kvs vs→KV (j8 kvs more) (merged vs rs):=by
 intro more rs kvs vs r;unfold KV at r
 induction r generalizing kvs vs with
 | nil=>intro q; exact q
 | @cons p q ps qs h t ih =>
  intro r0
  have e:KV (bO kvs p.1 p.2) (stored vs q.1 q.2):=by
   have:=r0.put p.1 h.2
   rw [← h.1]; exact this
  exact ih e
theorem iQ:∀ (more kvs:List (Key×V)),(j8 kvs more).length≤kvs.length+more.length
 | [],kvs=>by show kvs.length≤kvs.length+0; omega
 | p::r,kvs=>by
  have h1:=iQ r (bO kvs p.1 p.2);have h2:=dj kvs p.1 p.2
  show (j8 (bO kvs p.1 p.2) r).length≤_
  rw [List.length_cons]; omega
theorem lW {P:Program} {w:World}:∀ {kvs:List (Key×V)} {ws:List (Value×Value)},VV (kvs.map fun kv=>(kV kv.1,kv.2)) ws→∃ rs,Carries (bw P w) ws rs∧KV kvs rs
 | [],_,r=>by rw [List.map_nil] at r; cases r; exact ⟨[],True.intro,.nil⟩
 | p::kvs,_,r=>by
  rw [List.map_cons] at r
  cases r with
  | @cons a b as bs h t =>
   obtain ⟨rs,c,q⟩:=lW (P:=P) (w:=w) t;obtain ⟨b1,b2⟩:=b;exact ⟨(p.1,b2)::rs,⟨kU h.1,rfl,c⟩,.cons ⟨rfl,h.2⟩ q⟩
def B9 (trs:List (TE×TE)):TE:=fun σ H Q=>∀ p,H p=none→ui trs σ (upd H p (.dK [])) fun ps H2=>H2 p=some (.dK [])∧∃ kvs:List (Key×V),ps=kvs.map (fun kv=>(kV kv.1,kv.2))∧kvs.length≤15∧Q (.ref p) (upd H2 p (.dK (j8 [] kvs)))
theorem AW {X:Cx} {pos:Pos} {keys:List (Option Expr)} {values:List Expr} {trs:List (TE×TE)} (h:PPs X pos keys values trs) (hall:keys.all (·.isSome)=true) (hl:keys.length=values.length) (h0:keys≠[])
  (h15:keys.length≤15):PE X (.Dict keys values pos) (B9 trs):=by
 intro pins s σ H Q I q;have hn:=I.hok.fresh (Nat.le_refl s.heap.objs.size);have I1:=I.laid (a:=s.heap.objs.size) (o:=.dK []) (h':=s.heap.push { cls:=.type "dict",data:=.dict #[] }) (t':=s.toks) (fun _ _ q=>Heap.get?_push_of_some _ q) (Nat.le_refl _) (qP s.heap I.big);refine wpAny_Dict_walk (knd:=bw X.prog X.w) hall hl h0 h15 (thn (h pins _ σ _ _ I1 (q _ hn)) fun ws s2 ⟨ps,H2,I2,rel,e,kvs,ep,lk,q2⟩=>?_);subst ep;obtain ⟨rs,c,rk⟩:=lW (P:=X.prog) (w:=X.w) rel;obtain ⟨z,hd,vs0,r0,dd⟩:=kR I2.hok e
 cases r0;refine ⟨rs,c,dd,fun h' dd' hs=>⟨.ref s.heap.objs.size,_,?_,rfl,q2⟩⟩
 have hz:(j8 [] kvs).length≤sizeLine:=by
  have h1:=iQ kvs [];rw [List.length_nil] at h1;rw [sizeLine_eq]; omega
 have he:∃ q,h'.get? s.heap.objs.size=some q:=let ⟨q,_,_,hq,_⟩:=dd'; ⟨q,hq⟩;exact iz I2 (by rw [e]; exact True.intro) hs he (sO hz hd (rk.merge .nil) dd')
structure M1 (X:Cx) (o:Expr) (m:Str) (apos:Pos) (e:Expr) (cpos:Pos):Prop where
 base:attributeBase o m X.env (eval o X.env)=eval o X.env
 few:((backTo cpos (starEach [e] X.env)).all (fun x=>!x.1)&&(backToKw cpos (keywordEach [] X.env)).all (fun x=>x.1.isSome)
  && decide (([e]:List Expr).length+([]:List Keyword).length+(if ([]:List Keyword).isEmpty then 0 else 1)<30))=true
 line:(apos.endLine==cpos.line)=true
 trees:backTo cpos (starEach [e] X.env)=[(false,eval e X.env)]
structure M2 (X:Cx) (o:Expr) (m:Str) (apos:Pos) (e f:Expr) (cpos:Pos):Prop where
 base:attributeBase o m X.env (eval o X.env)=eval o X.env
 few:((backTo cpos (starEach [e,f] X.env)).all (fun x=>!x.1)&&(backToKw cpos (keywordEach [] X.env)).all (fun x=>x.1.isSome)
  && decide (([e,f]:List Expr).length+([]:List Keyword).length+(if ([]:List Keyword).isEmpty then 0 else 1)<30))=true
 line:(apos.endLine==cpos.line)=true
 trees:backTo cpos (starEach [e,f] X.env)=[(false,eval e X.env),(false,eval f X.env)]
def IsD (H:Hp) (a:Addr):Prop:=(∃ kvs,Rd H a (.dK kvs))∨∃ kvs,Rd H a (.dT kvs)
theorem sX {X:Cx} {pins:List (Addr×Obj)} {σ:St} {H:Hp} {s:Shared} {a:Addr} (I:Inv X pins σ H s) (d:IsD H a) :
  s.TypeIs (.ref a) "dict"∧(∀ b,Value.ref a=.ref b→∃ ob,s.heap.get? b=some ob∧ob.dict=none)∧(a==sysModules)=false:=by
 rcases d with ⟨kvs,e⟩ | ⟨kvs,e⟩
 ·obtain ⟨_,hd,vs,_,dd⟩:=ma I.hok e;refine ⟨dd.typeIs,fun b q=>?_,hd⟩
  cases q;obtain ⟨ob,_,_,h1,h2,_⟩:=dd;exact ⟨ob,h1,h2.2.1⟩
 ·obtain ⟨_,hd,xs,_,dd⟩:=mf I.hok e;refine ⟨dd.typeIs,fun b q=>?_,hd⟩
  cases q;obtain ⟨ob,_,_,h1,h2,_⟩:=dd;exact ⟨ob,h1,h2.2.1⟩
section
variable {X:Cx} {pins:List (Addr×Obj)} {σ:St} {H:Hp} {s:Shared} {a:Addr} {y d:V} {u r:Value} {o:Option V} {A:Around} {E:Value→Shared→Prop}
theorem Ct {Q:Value→Shared→Prop} (hu:A.units+1<cLine) (I:Inv X pins σ H s) (g:dM H a y o) (ry:a7 y u) (rd:a7 d r) (h:∀ w' s',Inv X pins σ H s'→a7 (o.getD d) w'→Q w' s') :
  wpAny (model X.prog X.w) A (call (.builtin "dict.get") [.ref a,u,r]) Q E s:=by
 rcases g with ⟨kvs,k,e,ey,l⟩ | ⟨kvs,k,b,e,ey,eb,l⟩
 ·subst ey;obtain ⟨z,hd,vs,rel,dd⟩:=ma I.hok e;refine call_meetsIn PySem.F.slot_dict_get dd.typeIs PySem.F.entry_dict_get (PySem.F.args_dict_get_3 _ _ _) (meets_dict_get_default (bw X.prog X.w) a (kU ry) hd r) ⟨_,dd.mapOf,h _ _ (I.tok _) ?_⟩;rw [l];exact (rel.val k).getD rd
 ·subst ey
  cases (show u=Value.ref b from ry)
  obtain ⟨z,hd,xs,rel,dd⟩:=mf I.hok e;refine call_meetsIn PySem.F.slot_dict_get dd.typeIs PySem.F.entry_dict_get (PySem.F.args_dict_get_3 _ _ _) (meetsH_dict_get_default (tupleKind (bw X.prog X.w)) a b hd r) ⟨tupleKind_room_in1 hu,k,xs,gU I.hok eb,dd,h _ _ (I.tok _) ?_⟩;rw [l];exact (rel.val k).getD rd
end
def zS (td ty tx:TE):TE:=fun σ H Q=>td σ H fun x H1=>∃ a,x=.ref a∧IsD H1 a∧ty σ H1 fun y H2=>tx σ H2 fun z H3=>∃ o,dM H3 a y o∧Q (o.getD z) H3
def zV (td ty:TE):TE:=fun σ H Q=>td σ H fun x H1=>∃ a,x=.ref a∧IsD H1 a∧ty σ H1 fun y H2=>∃ kvs k v,H2 a=some (.dK kvs)∧y=kV k∧a8 kvs k=some v∧Q v (upd H2 a (.dK (eL kvs k)))
section
variable {X:Cx} {o e f:Expr} {apos cpos:Pos} {td ty tx:TE}
theorem yi (hu:X.A.units+1<cLine) (ho:PE X o td) (he:PE X e ty) (hf:PE X f tx) (m:M2 X o "get" apos e f cpos):PE X (.Call (.Attribute o "get" apos) [e,f] [] cpos) (zS td ty tx):=by
 intro pins s σ H Q I h;refine wpAny_Call_method m.base m.few m.line PySem.F.plainAttrs_dict PySem.F.slot_dict_get PySem.F.type_dict_get (thn (ho pins s σ H _ I h) fun u s1 ⟨x,H1,I1,rx,a,ex,d,q1⟩=>?_);subst ex;obtain rfl:u=Value.ref a:=rx
 obtain ⟨t1,t2,_⟩:=sX I1 d;refine ⟨t1,t2,?_⟩;rw [m.trees];refine Calls.callWith_builtin rfl (Calls.evalArgs_plain (Calls.spliced_cons (thn (he pins s1 σ H1 _ I1 q1) fun iv s2 ⟨y,H2,I2,ry,q2⟩ =>
  Calls.spliced_cons (thn (hf pins s2 σ H2 _ I2 q2) fun fv s3 ⟨z,H3,I3,rz,ov,g,q3⟩=>Calls.spliced_nil ?_))))
 exact Ct hu I3 g ry rz fun w' s4 I4 rw'=>⟨_,H3,I4,rw',q3⟩
theorem yk (ho:PE X o td) (he:PE X e ty) (m:M1 X o "pop" apos e cpos):PE X (.Call (.Attribute o "pop" apos) [e] [] cpos) (zV td ty):=by
 intro pins s σ H Q I h;refine wpAny_Call_method m.base m.few m.line PySem.F.plainAttrs_dict PySem.F.slot_dict_pop PySem.F.type_dict_pop (thn (ho pins s σ H _ I h) fun u s1 ⟨x,H1,I1,rx,a,ex,d,q1⟩=>?_);subst ex;obtain rfl:u=Value.ref a:=rx
 obtain ⟨t1,t2,_⟩:=sX I1 d;refine ⟨t1,t2,?_⟩;rw [m.trees];refine Calls.callWith_builtin rfl (Calls.evalArgs_plain (Calls.spliced_cons (thn (he pins s1 σ H1 _ I1 q1) fun iv s2 ⟨y,H2,I2,ry,kvs,k,v,ea,ey,l,q2⟩=>Calls.spliced_nil ?_)));subst ey;exact DU I2 ea ry l (.inl rfl) fun w' s3 I3 rw'=>⟨v,_,I3,rw',q2⟩
end
theorem yV {σ:St} {H:Hp} {Q:VK} (h:∀ p,H p=none→Q (.ref p) (upd H p (.dT []))):zU σ H Q:=h
theorem Bg {td ty tv:TE} {D:cU} {σ:St} {H:Hp} (h:tv σ H fun v H1=>td σ H1 fun x H2=>ty σ H2 fun y H3=>∃ a H4,x=.ref a∧jt H3 a y v H4∧D.nx σ H4):B1 td ty tv D σ H:=h
theorem Dd {ty td:TE} {σ:St} {H:Hp} {Q:VK} (h:ty σ H fun y H1=>td σ H1 fun x H2=>∃ a o,x=.ref a∧dM H2 a y o∧Q (.bl o.isSome) H2):Es ty td σ H Q:=h
theorem vV {ty td:TE} {σ:St} {H:Hp} {Q:VK} (h:ty σ H fun y H1=>td σ H1 fun x H2=>∃ a o,x=.ref a∧dM H2 a y o∧Q (.bl (!o.isSome)) H2):u4 ty td σ H Q:=h
end L2
namespace Ts
open PySem PyProof.Rows
def Le (lt:Keyed→Keyed→Bool) (x y:Keyed):Prop:=lt y x=false
end Ts
namespace Ts
open PySem PyProof.Rows
end Ts
namespace Ts
open PySem PyProof.Rows
end Ts
namespace Ts
open PySem PyProof.Rows
end Ts
namespace Ts
open PySem PyProof.Rows
noncomputable def seg (xs:Array Keyed) (i n:Nat):List Keyed:=(xs.toList.drop i).take n
end Ts
namespace Ts
open PySem PyProof.Rows
noncomputable def at' (xs:Array Keyed) (i:Nat):Keyed:=(xs[i]?).getD (.none,.none)
end Ts
namespace Ts
open PySem PyProof.Rows
end Ts
namespace Ts
open PySem PyProof.Rows
def DN (lt:Keyed→Keyed→Bool) (xs:Array Keyed):Nat→List (Nat×Nat)→Nat→Prop
 | i,[],hi=>i=hi
 | i,(s,n)::ps,hi=>s=i∧1≤n∧(seg xs s n).Pairwise (Le lt)∧DN lt xs (i+n) ps hi
noncomputable def kys (p:Array (Nat×Nat×Nat)):List (Nat×Nat):=p.toList.map fun q=>(q.1,q.2.1)
section
variable {M:Model} {A:Around} {E:Value→Shared→Prop} {s:Shared}
structure Inv (κ:SortKind) (lt:Keyed→Keyed→Bool) (a0:Array Keyed) (st:SortSt) (lo:Nat):Prop where
 kind:kindOf st=κ
 failed:failedOf st=none
 perm:(arrOf st).Perm a0
 runs:DN lt (arrOf st) 0 (kys (pendingOf st)) lo
end
end Ts
namespace Ts
open PySem PyProof.Rows PySem.W
end Ts
namespace L2
open PySem PySem.Spec PyProof.Rows
end L2
namespace Sm
noncomputable abbrev Pnt:=Int×Int
noncomputable def fin:Pnt→Pnt→List Pnt→Pnt×Pnt
 | a,b,[]=>(a,b)
 | _,b,c::l=>fin b c l
end Sm
namespace Sm
end Sm
namespace Ts
open PySem PyProof.Rows PySem.W
end Ts
namespace L2
open PySem PySem.Spec PyProof.Rows
end L2
namespace Ts
open PySem PyProof.Rows PySem.W
end Ts
namespace L2
open PySem PySem.Spec PyProof.Rows PySem.W
end L2
namespace Sm
end Sm
namespace L2
open PySem PySem.Spec PyProof.Rows PySem.W
section
variable {prog:Program} {w:World} {κ:Type} [DecidableEq κ] {kd:HeapKind prog w κ} {A:Around} {E:Value→Shared→Prop} {s:Shared} {d a:Addr} {xs:List (κ×Addr×Value)} {k:κ} {v:Value}
theorem sdH {Q:Value→Shared→Prop} (hu:kd.room A) (hk:kd.is s.heap k a) (hm:s.heap.DictOfH kd d xs) (hz:xs.length≤sizeLine)
  (h1:∀ p,atKey xs k=some p→Q p.2 { s with toks:=s.toks+kd.draws k })
  (h2:atKey xs k=none→∀ h',h'.DictOfH kd d (storedH xs k a v)→Heap.SameBut d s.heap h'→Q v { s with heap:=h',toks:=s.toks+kd.draws k }) :
  wpAny (model prog w) A (dictSetDefault d (.ref a) v) Q E s:=by
 obtain ⟨o,es,ep,ho,hc,hd,he,hi,hn⟩:=hm;unfold dictSetDefault
 (try with_reducible refine wpAny_holding ?_); refine wpAny_bind (kd.pyHash hu hk (wpAny_bind (wpAny_dictFind_heap (s:={ s with toks:=s.toks+kd.draws k }) hu hk ho hd he hi hn (fun no=>?_) fun j p hj=>?_)))
 ·have ha:=atKey_none_of_get no;have hnot:=not_mem_keys_of_get no;have es':storedH xs k a v=xs++[(k,a,v)]:=storedH_new ha a v;refine wpAny_bind (wpAny_rule (wpAny_bind (wpAny_updateDictKeys (hz:=by have e:=size_of_entries he; omega) (s:={ s with toks:=s.toks+kd.draws k }) ho hd (wpAny_pure (h2 ha _ ⟨_,_,ep+1,Heap.get?_update_self _ ho (Obj.isFreed_of_dict (Obj.data_mapDictKeys hd _)),hc.mapDictKeys _,Obj.data_mapDictKeys hd _,?_,fun x hx=>?_,?_⟩ (Heap.SameBut.update ..))))))
  ·rw [es']; simp [he,entryOfKey]
  ·rw [es'] at hx
   cases List.mem_append.mp hx with
   | inl z=>exact kd.keeps (hi x z) ho hd (Heap.SameBut.update ..)
   | inr z=>(rw [List.mem_singleton.mp z]; exact kd.keeps hk ho hd (Heap.SameBut.update ..))
  ·rw [es',List.map_append,List.nodup_append];exact ⟨hn,by simp,fun x hx y hy z=>hnot (by rw [List.map_singleton,List.mem_singleton] at hy; rw [← (show y=k from hy),← z]; exact hx)⟩
 ·(refine wpAny_bind (wpAny_dictEntries (s:={ s with toks:=s.toks+kd.draws k }) ho hd ?_); rw [entry_at he j,hj])
  exact wpAny_bind (wpAny_rule (wpAny_pure (h1 p (atKey_of_get hn hj))))
theorem zE (hd : (d == sysModules) = false) : MeetsIn prog w (Builtin.«dict.setdefault» ⟨[.ref d, .ref a, v], []⟩) (fun A R s => kd.room A.in1 ∧ ∃ k xs, kd.is s.heap k a ∧ s.heap.DictOfH kd d xs ∧ xs.length ≤ sizeLine ∧
      (∀ p,atKey xs k=some p→R (.ok (.ret p.2)) { s with toks:=s.toks+kd.draws k }) ∧
      (atKey xs k=none→∀ h',h'.DictOfH kd d (storedH xs k a v)→Heap.SameBut d s.heap h'→R (.ok (.ret v)) { s with heap:=h',toks:=s.toks+kd.draws k })) :=
  .of_wp fun A R s ⟨hu,k,xs,hk,hm,hz,h1,h2⟩=>by
    unfold Builtin.«dict.setdefault» Builtin.Dict.keyAndDefault
    (refine wpAny_bind (wpAny_bind (wpAny_notOrdered_dict hm.typeIs ?_)); show wpAny _ _ (pure (d,Value.ref a,some v)) _ _ s; refine wpAny_pure ?_)
    (show wpAny _ _ (if (d==sysModules)=true then _ else (dictSetDefault d (.ref a) v >>= _)) _ _ s; rw [if_neg (by rw [hd]; exact Bool.false_ne_true)])
    exact wpAny_bind (sdH hu hk hm hz (fun p hp=>wpAny_pure ⟨p.2,rfl,h1 p hp⟩) fun hn h' hm' hs'=>wpAny_pure ⟨v,rfl,h2 hn h' hm' hs'⟩)
end
section
variable {X:Cx} {pins:List (Addr×Obj)} {σ:St} {H:Hp} {s:Shared} {a b:Addr} {z:V} {r:Value} {A:Around} {E:Value→Shared→Prop} {kvs:List (List Key×V)} {k:List Key}
theorem Cu {Q:Value→Shared→Prop} (hu:A.units+1<cLine) (I:Inv X pins σ H s) (e:H a=some (.dT kvs)) (eb:H b=some (.tup (k.map kV))) (hl:kvs.length<sizeLine) (rz:a7 z r)
  (h1:∀ v,a8 kvs k=some v→∀ w' s',Inv X pins σ H s'→a7 v w'→Q w' s') (h2:a8 kvs k=none→∀ s',Inv X pins σ (upd H a (.dT (bO kvs k z))) s'→Q r s') :
  wpAny (model X.prog X.w) A (call (.builtin "dict.setdefault") [.ref a,.ref b,r]) Q E s:=by
 obtain ⟨zl,hd,xs,rel,dd⟩:=wZ I.hok e;have hl':(bO kvs k z).length≤sizeLine:=by have:=dj kvs k z; omega
 have rv:=rel.val k;refine call_meetsIn PySem.F.slot_dict_setdefault dd.typeIs PySem.F.entry_dict_setdefault (PySem.F.args_dict_setdefault_3 _ _ _) (zE (kd:=tupleKind (bw X.prog X.w)) hd)
  ⟨tupleKind_room_in1 hu,k,xs,gU I.hok eb,dd,by rw [← Paired.length rel]; exact zl,fun p hp=>?_,fun hp h' dd' hs=>?_⟩
 ·rw [hp] at rv
  cases hv:a8 kvs k with
  | none => rw [hv] at rv; exact absurd rv (by intro z; cases z)
  | some v =>
   rw [hv] at rv;exact h1 v hv _ _ (I.tok _) rv
 ·rw [hp] at rv
  have hv:a8 kvs k=none:=by
   cases hv:a8 kvs k with
   | none=>rfl
   | some v=>rw [hv] at rv; exact absurd rv (by intro z; cases z)
  obtain ⟨q,es,ep,hq,h2',h3,h4,_,h5⟩:=dd';refine h2 hv _ (iz I (by rw [e]; exact True.intro) hs ⟨q,hq⟩ ⟨hl',hd,_,(rel.put k eb rz).keeps fun c ys ec=>?_,q,es,ep,hq,h2',h3,h4,h5⟩);exact (aw (fw ec e (fun z=>nomatch z))).trans ec
end
def zW (td ty tx:TE):TE:=fun σ H Q=>td σ H fun x H1=>∃ a,x=.ref a∧IsD H1 a∧ty σ H1 fun y H2=>tx σ H2 fun z H3=>∃ kvs k b,y=.ref b∧H3 a=some (.dT kvs)∧H3 b=some (.tup (k.map kV))∧kvs.length<sizeLine ∧
 (∀ v,a8 kvs k=some v→Q v H3)∧(a8 kvs k=none→Q z (upd H3 a (.dT (bO kvs k z))))
theorem rC {X:Cx} {o e f:Expr} {apos cpos:Pos} {td ty tx:TE} (hu:X.A.units+1<cLine) (ho:PE X o td) (he:PE X e ty) (hf:PE X f tx) (m:M2 X o "setdefault" apos e f cpos):PE X (.Call (.Attribute o "setdefault" apos) [e,f] [] cpos) (zW td ty tx):=by
 intro pins s σ H Q I h;refine wpAny_Call_method m.base m.few m.line PySem.F.plainAttrs_dict PySem.F.slot_dict_setdefault PySem.F.type_dict_setdefault (thn (ho pins s σ H _ I h) fun u s1 ⟨x,H1,I1,rx,a,ex,d,q1⟩=>?_);subst ex;obtain rfl:u=Value.ref a:=rx
 obtain ⟨t1,t2,_⟩:=sX I1 d;refine ⟨t1,t2,?_⟩;rw [m.trees];refine Calls.callWith_builtin rfl (Calls.evalArgs_plain (Calls.spliced_cons (thn (he pins s1 σ H1 _ I1 q1) fun iv s2 ⟨y,H2,I2,ry,q2⟩ =>
  Calls.spliced_cons (thn (hf pins s2 σ H2 _ I2 q2) fun fv s3 ⟨z,H3,I3,rz,kvs,k,b,ey,e3,eb,hl,k1,k2⟩=>Calls.spliced_nil ?_))))
 subst ey;obtain rfl:iv=Value.ref b:=ry
 exact Cu hu I3 e3 eb hl rz (fun v hv w' s4 I4 rw'=>⟨v,H3,I4,rw',k1 v hv⟩) fun hv s4 I4=>⟨z,_,I4,rz,k2 hv⟩
theorem rH {td ty tx:TE} {σ:St} {H:Hp} {Q:VK} (h:td σ H fun x H1=>∃ a,x=.ref a∧IsD H1 a∧ty σ H1 fun y H2=>tx σ H2 fun z H3=>∃ kvs k b,y=.ref b∧H3 a=some (.dT kvs)∧H3 b=some (.tup (k.map kV))∧kvs.length<sizeLine ∧
 (∀ v,a8 kvs k=some v→Q v H3)∧(a8 kvs k=none→Q z (upd H3 a (.dT (bO kvs k z))))):zW td ty tx σ H Q:=h
section
variable {X:Cx} {pins:List (Addr×Obj)} {σ:St} {H H':Hp} {s:Shared} {h':Heap}
theorem Inv.more {t':Nat} (I:Inv X pins σ H s) (k:∀ b u,s.heap.get? b=some u→h'.get? b=some u) (sm:∀ b o,H b=some o→H' b=some o)
  (new:∀ b o,H' b=some o→H b=some o∨(s.heap.objs.size≤b∧bq X.prog X.w H' h' b o)):Inv X pins σ H' { s with heap:=h',toks:=t' }:=by
 refine I.un ⟨fun b u q _ _ _=>k b u q,fun b u q _ _ _=>⟨u.slots,k b u q⟩,fun b u q n _=>?_,fun b u q _=>⟨u,k b u q⟩,fun b xs q=>sm b _ q,fun b u xs q=>sm b _ q,fun b ps q=>⟨#[],by rw [sm b _ q]; simp⟩⟩ fun b o e=>?_
 ·cases z:H' b with
  | none => rfl
  | some o =>
   rcases new b o z with r | r
   ·rw [n] at r; cases r
   ·exact absurd (Nat.lt_of_lt_of_le (Heap.lt_size q) r.1) (Nat.lt_irrefl _)
 ·rcases new b o e with r | r
  ·exact (I.hok b o r).stay (fun c v _ q=>k c v q) (fun c q=>sm c _ q) fun c xs q=>sm c _ q
  ·exact r.2
end
def pd (T:String) (v d:Addr) (h:Heap):Prop:=∃ o,h.get? v=some o∧o.cls=.type T∧o.data=.fields #[.ref d]
noncomputable def cC (T:String) (v d:Addr):HO:=.ext (pd T v d)
theorem vf {P:Program} {w:World} {H:Hp} {h:Heap} {T:String} {d:Addr}:bq P w H (h.push { cls:=.type T,data:=.fields #[.ref d] }) h.objs.size (cC T h.objs.size d) :=
 ⟨⟨_,Heap.get?_push_size _ rfl,rfl,rfl⟩,⟨_,Heap.get?_push_size _ rfl⟩,fun h1 h2 ⟨o,e,r⟩ k=>⟨o,k o e,r⟩⟩
def yI (T:String):V→List V→Hp→VK→Prop:=fun x xs H Q=>∃ d kvs,x=.ref d∧xs=[]∧H d=some (.dK kvs)∧∀ v,H v=none→Q (.ref v) (upd H v (cC T v d))
section
variable {X:Cx}
theorem oK:MtR X "dict.values" (yI "dict_values"):=by
 intro pins s σ H x xs v us Q I rx rs h;obtain ⟨d,kvs,rfl,rfl,hd,q⟩:=h
 cases (show v=Value.ref d from rx)
 cases rs;obtain ⟨_,lo,vs,_,dd⟩:=kR I.hok hd;exact call_meetsIn PySem.F.slot_dict_values dd.typeIs PySem.F.entry_dict_values (PySem.F.args_dict_values_1 _) (meets_dict_values (bw X.prog X.w) d lo)
  ⟨⟨vs,dd⟩,.ref s.heap.objs.size,_,I.laid (a:=s.heap.objs.size) (o:=cC "dict_values" s.heap.objs.size d) (t':=s.toks) (fun b u e=>Heap.get?_push_of_some _ e) (Nat.le_refl _) vf,rfl,q _ (I.hok.fresh (Nat.le_refl _))⟩
theorem rj:MtR X "dict.items" (yI "dict_items"):=by
 intro pins s σ H x xs v us Q I rx rs h;obtain ⟨d,kvs,rfl,rfl,hd,q⟩:=h
 cases (show v=Value.ref d from rx)
 cases rs;obtain ⟨_,lo,vs,_,dd⟩:=kR I.hok hd;exact call_meetsIn PySem.F.slot_dict_items dd.typeIs PySem.F.entry_dict_items (PySem.F.args_dict_items_1 _) (meets_dict_items (bw X.prog X.w) d lo)
  ⟨⟨vs,dd⟩,.ref s.heap.objs.size,_,I.laid (a:=s.heap.objs.size) (o:=cC "dict_items" s.heap.objs.size d) (t':=s.toks) (fun b u e=>Heap.get?_push_of_some _ e) (Nat.le_refl _) vf,rfl,q _ (I.hok.fresh (Nat.le_refl _))⟩
end
theorem uG {κ:Type}:∀ {kvs:List (κ×V)} {vs:List (κ×Value)},KV kvs vs→a9 (kvs.map (·.2)) (vs.map (·.2))
 | _,_,.nil=>.nil
 | _,_,.cons r t=>.cons r.2 (uG t)
theorem sZ {κ:Type}:∀ {kvs:List (κ×V)} {vs:List (κ×Value)} {i:Nat} {k:κ} {u:Value},KV kvs vs→vs[i]?=some (k,u)→∃ x,kvs[i]?=some (k,x)∧a7 x u
 | _,_,_,_,_,.nil,e=>by simp at e
 | _,_,0,k,u,.cons (a:=p) r t,e=>by
  (simp only [List.getElem?_cons_zero,Option.some.injEq] at e; subst e)
  exact ⟨p.2,congrArg some (Prod.ext r.1 rfl),r.2⟩
 | _,_,i+1,k,u,.cons r t,e=>by
  obtain ⟨x,h1,h2⟩:=sZ (i:=i) t (by simpa using e);exact ⟨x,by simpa using h1,h2⟩
def yG:List V→Hp→VK→Prop:=fun xs H Q=>∃ v d kvs,xs=[.ref v]∧H v=some (cC "dict_values" v d)∧H d=some (.dK kvs)∧∀ l,H l=none→Q (.ref l) (upd H l (.lst (kvs.map (·.2))))
theorem qE {X:Cx} (hc:X.calm=true):cb X (.type "list") yG:=by
 intro pins s σ H xs us Q I r h;obtain ⟨v,d,kvs,rfl,hv,hd,q⟩:=h;obtain ⟨u,rfl,rx⟩:=kZ r
 cases rx;obtain ⟨z,lo,vs,rel,dd⟩:=kR I.hok hd;obtain ⟨ep,at'⟩:=dd.dictAt;have vw:s.heap.IsValuesView v d:=(show bq X.prog X.w H s.heap v (.ext (pd "dict_values" v d)) from I.hok v _ hv).1;refine kdl_call (kdl_values (knd:=bw X.prog X.w) (kvs:=vs) (ep:=ep)) (I.ok.hd hc) ⟨vw,at'⟩ (by rw [← rel.length]; exact z) fun h' tk acc c kp e it=>?_;have ea:acc.toList=vs.map (·.2):=kdl_vals_eq acc.toList (by rw [Array.length_toList]; exact it.1) fun j w' hw=>it.2 j w' (by rw [← Array.getElem?_toList]; exact hw);refine ⟨.ref s.heap.objs.size,_,I.laid (a:=s.heap.objs.size) (o:=.lst (kvs.map (·.2))) (t':=tk) kp (Nat.le_refl _) ⟨by rw [List.length_map]; exact z,vs.map (·.2),c,uG rel,?_⟩,rfl,q _ (I.hok.fresh (Nat.le_refl _))⟩;rw [e,← ea,Array.toArray_toList]
theorem rJ {H:Hp} {Q:VK} {v d:Addr} {kvs:List (Key×V)} (hv:H v=some (cC "dict_values" v d)) (hd:H d=some (.dK kvs)) (q:∀ l,H l=none→Q (.ref l) (upd H l (.lst (kvs.map (·.2))))):yG [.ref v] H Q:=⟨v,d,kvs,rfl,hv,hd,q⟩
def Cn (H:Hp) (ys:List V) (kvs:List (Key×V)):Prop:=ys.length=kvs.length∧∀ (i:Nat) y k x,ys[i]?=some y→kvs[i]?=some (k,x)→∃ b,y=.ref b∧H b=some (.tup [kV k,x])
def yF:List V→Hp→VK→Prop:=fun xs H Q=>∃ v d kvs,xs=[.ref v]∧H v=some (cC "dict_items" v d)∧H d=some (.dK kvs)∧∀ l ys H',ao H H'→H l=none→H' l=some (.lst ys)→Cn H' ys kvs→Q (.ref l) H'
theorem uD {P:Program} {w:World} {k:Key} {u:Value} (h:(bw P w).is k u=true):a7 (kV k) u:=by
 rcases bW (show mz k u=true from h) with ⟨i,t,rfl,rfl⟩ | ⟨x,t,rfl,rfl⟩
 ·exact ⟨t,rfl⟩
 ·exact ⟨t,rfl⟩
theorem wM {X:Cx} (hc:X.calm=true):cb X (.type "list") yF:=by
  intro pins s σ H xs us Q I r h;obtain ⟨v,d,kvs,rfl,hv,hd,q⟩:=h;obtain ⟨u,rfl,rx⟩:=kZ r
  cases rx;obtain ⟨z,lo,vs,rel,dd⟩:=kR I.hok hd;obtain ⟨ep,at'⟩:=dd.dictAt;have vw:s.heap.IsItemsView v d:=(show bq X.prog X.w H s.heap v (.ext (pd "dict_items" v d)) from I.hok v _ hv).1;have zl:vs.length≤sizeLine:=by rw [← rel.length]; exact z
  refine kdx_call (knd:=bw X.prog X.w) (kvs:=vs) (ep:=ep) (I.ok.hd hc) vw at' zl fun h' tk acc c as kp e la G ea=>?_
  -- the abstract heap
  have nd:as.Nodup:=G.rise.imp fun {a b} (z:a<b)=>Nat.ne_of_lt z
  let T:Nat→HO:=fun j=>.tup [kV ((kvs.map (·.1)).getD j (.inl 0)),(kvs.map (·.2)).getD j .non]
  let H':Hp:=fun b=>if b∈as then some (T (as.idxOf b)) else (upd H s.heap.objs.size (.lst (as.map V.ref))) b
  have big:∀ b∈as,s.heap.objs.size<b:=G.above;have nS:s.heap.objs.size∉as:=fun z=>Nat.lt_irrefl _ (big _ z);have sm:ao H H':=fun b o hb=>by
    have lt:b<s.heap.objs.size:=I.hok.lt hb
    show (if b∈as then _ else _)=_
    rw [if_neg (fun z=>absurd (Nat.lt_trans lt (big b z)) (Nat.lt_irrefl _)),aw (Nat.ne_of_lt lt)]; exact hb
  have hl:H' s.heap.objs.size=some (.lst (as.map V.ref)):=by
    show (if _∈as then _ else _)=_
    rw [if_neg nS,ai]
  have at2:∀ (j:Nat) (b:Addr) (k:Key) (x:V),as[j]?=some b→kvs[j]?=some (k,x)→H' b=some (.tup [kV k,x]):=fun j b k x hj hk=>by
    have hm:=List.mem_of_getElem? hj
    show (if b∈as then _ else _)=_
    obtain ⟨hlt,hjb⟩:=List.getElem?_eq_some_iff.mp hj;have ix:as.idxOf b=j:=by rw [← hjb]; exact List.Nodup.idxOf_getElem nd j hlt
    rw [if_pos hm,ix]
    show some (HO.tup [kV ((kvs.map (·.1)).getD j (.inl 0)),(kvs.map (·.2)).getD j .non])=_
    simp only [List.getD_eq_getElem?_getD,List.getElem?_map,hk];rfl
  have pw:Cn H' (as.map V.ref) kvs:=⟨by rw [List.length_map,la,rel.length],fun i y k x hy hk=>by
    rw [List.getElem?_map] at hy;obtain ⟨b,hb,rfl⟩:=Option.map_eq_some_iff.mp hy;exact ⟨b,rfl,at2 i b k x hb hk⟩⟩
  have J:Inv X pins σ H' { s with heap:=h',toks:=tk }:=I.more kp sm fun b o hb=>by
    by_cases hm:b∈as
    · right
      refine ⟨Nat.le_of_lt (big b hm),?_⟩;obtain ⟨j,hj⟩:=List.mem_iff_getElem?.mp hm;obtain ⟨key,k,xv,h1,h2,h3⟩:=G.pairs j b hj;obtain ⟨x,e1,e2⟩:=sZ rel h1;rw [at2 j b k x hj e1] at hb
      cases hb;refine ⟨?_,[key,xv],.cons (uD h2) (.cons e2 .nil),_,h3,rfl,_,rfl⟩
      show 2≤sizeLine
      decide
    · have hb':upd H s.heap.objs.size (.lst (as.map V.ref)) b=some o:=by
        have:H' b=upd H s.heap.objs.size (.lst (as.map V.ref)) b:=if_neg hm
        rw [← this]; exact hb
      by_cases hs:b=s.heap.objs.size
      · right
        subst hs;rw [ai] at hb'
        cases hb';refine ⟨Nat.le_refl _,by rw [List.length_map,la]; exact zl,acc.toList,c,?_,by rw [e,Array.toArray_toList]⟩;rw [ea];have rr:∀ l:List Addr,a9 (l.map V.ref) (l.map Value.ref):=fun l=>by
          induction l with
          | nil=>exact .nil
          | cons a l ih=>exact .cons rfl ih
        exact rr as
      · left
        rw [aw hs] at hb';exact hb'
  exact ⟨.ref s.heap.objs.size,H',J,rfl,q _ _ H' sm (I.hok.fresh (Nat.le_refl _)) hl pw⟩
theorem zd {H:Hp} {Q:VK} {v d:Addr} {kvs:List (Key×V)} (hv:H v=some (cC "dict_items" v d)) (hd:H d=some (.dK kvs)) (q:∀ l ys H',ao H H'→H l=none→H' l=some (.lst ys)→Cn H' ys kvs→Q (.ref l) H'):yF [.ref v] H Q:=⟨v,d,kvs,rfl,hv,hd,q⟩
theorem jO {H:Hp} {Q:VK} {T:String} {d:Addr} {kvs:List (Key×V)} (hd:H d=some (.dK kvs)) (q:∀ v,H v=none→Q (.ref v) (upd H v (cC T v d))):yI T (.ref d) [] H Q:=⟨d,kvs,rfl,rfl,hd,q⟩
theorem pU {K:W.Frag} {H:Hp} {d:Addr} {kvs:List (Key×V)} {q:Prop} (hd:H d=some (.dK kvs)) (hq:q):rBM K "dict" (.ref d) H q:=⟨.inr (.inr (.inl ⟨rfl,.inl ⟨kvs,hd⟩⟩)),hq⟩
def D3:R2:=fun x y H Q=>∃ (ds:List PyData) (d:PyData),Rep H (.list ds) y∧Rep H d x∧PyData.canLayAll0 ds=true∧d.canLay0=true∧d.depth≤60∧Q (.bl (ds.any fun y=>PyData.eqv y d)) H
theorem x8 {X:Cx} (hu:X.A.units+64<cLine):OpR X (compareOp .In) D3:=by
 intro pins s σ H x y v u Q I rx ry h;obtain ⟨ds,d,h1,h2,s1,s2,s3,q⟩:=h;obtain ⟨as,r1⟩:=h1.reads I ry;obtain ⟨bs,r2⟩:=h2.reads I rx;exact SeqAt.in_list_reads r1 r2 s1 s2 (by have:=Nat.min_le_right (PyData.depthAll ds) d.depth; omega) ⟨.bl _,H,I,rfl,q⟩
def BX:R2:=fun x y H Q=>∃ (ds:List PyData) (d:PyData),Rep H (.list ds) y∧Rep H d x∧PyData.canLayAll0 ds=true∧d.canLay0=true∧d.depth≤60∧Q (.bl (!ds.any fun y=>PyData.eqv y d)) H
theorem AU {X:Cx} (hu:X.A.units+64<cLine):OpR X (compareOp .NotIn) BX:=by
 intro pins s σ H x y v u Q I rx ry h;obtain ⟨ds,d,h1,h2,s1,s2,s3,q⟩:=h;obtain ⟨as,r1⟩:=h1.reads I ry;obtain ⟨bs,r2⟩:=h2.reads I rx;exact SeqAt.notIn_list_reads r1 r2 s1 s2 (by have:=Nat.min_le_right (PyData.depthAll ds) d.depth; omega) ⟨.bl _,H,I,rfl,q⟩
def gL (d:Addr) (es:Array DictEntry) (ep:Nat) (h:Heap):Prop:=∃ o,h.get? d=some o∧o.ExactDict∧o.data=.dict es ep
section
variable {prog:Program} {w:World} {A:Around} {E:Value→Shared→Prop} {s:Shared} {d it:Addr} {es:Array DictEntry} {ep i n:Nat}
theorem gL.ty (r:gL d es ep s.heap):s.TypeIs (.ref d) "dict":=let ⟨o,e,x,_⟩:=r; ⟨o,e,x.1⟩
theorem gL.lt {h:Heap} (r:gL d es ep h):d<h.objs.size:=let ⟨_,e,_⟩:=r; Heap.lt_size e
theorem gL.mv {h h':Heap} (r:gL d es ep h) (k:∀ o,h.get? d=some o→h'.get? d=some o):gL d es ep h':=let ⟨o,e,x⟩:=r; ⟨o,k o e,x⟩
theorem yM {Q:Value→Shared→Prop} (lo:(d==sysModules)=false) (r:gL d es ep s.heap)
  (q:Q (.ref s.heap.objs.size) { s with heap:=s.heap.push { cls:=.type "dict_keyiterator",data:=.fields #[.ref d,.int 0 0,.int es.size 0,.int ep 0] } }):wpAny (model prog w) A (pyIter (.ref d)) Q E s:=by
 obtain ⟨ob,eo,xo,dto⟩:=id r;refine wpAny_pyIter_slot r.ty F.slot_dict_iter (wpAny_call_entry F.slot_dict_iter r.ty F.entry_dict_iter ?g1 (F.args_dict_iter_1 _))
 case g1 =>
  unfold Builtin.«dict.__iter__» Builtin.Dict.dictSlotNone;have sh:Builtin.Dict.showsAll d=pure ():=by unfold Builtin.Dict.showsAll; rw [lo]; rfl
  refine wpAny_bind (wpAny_bind (wpAny_notOrdered_dict r.ty (show wpAny _ _ (pure (Value.ref d)) _ _ s from wpAny_pure (show wpAny _ _ (Builtin.Dict.showsAll d >>= _) _ _ s from ?g2))))
  case g2 =>
   rw [sh];refine wpAny_bind (wpAny_pure (wpAny_bind (wpAny_dictEntries eo dto (wpAny_bind (wpAny_dictEpoch eo dto (wpAny_bind (wpAny_newObj_type (wpAny_pure ⟨_,rfl,"dict_keyiterator",_,⟨_,Heap.get?_push_size _ rfl,rfl⟩,F.slot_dict_keyiterator_next.lookup,?g3⟩))))))))
   case g3=>simpa [rawInt] using q
theorem ya:Builtin.Dict_items.ownsTuple "dict_keyiterator"=false:=by decide
theorem yL {e:DictEntry} {Q:Option Value→Shared→Prop} (hit:s.heap.IsKeyIter it d i es.size ep) (r:gL d es ep s.heap) (hx:es[i]?=some e)
  (q:∀ h',h'.IsKeyIter it d (i+1) es.size ep→Heap.SameBut it s.heap h'→Q (some e.key) { s with heap:=h' }):wpAny (model prog w) A (pyNext (.ref it)) Q E s:=by
 obtain ⟨oi,ei,ci,di⟩:=id hit;obtain ⟨ob,eo,xo,dto⟩:=id r;obtain ⟨hlt,hxe⟩:=Array.getElem?_eq_some_iff.mp hx;have nn:¬ ((i:Int)<0):=Int.not_lt.mpr (Int.natCast_nonneg i)
 have hn:(s.heap.update it (Obj.mapFields (·.setIfInBounds 1 (rawInt ((i:Int)+1))))).IsKeyIter it d (i+1) es.size ep :=
  ⟨_,Heap.get?_update_self _ ei (Obj.isFreed_of_fields (Obj.data_mapFields di _)),(Obj.cls_mapFields ..).trans ci,(Obj.data_mapFields di _).trans (by simp [rawInt])⟩
 unfold pyNext;refine wpAny_bind (wpAny_attempt (wpAny_callSpecial?_slot (name:=Str.ofString "__next__") hit.typeIs F.slot_dict_keyiterator_next (wpAny_call_entry F.slot_dict_keyiterator_next hit.typeIs F.entry_dict_keyiterator_next ?g1 (F.args_dict_keyiterator_next_1 _))))
 case g1 =>
  refine wpAny_bind (wpAny_pure (wpAny_bind (wpAny_bind (wpAny_bind (wpAny_typeNameOfWhole_keyiter hit.typeIs (wpAny_pure (wpAny_bind (wpAny_fieldsOf ei di ?g2))))))))
  case g2 =>
   simp only [ya,Bool.false_eq_true,if_false]
   (show wpAny _ _ (if (Value.ref d==Value.none)=true then _ else _) _ _ s; rw [show (Value.ref d==Value.none)=false from rfl,if_neg Bool.false_ne_true])
   refine wpAny_bind (wpAny_pure (wpAny_bind (wpAny_dictEntries eo dto ?g3)))
   case g3 =>
    rw [if_neg (by simp)];refine wpAny_bind (wpAny_pure (wpAny_bind (wpAny_dictEpoch eo dto ?g4)))
    case g4 =>
     rw [if_neg (by simp)];refine wpAny_pure ?g5
     case g5 =>
      simp only [nn,if_false,Int.toNat_natCast,hx];refine wpAny_bind (wpAny_bind (wpAny_typeNameOfWhole_keyiter hit.typeIs (wpAny_pure (wpAny_bind (wpAny_isOneOf_keyiter hit.typeIs (show wpAny _ _ (setField (.ref it) 1 (rawInt ((i:Int)+1)) >>= _) _ _ s from wpAny_bind (wpAny_setField ei di (by simp) (wpAny_bind (wpAny_holding (wpAny_bind (wpAny_isOneOf_keyiter hn.typeIs ?g6)))))))))))
      case g6 =>
       show wpAny _ _ (pure e.key) _ _ _
       exact wpAny_pure (wpAny_pure ⟨_,rfl,wpAny_pure (q _ hn (Heap.SameBut.update ..))⟩)
theorem A9 {Q:Option Value→Shared→Prop} (hh:A.handled=none) (hit:s.heap.IsKeyIter it d es.size es.size ep) (r:gL d es ep s.heap)
  (q:∀ h',Heap.ExtBut it s.heap h'→Q none { s with heap:=h' }):wpAny (model prog w) A (pyNext (.ref it)) Q E s:=by
 obtain ⟨oi,ei,ci,di⟩:=id hit;obtain ⟨ob,eo,xo,dto⟩:=id r;have nn:¬ ((es.size:Int)<0):=Int.not_lt.mpr (Int.natCast_nonneg _);have hx:es[es.size]?=none:=Array.getElem?_eq_none (Nat.le_refl _);unfold pyNext;refine wpAny_bind (wpAny_attempt (wpAny_callSpecial?_slot (name:=Str.ofString "__next__") hit.typeIs F.slot_dict_keyiterator_next (wpAny_call_entry F.slot_dict_keyiterator_next hit.typeIs F.entry_dict_keyiterator_next ?g1 (F.args_dict_keyiterator_next_1 _))))
 case g1 =>
  refine wpAny_bind (wpAny_pure (wpAny_bind (wpAny_bind (wpAny_bind (wpAny_typeNameOfWhole_keyiter hit.typeIs (wpAny_pure (wpAny_bind (wpAny_fieldsOf ei di ?g2))))))))
  case g2 =>
   simp only [ya,Bool.false_eq_true,if_false]
   (show wpAny _ _ (if (Value.ref d==Value.none)=true then _ else _) _ _ s; rw [show (Value.ref d==Value.none)=false from rfl,if_neg Bool.false_ne_true])
   refine wpAny_bind (wpAny_pure (wpAny_bind (wpAny_dictEntries eo dto ?g3)))
   case g3 =>
    rw [if_neg (by simp)];refine wpAny_bind (wpAny_pure (wpAny_bind (wpAny_dictEpoch eo dto ?g4)))
    case g4 =>
     rw [if_neg (by simp)];refine wpAny_pure ?g5
     case g5 =>
      simp only [nn,if_false,Int.toNat_natCast,hx];refine wpAny_bind (wpAny_bind (wpAny_typeNameOfWhole_keyiter hit.typeIs (wpAny_pure (show wpAny _ _ (setField (.ref it) 0 .none >>= _) _ _ s from wpAny_bind (wpAny_setField ei di (by simp) (show wpAny _ _ (newExc (.type "StopIteration") [] >>= _) _ _ _ from wpAny_bind ?g6))))))
      case g6 =>
       simp only [newExc,newTuple];refine wpAny_bind (wpAny_newObj_type (wpAny_bind (m:=firstArgMember _ _) (wpAny_of_eq (a:=Value.none) (by first | rfl | (simp only [firstArgMember]; rfl)) (wpAny_newObj_type ?g7 (by size_fits)))) (by size_fits))
       case g7 =>
        simp only [raiseNew];refine wpAny_bind (wpAny_handled ?g8)
        case g8 =>
         (rw [show A.in1.handled=none from hh]; refine wpAny_bind (wpAny_pure (wpAny_throw ?g9)))
         case g9=>exact wpAny_bind (wpAny_isInstance (T:="StopIteration") (b:=true) ⟨_,Heap.get?_push_size _ rfl,rfl⟩ isSubtype_stop (wpAny_pure (q _ (((Heap.SameBut.update ..).extBut.push _).push _))))
theorem Ba (lo:(d==sysModules)=false):KdlSrc prog w "dict" d d es.size (fun i v=>∃ e,es[i]?=some e∧v=e.key) (gL d es ep) where
 type:=fun _ r=>r.ty
 there:=fun _ r=>⟨r.lt,r.lt⟩
 keep:=fun _ _ r k=>r.mv fun o e=>k d (.inl rfl) o e
 notList:=by decide
 notTuple:=by decide
 hint:=fun _ _ _ _ r q=>kdl_hint_dict r.ty q
 iter:=fun A s hh r=>by
  have ne:d≠s.heap.objs.size:=Nat.ne_of_lt r.lt;refine ⟨_,fun i h=>h.IsKeyIter s.heap.objs.size d i es.size ep∧gL d es ep h,fun E Q q=>yM lo r q,⟨fun b hb=>by simp at hb; simp [hb],fun i h h' st k=>⟨st.1.at fun o e=>k _ (by simp) o e,st.2.mv fun o e=>k d (by simp) o e⟩,fun i s1 Q E hi st q=>?_,fun s1 Q E st q=>?_,fun i s1 Q E st q=>wpAny_pyIter_keyiter st.1 q⟩,⟨_,Heap.get?_push_size _ rfl,rfl,rfl⟩,r.mv fun o e=>Heap.get?_push_of_some _ e⟩
  ·have hx:es[i]?=some es[i]:=Array.getElem?_eq_getElem hi;exact yL st.1 st.2 hx fun h' hit' sb=>q _ h' s1.toks ⟨_,hx,rfl⟩ ⟨hit',st.2.mv fun o e=>sb.extBut d o ne e⟩ fun b o hb e=>sb.extBut b o (fun z=>hb (by simp [z])) e
  ·exact A9 hh st.1 st.2 fun h' eb=>q h' s1.toks fun b o hb e=>eb b o (fun z=>hb (by simp [z])) e
end
def PwK (H:Hp) (ys:List V) (ks:List (List Key)):Prop:=ys.length=ks.length∧∀ (i:Nat) y k,ys[i]?=some y→ks[i]?=some k→∃ b,y=.ref b∧H b=some (.tup (k.map kV))
def yE:List V→Hp→VK→Prop:=fun xs H Q=>∃ d kvs,xs=[.ref d]∧H d=some (.dT kvs)∧∀ l ys,H l=none→PwK H ys (kvs.map (·.1))→Q (.ref l) (upd H l (.lst ys))
theorem wL {X:Cx} (hc:X.calm=true):cb X (.type "list") yE:=by
 intro pins s σ H xs us Q I r h;obtain ⟨d,kvs,rfl,hd,q⟩:=h;obtain ⟨u,rfl,rx⟩:=kZ r
 cases rx;obtain ⟨z,lo,zs,rel,o,es,ep,eo,xo,dto,he,nd⟩:=I.hok d _ hd;have sz:es.size=kvs.length:=by rw [← Array.length_toList,he,List.length_map,← Paired.length rel]
 refine kdl_call (Ba (es:=es) (ep:=ep) lo) (I.ok.hd hc) ⟨o,eo,xo,dto⟩ (by rw [sz]; exact z) fun h' tk acc c kp e it=>?_;have key:∀ (i:Nat) (v:Value),acc.toList[i]?=some v→∃ x,zs[i]?=some x∧v=.ref x.2.1:=fun i v hv=>by
  obtain ⟨en,h1,h2⟩:=it.2 i v (by rw [← Array.getElem?_toList]; exact hv);rw [← Array.getElem?_toList,he,List.getElem?_map] at h1;obtain ⟨x,h3,rfl⟩:=Option.map_eq_some_iff.mp h1;exact ⟨x,h3,h2⟩
 have la:acc.toList.length=zs.length:=by rw [Array.length_toList,it.1,← Array.length_toList,he,List.length_map]
 have ea:acc.toList=(zs.map fun x=>Value.ref x.2.1):=List.ext_getElem? fun i=>by
  cases hv:acc.toList[i]? with
  | none =>
   rw [List.getElem?_eq_none_iff] at hv;rw [List.getElem?_eq_none (by rw [List.length_map]; omega)]
  | some v =>
   obtain ⟨x,h1,h2⟩:=key i v hv;rw [List.getElem?_map,h1,h2]; rfl
 have rr:∀ l:List (List Key×Addr×Value),a9 (l.map fun x=>V.ref x.2.1) (l.map fun x=>Value.ref x.2.1):=fun l=>by
  induction l with
  | nil => exact .nil
  | cons a l ih => exact .cons rfl ih
 have pw:PwK H (zs.map fun x=>V.ref x.2.1) (kvs.map (·.1)):=by
  refine ⟨by rw [List.length_map,List.length_map,Paired.length rel],fun i y k hy hk=>?_⟩;rw [List.getElem?_map] at hy hk;obtain ⟨x,h1,rfl⟩:=Option.map_eq_some_iff.mp hy;obtain ⟨p,h2,rfl⟩:=Option.map_eq_some_iff.mp hk
  have g:∀ {kvs:List (List Key×V)} {zs:List (List Key×Addr×Value)} {i:Nat} {p:List Key×V} {x:List Key×Addr×Value},Paired (fun (p:List Key×V) (q:List Key×Addr×Value)=>p.1=q.1∧H q.2.1=some (.tup (p.1.map kV))∧a7 p.2 q.2.2) kvs zs→kvs[i]?=some p→zs[i]?=some x→H x.2.1=some (.tup (p.1.map kV)):=by
   intro kvs zs i p x rel
   induction rel generalizing i with
   | nil=>intro h; simp at h
   | cons r t ih =>
    intro h1 h2
    cases i with
    | zero =>
     simp only [List.getElem?_cons_zero,Option.some.injEq] at h1 h2;subst h1 h2;exact r.2.1
    | succ i=>exact ih (by simpa using h1) (by simpa using h2)
  exact ⟨x.2.1,rfl,g rel h2 h1⟩
 refine ⟨.ref s.heap.objs.size,_,I.laid (a:=s.heap.objs.size) (o:=.lst (zs.map fun x=>V.ref x.2.1)) (t':=tk) kp (Nat.le_refl _) ⟨by rw [List.length_map,← Paired.length rel]; exact z,_,c,rr zs,?_⟩,rfl,q _ _ (I.hok.fresh (Nat.le_refl _)) pw⟩;rw [e,← ea,Array.toArray_toList]
theorem zc {H:Hp} {Q:VK} {d:Addr} {kvs:List (List Key×V)} (hd:H d=some (.dT kvs)) (q:∀ l ys,H l=none→PwK H ys (kvs.map (·.1))→Q (.ref l) (upd H l (.lst ys))):yE [.ref d] H Q:=⟨d,kvs,rfl,hd,q⟩
def zX (tk tv:TE):TE:=fun σ H Q=>∀ p,H p=none→tk σ (upd H p (.dT [])) fun x H1=>tv σ H1 fun y H2=>∃ b ks z,[(x,y)]=[(V.ref b,z)]∧H2 b=some (.tup (ks.map kV))∧H2 p=some (.dT [])∧Q (.ref p) (upd H2 p (.dT [(ks,z)]))
theorem rA {X:Cx} {pos:Pos} {k v:Expr} {tk tv:TE} (hu:X.A.units+1<cLine) (hk:PE X k tk) (hv:PE X v tv):PE X (.Dict [some k] [v] pos) (zX tk tv):=by
 intro pins s σ H Q I q;have hn:=I.hok.fresh (Nat.le_refl s.heap.objs.size);have I1:=I.laid (a:=s.heap.objs.size) (o:=.dT []) (h':=s.heap.push { cls:=.type "dict",data:=.dict #[] }) (t':=s.toks) (fun _ _ q=>Heap.get?_push_of_some _ q) (Nat.le_refl _) (qS s.heap I.big);have pp:=mM (pos:=pos) hk hv uQ pins _ σ _ (fun ps H2=>∃ b ks y,ps=[(.ref b,y)]∧H2 b=some (.tup (ks.map kV))∧H2 s.heap.objs.size=some (.dT [])∧Q (.ref s.heap.objs.size) (upd H2 s.heap.objs.size (.dT [(ks,y)]))) I1;refine wpAny_Dict_any rfl rfl (fun z=>nomatch z) (Nat.le_add_left 1 14) (thn (pp ?_) fun ws s2 ⟨ps,H2,I2,rel,b,ks,y,ep,eb,ed,q2⟩=>?_)
 ·exact q _ hn
 ·subst ep
  cases rel with
  | @cons _ u _ _ r t =>
   cases t;obtain ⟨u1,u2⟩:=u;obtain ⟨r1,r2⟩:=r
   cases (show u1=Value.ref b from r1)
   obtain ⟨z,lo,xs,rl,dd⟩:=wZ I2.hok ed
   cases rl;have hu':(tupleKind (bw X.prog X.w)).room X.A:=(by show X.A.units<cLine; omega)
   unfold storeAll;rw [List.forIn_cons];refine wpAny_bind (wpAny_bind (wpAny_dictSet_heap (hsz:=Nat.zero_le _) hu' (gU I2.hok eb) dd fun h' dd' hs=>wpAny_pure ?_));dsimp only;rw [List.forIn_nil];refine wpAny_pure ?_;obtain ⟨q',es,ep,hq,h2',h3,h4,_,h5⟩:=dd';refine ⟨.ref s.heap.objs.size,_,iz (ob:=.dT [(ks,y)]) I2 (by rw [ed]; exact True.intro) hs ⟨q',hq⟩ ⟨by show 1≤sizeLine; decide,lo,storedH [] ks b u2,?_,q',es,ep,hq,h2',h3,h4,h5⟩,rfl,q2⟩;exact .cons ⟨rfl,(aw (fw eb ed (fun z=>nomatch z))).trans eb,r2⟩ .nil
theorem yS {tk tv:TE} {σ:St} {H:Hp} {Q:VK} (h:∀ p,H p=none→tk σ (upd H p (.dT [])) fun x H1=>tv σ H1 fun y H2=>∃ b ks z,[(x,y)]=[(V.ref b,z)]∧H2 b=some (.tup (ks.map kV))∧H2 p=some (.dT [])∧Q (.ref p) (upd H2 p (.dT [(ks,z)]))):zX tk tv σ H Q:=h
end L2
namespace Fm
noncomputable abbrev aS:=List L2.Key
noncomputable abbrev Tie:=aS×aS×Int
inductive Con (F:List Tie):aS→aS→Prop
 | refl (a:aS):Con F a a
 | fwd {a b c:aS} {w:Int}:Con F a b→(b,c,w)∈F→Con F a c
 | bwd {a b c:aS} {w:Int}:Con F a b→(c,b,w)∈F→Con F a c
section
variable {F:List Tie} {v:aS→Int} {G:aS→aS×Int} {D:List aS}
theorem Con.trans {a b c:aS} (h:Con F a b) (k:Con F b c):Con F a c:=by
 induction k with
 | refl=>exact h
 | fwd _ e ih=>exact .fwd ih e
 | bwd _ e ih=>exact .bwd ih e
theorem Con.one {a b:aS} {w:Int} (e:(a,b,w)∈F):Con F a b:=.fwd (.refl a) e
theorem Con.symm {a b:aS} (h:Con F a b):Con F b a:=by
 induction h with
 | refl=>exact .refl _
 | fwd _ e ih=>exact (Con.bwd (.refl _) e).trans ih
 | bwd _ e ih=>exact (Con.one e).trans ih
theorem Con.mono {F':List Tie} (s:∀ e∈F,e∈F') {a b:aS} (h:Con F a b):Con F' a b:=by
 induction h with
 | refl=>exact .refl _
 | fwd _ e ih=>exact .fwd ih (s _ e)
 | bwd _ e ih=>exact .bwd ih (s _ e)
theorem uw {a b:aS}:Con [] a b↔a=b:=by
 constructor
 ·intro h
  induction h with
  | refl => rfl
  | fwd _ e _ => cases e
  | bwd _ e _ => cases e
 ·rintro rfl; exact .refl _
theorem lY {e:Tie} {a b:aS}:Con (F++[e]) a b↔Con F a b∨(Con F a e.1∧Con F e.2.1 b)∨(Con F a e.2.1∧Con F e.1 b):=by
 have up:∀ {a b},Con F a b→Con (F++[e]) a b:=fun h=>h.mono fun x hx=>List.mem_append_left _ hx;have me:(e.1,e.2.1,e.2.2)∈F++[e]:=List.mem_append_right _ List.mem_cons_self;constructor
 ·intro h
  induction h with
  | refl => exact .inl (.refl _)
  | @fwd b c w _ hm ih =>
   rcases List.mem_append.mp hm with hm | hm
   ·rcases ih with h | ⟨h1,h2⟩ | ⟨h1,h2⟩
    ·exact .inl (.fwd h hm)
    ·exact .inr (.inl ⟨h1,.fwd h2 hm⟩)
    ·exact .inr (.inr ⟨h1,.fwd h2 hm⟩)
   ·cases List.mem_singleton.mp hm
    rcases ih with h | ⟨h1,h2⟩ | ⟨h1,h2⟩
    ·exact .inr (.inl ⟨h,.refl _⟩)
    ·exact .inr (.inl ⟨h1,.refl _⟩)
    ·exact .inl h1
  | @bwd b c w _ hm ih =>
   rcases List.mem_append.mp hm with hm | hm
   ·rcases ih with h | ⟨h1,h2⟩ | ⟨h1,h2⟩
    ·exact .inl (.bwd h hm)
    ·exact .inr (.inl ⟨h1,.bwd h2 hm⟩)
    ·exact .inr (.inr ⟨h1,.bwd h2 hm⟩)
   ·cases List.mem_singleton.mp hm
    rcases ih with h | ⟨h1,h2⟩ | ⟨h1,h2⟩
    ·exact .inr (.inr ⟨h,.refl _⟩)
    ·exact .inl h1
    ·exact .inr (.inr ⟨h1,.refl _⟩)
 ·rintro (h | ⟨h1,h2⟩ | ⟨h1,h2⟩)
  ·exact up h
  ·exact ((up h1).trans (.one me)).trans (up h2)
  ·exact ((up h1).trans (Con.one me).symm).trans (up h2)
def Sat (v:aS→Int) (F:List Tie):Prop:=∀ e∈F,e.2.2=(v e.1+v e.2.1)%2
structure i3 (D:List aS) (F:List Tie) (v:aS→Int) (G:aS→aS×Int):Prop where
 lead:∀ s∈D,∀ t∈D,((G s).1=(G t).1↔Con F s t)
 wt:∀ s∈D,∀ t∈D,Con F s t→((G s).2+(G t).2)%2=(v s+v t)%2
noncomputable def lone:aS→aS×Int:=fun s=>(s,0)
theorem i3.lone:i3 D [] v Fm.lone:=⟨fun s _ t _=>uw.symm,fun s _ t _ h=>by rw [uw.mp h]; show (0+0:Int)%2=_; omega⟩
noncomputable def gN (G:aS→aS×Int) (e:Tie):aS→aS×Int:=fun s =>
 if (G e.1).1=(G e.2.1).1 then G s else if (G s).1=(G e.2.1).1 then ((G e.1).1,((G s).2+((G e.1).2+(G e.2.1).2+e.2.2)%2)%2) else G s
theorem i3.tie (h:i3 D F v G) {e:Tie} (h1:e.1∈D) (h2:e.2.1∈D) (hw:e.2.2=(v e.1+v e.2.1)%2):i3 D (F++[e]) v (gN G e):=by
 by_cases c:(G e.1).1=(G e.2.1).1
 ·have cc:=(h.lead _ h1 _ h2).mp c;have eq:∀ {a b},Con (F++[e]) a b↔Con F a b:=fun {a b}=>by
   rw [lY];constructor
   ·rintro (h | ⟨h1,h2⟩ | ⟨h1,h2⟩)
    ·exact h
    ·exact (h1.trans cc).trans h2
    ·exact (h1.trans cc.symm).trans h2
   ·exact .inl
  have tg:gN G e=G:=funext fun s=>if_pos c;rw [tg];exact ⟨fun s hs t ht=>(h.lead s hs t ht).trans eq.symm,fun s hs t ht hc=>h.wt s hs t ht (eq.mp hc)⟩
 ·have nc:¬ Con F e.1 e.2.1:=fun z=>c ((h.lead _ h1 _ h2).mpr z);have tg:∀ s,gN G e s=if (G s).1=(G e.2.1).1 then ((G e.1).1,((G s).2+((G e.1).2+(G e.2.1).2+e.2.2)%2)%2) else G s:=fun s=>if_neg c
  have cl:∀ s∈D,((G s).1=(G e.2.1).1↔Con F s e.2.1):=fun s hs=>h.lead s hs _ h2;refine ⟨fun s hs t ht=>?_,fun s hs t ht hc=>?_⟩
  ·rw [tg,tg,lY];by_cases a:(G s).1=(G e.2.1).1
   ·have a':=(cl s hs).mp a;rw [if_pos a];by_cases b:(G t).1=(G e.2.1).1
    ·have b':=(cl t ht).mp b;rw [if_pos b];exact ⟨fun _=>.inl (a'.trans b'.symm),fun _=>rfl⟩
    ·rw [if_neg b];have b':¬ Con F t e.2.1:=fun z=>b ((cl t ht).mpr z);have l1:=h.lead _ h1 t ht;constructor
     ·intro z; exact .inr (.inr ⟨a',l1.mp z⟩)
     ·rintro (z | ⟨z1,z2⟩ | ⟨z1,z2⟩)
      ·exact absurd (z.symm.trans a') b'
      ·exact absurd (z2.symm) b'
      ·exact l1.mpr z2
   ·have a':¬ Con F s e.2.1:=fun z=>a ((cl s hs).mpr z);rw [if_neg a];by_cases b:(G t).1=(G e.2.1).1
    ·have b':=(cl t ht).mp b;rw [if_pos b];have l1:=h.lead s hs _ h1;constructor
     ·intro z; exact .inr (.inl ⟨l1.mp z,b'.symm⟩)
     ·rintro (z | ⟨z1,z2⟩ | ⟨z1,z2⟩)
      ·exact absurd (z.trans b') a'
      ·exact l1.mpr z1
      ·exact absurd z1 a'
    ·rw [if_neg b];have b':¬ Con F t e.2.1:=fun z=>b ((cl t ht).mpr z);have l1:=h.lead s hs t ht;constructor
     ·intro z; exact .inl (l1.mp z)
     ·rintro (z | ⟨z1,z2⟩ | ⟨z1,z2⟩)
      ·exact l1.mpr z
      ·exact absurd z2.symm b'
      ·exact absurd z1 a'
  ·rw [tg,tg];have w1:=fun s hs (z:Con F s e.1)=>h.wt s hs _ h1 z;have w2:=fun s hs (z:Con F s e.2.1)=>h.wt s hs _ h2 z;have key:∀ s∈D,∀ t∈D,Con F s e.2.1→Con F t e.1→(((G s).2+((G e.1).2+(G e.2.1).2+e.2.2)%2)%2+(G t).2)%2=(v s+v t)%2:=fun s hs t ht z1 z2=>by
    have:=w2 s hs z1
    have:=w1 t ht z2
    omega
   rcases lY.mp hc with z | ⟨z1,z2⟩ | ⟨z1,z2⟩
   ·have w0:=h.wt s hs t ht z;by_cases a:(G s).1=(G e.2.1).1
    ·have b:(G t).1=(G e.2.1).1:=(cl t ht).mpr (z.symm.trans ((cl s hs).mp a));rw [if_pos a,if_pos b];dsimp only;omega
    ·have b:¬ (G t).1=(G e.2.1).1:=fun b=>a ((cl s hs).mpr (z.trans ((cl t ht).mp b)));rw [if_neg a,if_neg b]; exact w0
   ·have a:¬ (G s).1=(G e.2.1).1:=fun a=>nc (z1.symm.trans ((cl s hs).mp a));have b:(G t).1=(G e.2.1).1:=(cl t ht).mpr z2.symm;rw [if_neg a,if_pos b];have:=key t ht s hs z2.symm z1
    dsimp only;rw [Int.add_comm,Int.add_comm (v s)]; exact this
   ·have a:(G s).1=(G e.2.1).1:=(cl s hs).mpr z1;have b:¬ (G t).1=(G e.2.1).1:=fun b=>nc (z2.trans ((cl t ht).mp b));rw [if_pos a,if_neg b];exact key s hs t ht z1 z2.symm
noncomputable def j0 (F:List Tie) (G:aS→aS×Int):aS→aS×Int:=F.foldl gN G
theorem i3.ties:∀ {F' F:List Tie} {G:aS→aS×Int},i3 D F v G→(∀ e∈F',e.1∈D∧e.2.1∈D)→Sat v F'→i3 D (F++F') v (j0 F' G)
 | [],F,G,h,_,_=>by rw [List.append_nil]; exact h
 | e::F',F,G,h,hd,hs=>by
  have:=i3.ties (F':=F') (F:=F++[e]) (h.tie (hd e List.mem_cons_self).1 (hd e List.mem_cons_self).2 (hs e List.mem_cons_self)) (fun x hx=>hd x (List.mem_cons_of_mem _ hx)) fun x hx=>hs x (List.mem_cons_of_mem _ hx)
  rw [List.append_assoc] at this;exact this
theorem i3.of (hd:∀ e∈F,e.1∈D∧e.2.1∈D) (hs:Sat v F):i3 D F v (j0 F Fm.lone):=by
 have:=(i3.lone (D:=D) (v:=v)).ties hd hs
 rwa [List.nil_append] at this
theorem lX {a:aS} {K:List aS} (h:a∈K) (cl:∀ e∈F,e.1∈K↔e.2.1∈K) {b:aS} (hc:Con F a b):b∈K:=by
 induction hc with
 | refl=>exact h
 | fwd _ e ih=>exact (cl _ e).mp ih
 | bwd _ e ih=>exact (cl _ e).mpr ih
end
end Fm
namespace Fm
variable {E:aS→aS→Int→Prop}
structure iL (E:aS→aS→Int→Prop) (root:aS) (ms:List aS) (ps:List (Nat×Int)):Prop where
 hd:ms[0]?=some root
 nd:ms.Nodup
 len:ps.length=ms.length
 par:∀ (j:Nat) s p n,0<j→ms[j]?=some s→ps[j]?=some (p,n)→p<j∧∃ s',ms[p]?=some s'∧E s s' n
theorem iL.one {root:aS}:iL E root [root] [(0,0)] :=
 ⟨rfl,by simp,rfl,fun j s p n h e=>by
  cases j with
  | zero => exact absurd h (Nat.lt_irrefl _)
  | succ j => simp at e⟩
theorem iL.snoc {root:aS} {ms:List aS} {ps:List (Nat×Int)} {s s':aS} {p:Nat} {n:Int} (h:iL E root ms ps) (hs:s∉ms) (hp:ms[p]?=some s') (e:E s s' n):iL E root (ms++[s]) (ps++[(p,n)]):=by
 have lp:p<ms.length:=(List.getElem?_eq_some_iff.mp hp).1;refine ⟨?_,?_,by rw [List.length_append,List.length_append,h.len]; rfl,fun j u q m h0 h1 h2=>?_⟩
 ·rw [List.getElem?_append_left (by omega)]; exact h.hd
 ·rw [List.nodup_append];exact ⟨h.nd,by simp,fun a ha b hb z=>hs (by rw [← List.mem_singleton.mp hb,← z]; exact ha)⟩
 ·by_cases hj:j<ms.length
  ·rw [List.getElem?_append_left hj] at h1;rw [List.getElem?_append_left (by rw [h.len]; exact hj)] at h2;obtain ⟨a,b,c,d⟩:=h.par j u q m h0 h1 h2;exact ⟨a,b,by rw [List.getElem?_append_left (by omega)]; exact c,d⟩
  ·rw [List.getElem?_append_right (by omega)] at h1;rw [List.getElem?_append_right (by rw [h.len]; omega),h.len] at h2;have:j - ms.length=0:=by
    have hh:=(List.getElem?_eq_some_iff.mp h1).1;rw [List.length_singleton] at hh;omega
   rw [this] at h1 h2
   cases h1; cases h2
   exact ⟨by omega,s',by rw [List.getElem?_append_left lp]; exact hp,e⟩
inductive Way (E:aS→aS→Int→Prop) (root:aS):aS→List Int→Prop
 | here:Way E root root []
 | on {s s':aS} {n:Int} {ns:List Int}:E s s' n→Way E root s' ns→Way E root s (n::ns)
inductive oZ (ps:List (Nat×Int)):Nat→List Int→Prop
 | zero:oZ ps 0 []
 | succ {j p:Nat} {n:Int} {ns:List Int}:0<j→ps[j]?=some (p,n)→p<j→oZ ps p ns→oZ ps j (n::ns)
theorem oZ.way {root:aS} {ms:List aS} {ps:List (Nat×Int)} (h:iL E root ms ps) {j:Nat} {ns:List Int} (b:oZ ps j ns):∀ {s:aS},ms[j]?=some s→Way E root s ns:=by
 induction b with
 | zero=>intro s hs; rw [h.hd] at hs; cases hs; exact .here
 | succ h0 hp lt _ ih =>
  intro s hs;obtain ⟨_,s',hs',e⟩:=h.par _ _ _ _ h0 hs hp;exact .on e (ih hs')
def uq (E:aS→aS→Int→Prop):Prop:=∀ s s' u u' n,E s s' n→E u u' n→s=u∨s=u'
theorem oZ.nodup {root:aS} {ms:List aS} {ps:List (Nat×Int)} (oe:uq E) (h:iL E root ms ps) {j:Nat} {ns:List Int} (b:oZ ps j ns) (hj:j<ms.length):ns.Nodup∧∀ n∈ns,∃ i p,0<i∧i≤j∧ps[i]?=some (p,n):=by
 induction b with
 | zero=>exact ⟨List.nodup_nil,fun n hn=>nomatch hn⟩
 | @succ j p n ns h0 hp lt _ ih =>
  obtain ⟨nd,all⟩:=ih (by omega);refine ⟨List.nodup_cons.mpr ⟨fun hm=>?_,nd⟩,fun m hm=>?_⟩
  ·obtain ⟨i,q,i0,il,hi⟩:=all n hm;have hil:i<ms.length:=by omega
   obtain ⟨_,s',hs',e1⟩:=h.par j _ p n h0 (List.getElem?_eq_getElem hj) hp;obtain ⟨ql,u',hu',e2⟩:=h.par i _ q n i0 (List.getElem?_eq_getElem hil) hi;rcases oe _ _ _ _ _ e1 e2 with z | z
   ·have:=(List.getElem_inj h.nd).mp z
    omega
   ·obtain ⟨hq,rfl⟩:=List.getElem?_eq_some_iff.mp hu';have:=(List.getElem_inj h.nd).mp z
    omega
  ·rcases List.mem_cons.mp hm with rfl | hm
   ·exact ⟨j,p,h0,Nat.le_refl _,hp⟩
   ·obtain ⟨i,q,i0,il,hi⟩:=all m hm;exact ⟨i,q,i0,by omega,hi⟩
theorem iL.back {root:aS} {ms:List aS} {ps:List (Nat×Int)} (h:iL E root ms ps):∀ j,j<ms.length→∃ ns,oZ ps j ns:=by
 intro j
 induction j using Nat.strongRecOn with
 | _ j ih =>
  intro hj;by_cases h0:j=0
  ·subst h0; exact ⟨[],.zero⟩
  ·have hp:j<ps.length:=by rw [h.len]; exact hj
   obtain ⟨lt,_⟩:=h.par j _ _ _ (by omega) (List.getElem?_eq_getElem hj) (List.getElem?_eq_getElem hp);obtain ⟨ns,b⟩:=ih _ lt (by omega);exact ⟨_,.succ (by omega) (List.getElem?_eq_getElem hp) lt b⟩
end Fm
namespace L2
open PySem PySem.Spec PyProof.Rows PySem.W
def yy (x y:V) (H:Hp) (Q:VK):Prop:=∃ a v,x=.ref a∧dM H a y (some v)∧Q v H
theorem Bf {td ty:TE} {σ:St} {H:Hp} {Q:VK} (h:td σ H fun x H1=>ty σ H1 fun y H2=>yy x y H2 Q):B8 td ty σ H Q:=h
theorem cX {H:Hp} {Q:VK} {a b:Addr} {kvs:List (List Key×V)} {k:List Key} {v:V} (hd:H a=some (.dT kvs)) (hb:H b=some (.tup (k.map kV))) (e:a8 kvs k=some v) (q:Q v H):yy (.ref a) (.ref b) H Q :=
 ⟨a,v,rfl,e ▸ dM.t hd hb,q⟩
theorem yR {H:Hp} {Q:VK} {a:Addr} {kvs:List (Key×V)} {i:Str} {v:V} (hd:H a=some (.dK kvs)) (e:a8 kvs (.inr i)=some v) (q:Q v H):yy (.ref a) (.str i) H Q :=
 ⟨a,v,rfl,e ▸ dM.k (k:=.inr i) hd,q⟩
theorem yU {σ:St} {H:Hp} {Q:VK} (h:∀ p,H p=none→Q (.ref p) (upd H p (.dK []))):zT σ H Q:=h
def A5 (x:V) (H:Hp) (q:Addr→Prop):Prop:=∃ a,x=.ref a∧IsD H a∧q a
theorem Bk {H:Hp} {a:Addr} {kvs:List (List Key×V)} {q:Addr→Prop} (h:H a=some (.dT kvs)) (k:q a):A5 (.ref a) H q:=⟨a,rfl,.inr ⟨kvs,.inl h⟩,k⟩
theorem Bj {H:Hp} {a:Addr} {kvs:List (Key×V)} {q:Addr→Prop} (h:H a=some (.dK kvs)) (k:q a):A5 (.ref a) H q:=⟨a,rfl,.inl ⟨kvs,.inl h⟩,k⟩
theorem yQ {td ty tx:TE} {σ:St} {H:Hp} {Q:VK} (h:td σ H fun x H1=>A5 x H1 fun a=>ty σ H1 fun y H2=>tx σ H2 fun z H3=>∃ o,dM H3 a y o∧Q (o.getD z) H3):zS td ty tx σ H Q:=h
theorem yW {td ty:TE} {σ:St} {H:Hp} {Q:VK} (h:td σ H fun x H1=>A5 x H1 fun a=>ty σ H1 fun y H2=>∃ kvs k v,H2 a=some (.dK kvs)∧y=kV k∧a8 kvs k=some v∧Q v (upd H2 a (.dK (eL kvs k)))):zV td ty σ H Q:=h
theorem Dq {i j:Nat} {ta:TA} {D:cU} {σ:St} {H:Hp} (h:ta σ H fun vs H1=>∃ v w,vs=[v,w]∧D.nx ((σ.set i (some v)).set j (some w)) H1):Ex i j ta D σ H:=h
theorem yT {σ:St} {H:Hp} {Q:VK} {a b c d:Str} (ne:¬ c=a) (h:∀ p H',H p=none→ao H H'→H' p=some (.dK [(.inr a,.str b),(.inr c,.str d)])→Q (.ref p) H'):B9 [(tC (.str a),tC (.str b)),(tC (.str c),tC (.str d))] σ H Q:=by
 intro p hp;refine ⟨ai,[(.inr a,.str b),(.inr c,.str d)],rfl,Nat.le_add_left 2 13,?_⟩;rw [ve]
 have e:j8 [] [((Sum.inr a:Key),V.str b),(Sum.inr c,V.str d)]=[(Sum.inr a,V.str b),(Sum.inr c,V.str d)]:=by
  show bO (bO [] (Sum.inr a:Key) (.str b)) (.inr c) (.str d)=_
  rw [fY (kvs:=[]) (k:=(.inr a:Key)) (.str b) rfl,List.nil_append,fY]
  ·rfl
  ·rw [cj (by intro z; injection z with z; exact ne z.symm)]; rfl
 rw [e];exact h p _ hp (ao.new hp) ai
noncomputable def lA:Key→PyData
 | .inl i=>.int i
 | .inr x=>.str x
theorem xF (a b:Key):PyData.eqv (lA a) (lA b)=decide (a=b):=by
 cases a<;>cases b<;>simp only [lA,PyData.eqv]
 ·rw [xG]
 ·rw [xH]
 ·rw [xI]
 ·rw [xJ]; exact (Bool.beq_eq_decide_eq _ _)
theorem oG:∀ a b:List Key,PyData.eqvAll (a.map lA) (b.map lA)=decide (a=b)
 | [],[]=>rfl
 | [],_::_=>rfl
 | _::_,[]=>rfl
 | x::a,y::b=>by
  rw [List.map_cons,List.map_cons,PyData.eqvAll,xF,oG a b];by_cases h1:x=y<;>by_cases h2:a=b<;>simp [h1,h2]
def KOk (a:List Key):Prop:=PyData.canLayAll0 (a.map lA)=true
theorem xE (a:Key):(lA a).depth=0:=by cases a<;>rfl
theorem oF:∀ a:List Key,PyData.depthAll (a.map lA)≤1
 | []=>Nat.zero_le _
 | x::a=>by
  have h1:=xE x;have h2:=oF a;rw [List.map_cons,PyData.depthAll]; omega
theorem oJ {a:List Key} (h:KOk a):SeqAt.shaped (.tuple (a.map lA))=true:=by
 have:=oF a
 unfold SeqAt.shaped;rw [Bool.and_eq_true];refine ⟨h,decide_eq_true ?_⟩;rw [PyData.depth]; omega
theorem my {H:Hp}:∀ a:List Key,RepL H (a.map lA) (a.map kV)
 | []=>by simp only [List.map_nil,RepL]
 | x::a=>by
  simp only [List.map_cons,RepL];refine ⟨_,_,rfl,?_,my a⟩
  cases x<;>simp only [lA,kV,Rep]
theorem oH {H:Hp} {p:Addr} {a:List Key} (h:H p=some (.tup (a.map kV))):Rep H (.tuple (a.map lA)) (.ref p):=by
 simp only [Rep];exact ⟨p,_,rfl,h,my a⟩
theorem tR {H:Hp} {Q:VK} {p q:Addr} {a b:List Key} (ka:KOk a) (kb:KOk b) (hp:H p=some (.tup (a.map kV))) (hq:H q=some (.tup (b.map kV))) (k:Q (.bl (decide (a=b))) H):yz false (.ref p) (.ref q) H Q :=
 ⟨_,_,oH hp,oH hq,oJ ka,oJ kb,by rw [if_neg (by decide),PyData.eqv,oG]; exact k⟩
noncomputable def sx (i:Int):List Key:=[.inr "x",.inl i]
noncomputable def sy (i:Int):List Key:=[.inr "y",.inl i]
def ju (a:List Key):Prop:=∃ i,a=sx i∨a=sy i
theorem ju.ok {a:List Key} (h:ju a):KOk a:=by
 obtain ⟨i,rfl | rfl⟩:=h
 ·show PyData.canLayAll0 [.str "x",.int i]=true
  simp only [PyData.canLayAll0,PyData.canLay0]; decide +kernel
 ·show PyData.canLayAll0 [.str "y",.int i]=true
  simp only [PyData.canLayAll0,PyData.canLay0]; decide +kernel
theorem zO {i j:Int} (h:sx i=sx j):i=j:=by unfold sx at h; injection h with _ h; injection h with h; injection h
theorem zQ {i j:Int} (h:sy i=sy j):i=j:=by unfold sy at h; injection h with _ h; injection h with h; injection h
theorem zP {i j:Int}:sx i≠sy j:=by
 intro h;unfold sx sy at h;injection h with h; injection h with h;exact absurd h (by decide +kernel)
theorem vT {κ:Type} [DecidableEq κ] {kvs:List (κ×V)} {k:κ} {v:V} (h:k∈kvs.map (·.1)):(bO kvs k v).map (·.1)=kvs.map (·.1):=by
 unfold bO;have:(kvs.any fun kv=>decide (kv.1=k))=true:=by
  obtain ⟨p,hp,e⟩:=List.mem_map.mp h;exact List.any_eq_true.mpr ⟨p,hp,decide_eq_true e⟩
 rw [if_pos this,List.map_map];apply List.map_congr_left;intro p _;by_cases e:p.1=k<;>simp [e]
theorem fh {κ:Type} [DecidableEq κ] {kvs:List (κ×V)} {k:κ}:(a8 kvs k).isSome=true↔k∈kvs.map (·.1):=by
 rw [← gg,List.any_eq_true];constructor
 ·rintro ⟨p,hp,e⟩; exact List.mem_map.mpr ⟨p,hp,of_decide_eq_true e⟩
 ·intro h;obtain ⟨p,hp,e⟩:=List.mem_map.mp h;exact ⟨p,hp,decide_eq_true e⟩
theorem iG {κ:Type} [DecidableEq κ] {kvs:List (κ×V)} {k:κ} (h:k∉kvs.map (·.1)):a8 kvs k=none:=by
 cases e:a8 kvs k with
 | none=>rfl
 | some v=>exact absurd (fh.mp (by rw [e]; rfl)) h
def aV (S:List Addr) (H H':Hp):Prop:=∀ b o,H b=some o→b∉S→H' b=some o
theorem aV.refl (S:List Addr) (H:Hp):aV S H H:=fun _ _ e _=>e
theorem ao.butL {H H':Hp} (s:ao H H') (S:List Addr):aV S H H':=fun b o e _=>s b o e
theorem aV.trans {S:List Addr} {H H1 H2:Hp} (a:aV S H H1) (b:aV S H1 H2):aV S H H2:=fun c o e n=>b c o (a c o e n) n
theorem aV.upd {S:List Addr} {H H1:Hp} {p:Addr} {o:HO} (a:aV S H H1) (h:p∈S):aV S H (L2.upd H1 p o):=fun c o' e n=>by
 rw [aw (fun z=>n (by rw [z]; exact h))]; exact a c o' e n
theorem aV.new {S:List Addr} {H H1:Hp} {p:Addr} {o:HO} (a:aV S H H1) (h:H1 p=none):aV S H (L2.upd H1 p o):=fun c o' e n=>ao.new h c o' (a c o' e n)
end L2
namespace L2
open PySem PySem.Spec PyProof.Rows
end L2
namespace L2
open PySem PySem.Spec PyProof.Rows PySem.W
def Av (P:Program) (w:World) (d:Addr) (kvs:List (Key×V)) (vs:List (Key×Value)) (ep:Nat) (h:Heap):Prop:=kvs.length≤sizeLine∧(d==sysModules)=false∧KV kvs vs∧h.DictAt (bw P w) d vs ep
noncomputable def FzO (P:Program) (w:World) (d:Addr) (kvs:List (Key×V)) (vs:List (Key×Value)) (ep:Nat):HO:=.ext (Av P w d kvs vs ep)
def vh (P:Program) (w:World) (d:Addr) (kvs:List (Key×V)) (F:HO):Prop:=∃ vs ep,F=FzO P w d kvs vs ep
theorem vh.ext {P:Program} {w:World} {d:Addr} {kvs:List (Key×V)} {F:HO} (h:vh P w d kvs F):∃ φ,F=.ext φ:=let ⟨_,_,e⟩:=h; ⟨_,e⟩
section
variable {X:Cx} {pins:List (Addr×Obj)} {σ:St} {H:Hp} {s:Shared} {d:Addr} {kvs:List (Key×V)} {vs:List (Key×Value)} {ep:Nat}
theorem Inv.freeze (I:Inv X pins σ H s) (hd:H d=some (.dK kvs)):∃ vs ep,Inv X pins σ (upd H d (FzO X.prog X.w d kvs vs ep)) s∧s.heap.DictAt (bw X.prog X.w) d vs ep:=by
 obtain ⟨z,lo,vs,rel,dd⟩:=kR I.hok hd;obtain ⟨ep,at'⟩:=dd.dictAt;obtain ⟨o,es,ho,r⟩:=id at';exact ⟨vs,ep,I.write (e:=d) (t':=s.toks) (h':=s.heap) (by rw [hd]; trivial) (.inl rfl) (fun _ _ _ q=>q) ⟨o,ho⟩ ⟨⟨z,lo,rel,at'⟩,⟨o,ho⟩,fun h1 h2 ⟨a1,a2,a3,a4⟩ k=>⟨a1,a2,a3,a4.at' k⟩⟩,at'⟩
theorem Inv.thaw {F:HO} (I:Inv X pins σ H s) (hF:vh X.prog X.w d kvs F) (hd:H d=some F):Inv X pins σ (upd H d (.dK kvs)) s:=by
 obtain ⟨vs,ep,rfl⟩:=hF;obtain ⟨⟨z,lo,rel,at'⟩,⟨o,ho⟩,_⟩:=(show bq X.prog X.w H s.heap d (.ext (Av X.prog X.w d kvs vs ep)) from I.hok d _ hd)
 exact I.write (e:=d) (t':=s.toks) (h':=s.heap) (by rw [hd]; trivial) (.inl rfl) (fun _ _ _ q=>q) ⟨o,ho⟩ ⟨z,lo,vs,rel,at'.dictOf⟩
end
def DP (P:Program) (w:World) (H1 H2:Hp):Prop:=∃ d kvs F,vh P w d kvs F∧H1 d=some F∧H2=upd H1 d (.dK kvs)
def Ac (P:Program) (w:World) (ts:TS):TS:=fun D σ H=>ts { D with nx:=fun σ1 H1=>∃ H2,DP P w H1 H2∧D.nx σ1 H2 } σ H
theorem A1 {X:Cx} {st:Stmt} {ts:TS} (h:PS X st ts):PS X st (Ac X.prog X.w ts):=by
 intro pins s σ H D I q;refine wpAny_mono (h pins s σ H _ I q) (fun f s1 q1=>?_) fun _ _ z=>z
 cases f with
 | next =>
  obtain ⟨σ',H',I',H2,⟨d,kvs,F,hF,hd,rfl⟩,q2⟩:=q1;exact ⟨σ',_,I'.thaw hF hd,q2⟩
 | brk=>exact q1
 | cont=>exact q1
 | ret u=>exact q1
theorem zp {P:Program} {w:World} {ts:TS} {D:cU} {σ:St} {H:Hp} (h:ts { D with nx:=fun σ1 H1=>∃ H2,DP P w H1 H2∧D.nx σ1 H2 } σ H):Ac P w ts D σ H:=h
theorem pB {K:W.Frag} {σ:St} {H:Hp} {Q:VK} {te:TE} {cap:List (Option Nat)} {l a:Addr} {xs:List V} (ys:List V) (hy:ys.length=xs.length) (hs:SqL K H a xs) (hz:xs.length≤1000) (hl:H l=none)
  (hp:∀ (i:Nat) v,xs[i]?=some v→∃ b u1 u2,v=.ref b∧H b=some (.tup [u1,u2]))
  (step:∀ (i:Nat) b u1 u2 y o1 o2 H' (Q':VK),xs[i]?=some (.ref b)→H b=some (.tup [u1,u2])→ys[i]?=some y→ao H H'→(∀ H5,ao H' H5→Q' y H5)→te (((((gk (none::none::cap) σ).set 0 o1).set 1 o2).set 0 (some u1)).set 1 (some u2)) H' Q')
  (fin:∀ H',ao H H'→H' l=some (.lst ys)→Q (.ref l) H'):js (Itl K a) (vz K 2 (kT (d7 0) (kT (d7 1) xn))) jZ te (none::none::cap) l σ H Q:=by
 refine ⟨xs.length,fun i zs σ' H'=>zs=ys.take i∧(∃ o1 o2,σ'=((gk (none::none::cap) σ).set 0 o1).set 1 o2)∧ao H H'∧H' l=some (.lst zs),⟨rfl,⟨none,none,rfl⟩,ao.new hl,ai⟩,?_,?_⟩
 ·rintro i zs σ' H' hi ⟨rfl,⟨o1,o2,rfl⟩,s,e⟩;refine ⟨⟨xs,xs[i],s.seq hs,by simp [hi]⟩,fun x H2 y=>?_⟩;obtain ⟨e2,y⟩:=y;subst e2;have hx:=y xs (s.seq hs);obtain ⟨b,u1,u2,rfl,hb⟩:=hp i x hx;have hyi:i<ys.length:=by omega
  refine fD (s _ _ hb) rfl ?_;refine eY (c8 (eY (c8 (lL ?_))));refine fF (mw ?_);refine step i b u1 u2 ys[i] o1 o2 H2 _ hx hb (List.getElem?_eq_getElem hyi) s fun H5 s5=>⟨s5 _ _ e,?_,?_⟩
  ·rw [List.length_take];exact aZ (by omega)
  ·exact ⟨List.take_append_getElem hyi,⟨some u1,some u2,rfl⟩,(s.trans s5).later hl,ai⟩
 ·rintro zs σ' H' ⟨rfl,_,s,e⟩;rw [List.take_of_length_le (by omega)] at e;exact ⟨⟨xs,s.seq hs,Nat.le_refl _⟩,fin H' s e⟩
noncomputable def Iti (d:Addr) (F:HO) (kvs:List (Key×V)):It :=
 ⟨fun i H=>H d=some F∧i<kvs.length,fun i H x H'=>∃ b k v,kvs[i]?=some (k,v)∧x=.ref b∧H b=none∧H'=upd H b (.tup [kV k,v]),fun i H=>H d=some F∧kvs.length≤i⟩
theorem uk {P:Program} {w:World} {K:W.Frag} {elts:List Expr} {kt:Nat} {pt:Pos} (d it:Addr) (kvs:List (Key×V)) (vs:List (Key×Value)) (ep:Nat) :
    sH P w K (.Tuple elts kt pt) (Iti d (FzO P w d kvs vs ep) kvs) [it] it (fun i h=>∃ ok ov,IsItemIter h it d i vs.length ep ok ov) where
  mem:=by simp
  obj:=fun i h st b hb=>by
    have e:b=it:=by simpa using hb
    subst e;obtain ⟨ok,ov,e⟩:=st;exact ⟨_,e,fun v z=>by cases z⟩
  keep:=fun i h h' ⟨ok,ov,e⟩ k=>⟨ok,ov,k it (by simp) _ e⟩
  item:=by
    intro X hP hw hK hc i pins s σ H E I hf st hg;subst hP hw hK;obtain ⟨hd,hi⟩:=hg;obtain ⟨ok,ov,st⟩:=st;obtain ⟨⟨z,lo,rel,at'⟩,_,_⟩:=(show bq X.prog X.w H s.heap d (.ext (Av X.prog X.w d kvs vs ep)) from I.hok d _ hd)
    have hl:i<vs.length:=by rw [← rel.length]; exact hi
    obtain ⟨⟨k,u⟩,hu⟩:∃ q,vs[i]?=some q:=⟨_,List.getElem?_eq_getElem hl⟩
    obtain ⟨x,hx,ru⟩:=sZ rel hu;have lti:it<s.heap.objs.size:=Heap.lt_size st;refine wpAny_pyNext_items_item st at' hu fun key h' hkey ho hT hsz hk=>?_;refine ⟨_,rfl,wpAny_letOwnedTupleGo_items (s:={ s with heap:=h' }) ho fun h2 he2 hs=>?_⟩;have kk:∀ c o,c∉[it]→s.heap.get? c=some o→h2.get? c=some o:=fun c o hc e=>by
      rw [List.mem_singleton] at hc;exact hs.extBut c o hc (hk c o hc e)
    have qT:=hs.extBut _ _ (Ne.symm (Nat.ne_of_lt lti)) hT;have I1:Inv X pins σ (upd H s.heap.objs.size (.tup [kV k,x])) { s with heap:=h2 }:=I.turnedL (t':=s.toks) (ch:=[it]) kk hf (fun c hc=>by
        rw [List.mem_singleton] at hc;subst hc;exact ⟨_,he2⟩) (Nat.le_refl _) ⟨by show 2≤sizeLine; decide,[key,u],.cons (uD hkey) (.cons ru .nil),_,qT,rfl,_,rfl⟩
    refine ⟨.ref s.heap.objs.size,_,I1,rfl,⟨_,k,x,hx,rfl,I.hok.fresh (Nat.le_refl _),rfl⟩,⟨_,_,he2⟩,fun c hc=>?_⟩;have ec:=List.mem_singleton.mp hc;subst ec;rw [aw (Nat.ne_of_lt lti)];exact (hf c hc).1
  done:=by
    intro X hP hw hK hc i pins s σ H E I hf st hg;subst hP hw hK;obtain ⟨hd,hi⟩:=hg;obtain ⟨ok,ov,st⟩:=st;obtain ⟨⟨z,lo,rel,at'⟩,_,_⟩:=(show bq X.prog X.w H s.heap d (.ext (Av X.prog X.w d kvs vs ep)) from I.hok d _ hd)
    obtain ⟨f0,f1,f2,f3,f4,f5⟩:=hf it (by simp);exact wpAny_pyNext_items_end (I.ok.hd hc) st at' (List.getElem?_eq_none (by rw [← rel.length]; exact hi)) fun h' eb=>⟨rfl,I.turned (t':=s.toks) (fun b o hb e=>eb b o hb e) f0 f1 f3 f4 f5⟩
  self:=fun _ _ _ _ _ ⟨_,_,st⟩ h=>kcp_self st h
def xy (P:Program) (w:World) (tl:TE):TI:=fun σ H R=>tl σ H fun x H1=>∃ v d kvs,x=.ref v∧H1 v=some (cC "dict_items" v d)∧H1 d=some (.dK kvs)∧∀ F,vh P w d kvs F→R (Iti d F kvs) (upd H1 d F)
theorem yp {X:Cx} {elts:List Expr} {kt:Nat} {pt:Pos} {l:Expr} {tl:TE} (hl:PE X l tl):PI X (.Tuple elts kt pt) l (xy X.prog X.w tl):=by
 intro pins s σ H R I h;refine thn (hl pins s σ H _ I h) fun v s1 ⟨x,H1,I1,r1,q1⟩=>?_;obtain ⟨vw,d,kvs,e,hv,hd,q⟩:=q1;subst e
 cases r1;obtain ⟨vs,ep,I2,at'⟩:=I1.freeze hd;have vv:s1.heap.IsItemsView vw d:=(show bq X.prog X.w H1 s1.heap vw (.ext (pd "dict_items" vw d)) from I1.hok vw _ hv).1;refine wpAny_pyIter_items vv at' ?_;refine ⟨s1.heap.objs.size,[s1.heap.objs.size],_,_,_,rfl,I2.kept (t':=s1.toks) fun b o e=>Heap.get?_push_of_some _ e,uk d _ kvs vs ep,⟨_,_,Heap.get?_push_size _ rfl⟩,fun b hb=>?_,q _ ⟨vs,ep,rfl⟩⟩;have e:b=s1.heap.objs.size:=by simpa using hb
 subst e;exact I2.fpOk (Nat.le_refl _) (I2.hok.fresh (Nat.le_refl _))
theorem vW {P:Program} {w:World} {tl:TE} {σ:St} {H:Hp} {R:It→Hp→Prop} (h:tl σ H fun x H1=>∃ v d kvs,x=.ref v∧H1 v=some (cC "dict_items" v d)∧H1 d=some (.dK kvs)∧∀ F,vh P w d kvs F→R (Iti d F kvs) (upd H1 d F)):xy P w tl σ H R:=h
theorem sV {σ:St} {H:Hp} {d:Addr} {F:HO} {kvs:List (Key×V)} {g:TG} {tb:TS} {D:cU} (Pv:Nat→St→Hp→Prop) (h0:Pv 0 σ H) (hl:∀ i σ H,i≤kvs.length→Pv i σ H→H d=some F)
  (hs:∀ i k v b σ H,kvs[i]?=some (k,v)→Pv i σ H→H b=none→g (.ref b) σ (upd H b (.tup [kV k,v])) fun σ2 H2=>tb { D with nx:=Pv (i+1),ct:=Pv (i+1),bk:=D.nx } σ2 H2) (hd:∀ σ H,Pv kvs.length σ H→D.nx σ H):Au (Iti d F kvs) g tb D σ H:=by
 refine ⟨fun i m σ H=>m=kvs.length - i∧i≤kvs.length∧Pv i σ H,⟨kvs.length,by simp,Nat.zero_le _,h0⟩,?_⟩;rintro i m σ H ⟨rfl,hi,p⟩;have q:=hl i σ H hi p;by_cases hlt:i<kvs.length
 ·refine .inr ⟨⟨q,hlt⟩,Pv (i+1),fun σ' H' p'=>⟨kvs.length - (i+1),by omega,rfl,hlt,p'⟩,fun x H' y=>?_⟩;obtain ⟨b,k,v,hk,rfl,hb,rfl⟩:=y;exact hs i k v b σ _ hk p hb
 ·have e:i=kvs.length:=by omega
  subst e;exact .inl ⟨⟨q,Nat.le_refl _⟩,hd σ H p⟩
section
variable {K:W.Frag} {H:Hp} {Q:VK}
theorem jc {a:Addr} {xs:List V} {lo hi:Option Int} (h:H a=some (.lst xs)) (q:∀ p H1,ao H H1→H p=none→H1 p=some (.lst (bN xs lo hi))→Q (.ref p) H1):A7 K (.ref a) lo hi H Q:=dh h fun p n=>q p _ (ao.new n) n ai
theorem dG {a b:Addr} {xs zs:List V} (ha:H a=some (.lst xs)) (hb:H b=some (.lst zs)) (z:xs.length+zs.length≤sizeLine) (q:∀ p H1,ao H H1→H p=none→H1 p=some (.lst (xs++zs))→Q (.ref p) H1):A3 (.ref a) (.ref b) H Q:=C9 ha hb z fun p n=>q p _ (ao.new n) n ai
end
end L2
namespace PySem
end PySem
namespace PyProof.Rows
open PySem PySem.Spec
end PyProof.Rows
namespace PySem
open PySem.Spec PyProof.Rows
end PySem
namespace L2
open PySem PySem.Spec PyProof.Rows PySem.W
end L2
namespace L2
open PySem PySem.Spec PyProof.Rows
section
variable {K:W.Frag} {x qual:Str} {st:Stmt} {f:Addr} {fd:FuncData}
theorem Fun.b1 {p0:Str} (F:Fun K x qual st f fd) (h:∀ (kV doc pm:Value) (an:Option Addr) (cdv ct a0:Value),bindArgs (W.fnOf x qual (eN st) (c7 st) (aq st) .none kV doc pm an cdv ct) ⟨[a0],[]⟩=pure [(p0,a0)]):aN K fd [p0] [] :=
 F.binds fun kV doc pm an cdv ct us hl=>by obtain ⟨a0,rfl⟩:=EU hl; exact h kV doc pm an cdv ct a0
theorem Fun.b2 {p0 p1:Str} (F:Fun K x qual st f fd) (h:∀ (kV doc pm:Value) (an:Option Addr) (cdv ct a0 a1:Value),bindArgs (W.fnOf x qual (eN st) (c7 st) (aq st) .none kV doc pm an cdv ct) ⟨[a0,a1],[]⟩=pure [(p0,a0),(p1,a1)]):aN K fd [p0,p1] [] :=
 F.binds fun kV doc pm an cdv ct us hl=>by obtain ⟨a0,a1,rfl⟩:=EV hl; exact h kV doc pm an cdv ct a0 a1
theorem Fun.b3 {p0 p1 p2:Str} (F:Fun K x qual st f fd) (h:∀ (kV doc pm:Value) (an:Option Addr) (cdv ct a0 a1 a2:Value),bindArgs (W.fnOf x qual (eN st) (c7 st) (aq st) .none kV doc pm an cdv ct) ⟨[a0,a1,a2],[]⟩=pure [(p0,a0),(p1,a1),(p2,a2)]):aN K fd [p0,p1,p2] [] :=
 F.binds fun kV doc pm an cdv ct us hl=>by obtain ⟨a0,a1,a2,rfl⟩:=EW hl; exact h kV doc pm an cdv ct a0 a1 a2
theorem Fun.b4 {p0 p1 p2 p3:Str} (F:Fun K x qual st f fd) (h:∀ (kV doc pm:Value) (an:Option Addr) (cdv ct a0 a1 a2 a3:Value),bindArgs (W.fnOf x qual (eN st) (c7 st) (aq st) .none kV doc pm an cdv ct) ⟨[a0,a1,a2,a3],[]⟩=pure [(p0,a0),(p1,a1),(p2,a2),(p3,a3)]):aN K fd [p0,p1,p2,p3] [] :=
 F.binds fun kV doc pm an cdv ct us hl=>by obtain ⟨a0,a1,a2,a3,rfl⟩:=EX hl; exact h kV doc pm an cdv ct a0 a1 a2 a3
theorem Fun.bl {p:Str} (F:Fun K x qual st f fd) (h:∀ (kV doc pm:Value) (an:Option Addr) (cdv ct a:Value),bindArgs (W.fnOf x qual (eN st) (c7 st) (aq st) .none kV doc pm an cdv ct) ⟨[a],[]⟩=pure [(p,a)]) (s:Shared) (v:Value):BindsTo s fd ⟨[v],[]⟩ [(p,v)]:=by
 obtain ⟨_,_,kV,doc,pm,an,cdv,ct,_,rfl,_,_⟩:=F.ex;exact .of_eq (h kV doc pm an cdv ct v)
end
theorem aG.by {N P:List Str} {sc:Scope} (h1:sc.kind=.function:=by rfl) (h2:sc.isCoroutine=false:=by rfl) (h3:sc.isGenerator=false:=by rfl) (h4:N.Nodup:=by decide +kernel) (h5:N.take P.length=P:=by rfl) (h6:∀ x∈P,sc.names.lookup x=some .local∨sc.names.lookup x=some .cell:=by decide +kernel) (h7:∀ y∈sc.names,y.2≠.free:=by decide +kernel):aG N P sc:=⟨h1,h2,h3,h4,h5,h6,h7⟩
end L2
namespace L2
open PySem PySem.Spec PyProof.Rows PySem.W Builtin Builtin.ObjectAttr Builtin.Getset_descriptor
noncomputable def sR (K:W.Frag) (C:Addr) (line:List Value) (nid:String):Bool :=
 match K.lookup C with
 | some ⟨.type "type",_,.cls k,ss⟩ =>
  match k.mro,ss.toList with
  | .ref D :: up, [_, _, _, _, some (.builtin m), _] => (D == C) && (m == nid) && !k.hasDel && k.hasDict && tailIn K line up
  | _, _ => false
 | _=>false
theorem mi {K:W.Frag} {C:Addr} {line:List Value} {nid:String} (q:sR K C line nid=true):∃ (nm qn:Str) (N:Addr) (bs up:List Value) (sn:List Str) (sub:List Value) (ab:Bool) (col:Option Bool) (dd:Option Addr) (k0 k1 k2 k3 k5:Option Value),
  K.lookup C=some (excClassObj nm qn C N bs up true sn sub ab col dd k0 k1 k2 k3 k5 nid)∧tailIn K line up=true:=by
 unfold sR at q
 split at q
 case h_2=>cases q
 case h_1 dd k ss ho =>
  split at q
  case h_2=>cases q
  case h_1 D up k0 k1 k2 k3 m k5 hm hs =>
   simp only [Bool.and_eq_true,beq_iff_eq,Bool.not_eq_true'] at q;obtain ⟨⟨⟨⟨e1,e2⟩,e3⟩,e4⟩,e5⟩:=q;subst e1 e2;obtain ⟨nm,bs,mro,ns,qn,hd,sn,sub,ab,col,del⟩:=k;simp only at hm e3 e4
   subst hm e3 e4;obtain ⟨l⟩:=ss;simp only at hs
   subst hs;exact ⟨nm,qn,ns,bs,up,sn,sub,ab,col,dd,k0,k1,k2,k3,k5,ho,e5⟩
section
variable {prog:Program} {w:World} {A:Around} {E:Value→Shared→Prop} {K:W.Frag} {h:Heap} {g:Array GenState} {d:Drawn} {t:Nat} {os:OsState} {C fI:Addr} {line:List Value} {B nid iid:String} {dw:List Value}
noncomputable abbrev wD (C t:Addr):Obj:={ cls:=.ref C,data:=.fields #[.ref t,.none,.none,.none,.bool false,.none] }
noncomputable abbrev wF (dw:List Value):Obj:={ cls:=.type "tuple",data:=.seq dw.toArray }
theorem ED {Q:Value→Shared→Prop} (X:K.In h) (q:sR K C line nid=true) (F:ExcBaseFacts B nid iid line) (hi:findIn K (.ref C) "__init__"=some (some (.ref fI))) (hf:typeIn K (.ref fI)=some (.type "function")) (hz:dw.length≤sizeLine)
  (k:∀ h' e,Heap.MadeExcOf h h' e (.ref C) dw→wpAny (model prog w) (A.under (.builtin "type.__call__" ⟨.ref C::dw,[]⟩)) (call (.ref fI) (.ref e::dw)) (fun r s'=>r=.none∧Q (.ref e) s') E ⟨h',g,d,t,os⟩) :
  wpAny (model prog w) A (call (.ref C) dw) Q E ⟨h,g,d,t,os⟩:=by
 obtain ⟨nm,qn,N,bs,up,sn,sub,ab,col,dd,k0,k1,k2,k3,k5,hl,tl⟩:=mi q;have cl:=X _ _ hl;have T:=tail_of_in X tl;have c1:=tc_lookup;have c2:=tc_bind (.ref C);have ty:(⟨h,g,d,t,os⟩:Shared).TypeIs (.ref C) "type":=⟨_,cl,rfl⟩
 refine wpAny_call (codeAny_of_tree ?_)
 show wpAny _ _ (callAny (.ref C) _) _ _ _
 repeat (any_goals (first | assumption | with_reducible refine wpAny_loadPart_at cl ?_ | wp_step))
 refine ⟨rfl,?_⟩;refine codeAny_call_builtin_at (Code.quiet_builtin _ (by decide +kernel)) entry_typeCall (wpAny_check_type_call_sub cl ?_)
 show wpAny _ (A.under (.builtin "type.__call__" ⟨.ref C::dw,[]⟩)) (Builtin.«type.__call__» ⟨.ref C::dw,[]⟩) _ _ _
 repeat (first | with_reducible refine wpAny_loadPart_at cl ?_ | with_reducible refine wpAny_madeBy_exc cl ?_ | wp_step)
 refine codeAny_call_builtin_code (Code.quiet_builtin _ F.quiet) (wpAny_check_new_subT F T cl ?_);refine codeAny_exc_new_subT F T cl ?_ hz
 show wpAny _ _ _ _ _ _
 have kp:∀ b o,h.get? b=some o→((h.push (wF dw)).push (wD C h.objs.size)).get? b=some o:=fun b o e=>Heap.get?_push_of_some _ (Heap.get?_push_of_some _ e);have X1:K.In ((h.push (wF dw)).push (wD C h.objs.size)):=X.keeps kp
 have ge:((h.push (wF dw)).push (wD C h.objs.size)).get? (h.objs.size+1)=some (wD C h.objs.size):=by
  have:=Heap.get?_push_size (h.push (wF dw)) (o:=wD C h.objs.size) rfl
  rwa [Heap.size_push] at this
 have gt:((h.push (wF dw)).push (wD C h.objs.size)).get? h.objs.size=some (wF dw):=Heap.get?_push_of_some _ (Heap.get?_push_size h rfl);have own:(Value.ref C::up).contains (.ref C)=true:=by simp
 unfold isInstance;have cl1:=kp _ _ cl
 repeat (first | with_reducible refine wpAny_loadPart_at ge ?_ | (with_reducible refine wpAny_isSubtype_exc cl1 ?_; rw [own]) | wp_step)
 show wpAny _ _ (typeLookup (.ref C) _) _ _ _
 refine (looks_findIn X1 hi).at ?_;refine wpAny_holding (wpAny_bind ((bind_fn X1 (.ref (h.objs.size+1)) hf).at ?_));refine wpAny_bind (wpAny_mono (k _ (h.objs.size+1) ⟨kp,Heap.get?_none_of_le (Nat.le_succ _),h.objs.size,ge,Heap.get?_none_of_le (Nat.le_refl _),gt⟩) (fun r s' hr=>?_) fun _ _ z=>z);obtain ⟨rfl,hQ⟩:=hr
 wp_walk
 exact hQ
end
def cB (e C:Addr) (xo:Option Addr) (h:Heap):Prop:=∃ o a0,h.get? e=some o∧o.cls=.ref C∧o.data=.fields #[a0,.none,.none,.none,.bool false,.none]∧o.dict=xo
noncomputable def fH (e C:Addr) (xo:Option Addr):HO:=.ext (cB e C xo)
def nB (d:Addr) (fs:List (Str×V)) (h:Heap):Prop:=∃ mA,h.Ns1 d mA∧(∀ f,fj (fs.lookup f) (mA f))∧PySem.Within mA (fs.map (·.1))
noncomputable def XdO (d:Addr) (fs:List (Str×V)):HO:=.ext (nB d fs)
theorem cB.stay {e C:Addr} {xo:Option Addr}:∀ h1 h2:Heap,cB e C xo h1→(∀ o,h1.get? e=some o→h2.get? e=some o)→cB e C xo h2:=fun _ _ ⟨o,a0,h1,h2⟩ k=>⟨o,a0,k o h1,h2⟩
theorem nB.stay {d:Addr} {fs:List (Str×V)}:∀ h1 h2:Heap,nB d fs h1→(∀ o,h1.get? d=some o→h2.get? d=some o)→nB d fs h2:=fun _ _ ⟨mA,⟨o,es,ep,ho,r⟩,q⟩ k=>⟨mA,⟨o,es,ep,k o ho,r⟩,q⟩
theorem cB.at {e C:Addr} {xo:Option Addr} {h:Heap} (p:cB e C xo h):gK e C h:=let ⟨o,_,h1,h2,_⟩:=p; ⟨o,h1,h2⟩
theorem vZ {h:Heap} {line up:List Value} {self:Value} (T:OwnTail h line up) (p:refuseLoop self "__setattr__" line=pure ()):refuseLoop self "__setattr__" up=pure ():=by
 induction T with
 | base=>exact p
 | _=>rw [refuseLoop_ref]; assumption
structure ExI (K:W.Frag) (C:Addr):Prop where
 ex:sR K C [.type "ValueError",.type "Exception",.type "BaseException",.type "object"] "ValueError.__new__"=true
 sa:findIn K (.ref C) "__setattr__"=some (some (.builtin "object.__setattr__"))
 mo:mroIn K C (.type "object")=some true
section
variable {prog:Program} {w:World} {A:Around} {E:Value→Shared→Prop} {K:W.Frag} {s:Shared} {C x:Addr} {name:Str} {v:Value}
theorem ExI.cls (e:ExI K C):∃ cd up,clsIn K C=some cd∧cd.mro=.ref C::up∧cd.hasDict=true∧tailIn K [.type "ValueError",.type "Exception",.type "BaseException",.type "object"] up=true:=by
 obtain ⟨nm,qn,N,bs,up,sn,sub,ab,col,dd,k0,k1,k2,k3,k5,hl,tl⟩:=mi e.ex
 have z:∃ cd,clsIn K C=some cd∧cd.mro=.ref C::up∧cd.hasDict=true:=by
  unfold clsIn;rw [hl];exact ⟨_,rfl,rfl,rfl⟩
 obtain ⟨cd,z1,z2,z3⟩:=z;exact ⟨cd,up,z1,z2,z3,tl⟩
theorem osx {R:Result→Shared→Prop} {tk:Tok} (X:K.In s.heap) (ei:ExI K C) (LT:Looks (model prog w) s.heap (typeOf (.ref x)) (.ref C)) (hn:findIn K (.ref C) name=some none)
  (h:wpAny (model prog w) A.in1 (storeInOwnDict (.ref x) (.ref C) (.str name tk) name v false) (fun fin s'=>match fin with | .done f=>R (.ok f) s' | .again c'=>c'.quiet=true∧codeAny (model prog w) A c' R s') (fun e s'=>R (.error e) s') s) :
  codeAny (model prog w) A (.call (.builtin "object.__setattr__") ⟨[.ref x,.str name tk,v],[]⟩) R s:=by
 have SF:=PySem.F.store_object;obtain ⟨cd,up,hc,hm,hd,tl⟩:=ei.cls;have sub:Looks (model prog w) s.heap (isInstance (.ref x) (.type "object")) true:=LT.andThen (looks_mroIn X ei.mo);have mr:Looks (model prog w) s.heap (mroOf (.ref C)) cd.mro:=(looks_clsIn X hc).andThen .now;refine codeAny_call_builtin SF.slot.plain SF.entry (@check_slot (model prog w) _ _ s "object.__setattr__" "object" "__setattr__" (.ref x) [.str name tk,v] [] _ SF.kind SF.split sub (SF.args (.ref x) (.str name tk) v) ?_);rw [osa_eq,refuse_eq];refine wpAny_bind (wpAny_bind (LT.here (wpAny_bind (mr.here ?_))));rw [hm,refuseLoop_ref,vZ (tail_of_in X tl) (PySem.F.store_ValueError.passes (.ref x))];exact wpAny_pure (wpAny_bind (LT.here (wpAny_bind ((looks_findIn X hn).here (wpAny_bind (wpAny_pure h))))))
theorem Ek {Q:Unit→Shared→Prop} (X:K.In s.heap) (ei:ExI K C) (LT:Looks (model prog w) s.heap (typeOf (.ref x)) (.ref C)) (hn:findIn K (.ref C) name=some none)
  (h:wpAny (model prog w) A.in1 (storeInOwnDict (.ref x) (.ref C) (.str name s.toks) name v false) (fun fin s'=>match fin with | .done (.ret _)=>Q () s' | _=>False) E { s with toks:=s.toks+1 }) :
  wpAny (model prog w) A (setAttr (.ref x) name v) Q E s:=by
 have c:=osx (A:=A) (R:=fun r s'=>match r with | .ok (.ret _)=>Q () s' | .ok _=>False | .error e=>E e s') (s:={ s with toks:=s.toks+1 }) (tk:=s.toks) (v:=v) X ei LT hn (wpAny_mono h (fun fin s' z=>by
  cases fin with
  | done f => cases f <;> exact z
  | again c => exact z.elim) fun _ _ z => z)
 refine wpAny_bind (wpAny_mkText (wpAny_bind (wpAny_bind (wpAny_bind (LT _ _ _ _ (fun _ _ e=>e) (looks_findIn X ei.sa _ _ _ _ (fun _ _ e=>e) (wpAny_holding ?_)))))));rw [PySem.F.store_object.slot.bind];refine wpAny_bind (wpAny_pure (wpAny_bind (wpAny_call (codeAny_mono c fun r s' z=>?_))));rcases r with e | (v | _ | _ | _)<;>first | exact z | exact wpAny_pure (wpAny_pure z)
end
section
variable {prog:Program} {w:World} {A:Around} {E:Value→Shared→Prop} {K:W.Frag} {s:Shared} {C x:Addr} {name:Str} {v:Value} {tk:Tok} {o:Obj} {vs:Array Value}
theorem ug {Q:Fin→Shared→Prop} (X:K.In s.heap) (ei:ExI K C) (hx:s.heap.get? x=some o) (hc:o.cls=.ref C) (hd:o.data=.fields vs) (hn:o.dict=none)
  (k:∀ h' t',h'.get? x=some { o with dict:=some s.heap.objs.size }→h'.Ns1 s.heap.objs.size (fun y=>if y=name then some v else none)→(∀ b u,b≠x→s.heap.get? b=some u→h'.get? b=some u)→Q (.done (.ret .none)) { s with heap:=h',toks:=t' }) :
  wpAny (model prog w) A (storeInOwnDict (.ref x) (.ref C) (.str name tk) name v false) Q E s:=by
 obtain ⟨cd,up,hcd,_,hh,_⟩:=ei.cls;obtain ⟨oc,od,odt,osl⟩:=o;dsimp only at hc hd hn;subst hc hd hn;have ne:s.heap.objs.size≠x:=Nat.ne_of_gt (Heap.lt_size hx);refine wpAny_bind (wpAny_pure (wpAny_bind (wpAny_bind (wpAny_loadPart hx (wpAny_bind ((looks_clsIn X hcd).here ?_))))));rw [hh]
 show wpAny _ _ (do let d ← alloc { cls:=.type "dict",data:=.dict #[] }; update x fun o=>{ o with dict:=some d }; dictMade (.ref C) x d) _ _ _
 refine wpAny_bind (wpAny_alloc' (wpAny_bind (wpAny_update' (Heap.get?_push_of_some _ hx) ?_)));refine wpAny_pure (a:=some s.heap.objs.size) (wpAny_bind (wpAny_pure (wpAny_bind ?_)))
 have gd:((s.heap.push { cls:=.type "dict",data:=.dict #[] }).update x fun o=>{ o with dict:=some s.heap.objs.size }).get? s.heap.objs.size=some { cls:=.type "dict",data:=.dict #[] }:=by
  rw [Heap.get?_update_other _ _ (Ne.symm ne)];exact Heap.get?_push_size s.heap rfl
 have nd:((s.heap.push { cls:=.type "dict",data:=.dict #[] }).update x fun o=>{ o with dict:=some s.heap.objs.size }).Ns s.heap.objs.size (fun _=>none):=⟨_,#[],_,gd,rfl,(fun e he=>absurd he (by simp)),fun _=>rfl⟩
 refine wpAny_nsSet1 (Heap.Ns1.of_empty nd) fun h' hn' hs=>?_;obtain ⟨oD,esD,epD,hoD,hdD,hcD⟩:=hn'.count (PySem.Within.cons name v PySem.Within.nil);refine wpAny_bind (wpAny_lookBehind hoD (by rw [hdD]; exact pastItsLine_dict (Nat.le_trans hcD (by rw [List.length_cons,List.length_nil,sizeLine_eq]; omega))) ?_);refine wpAny_pure (k h' _ ?_ hn' fun b u hb hu=>?_)
 ·refine (hs.2 x (Ne.symm ne)).trans (Heap.get?_update_self _ (Heap.get?_push_of_some _ hx) rfl)
 ·exact (hs.2 b (Nat.ne_of_lt (Heap.lt_size hu))).trans ((Heap.get?_update_other _ _ (Ne.symm hb)).trans (Heap.get?_push_of_some _ hu))
theorem r9 {Q:Fin→Shared→Prop} {dx:Addr} {mA:Str→Option Value} {ns:List Str} (X:K.In s.heap) (ei:ExI K C) (hx:s.heap.get? x=some o) (hc:o.cls=.ref C) (hd:o.data=.fields vs) (hn:o.dict=some dx) (hns:s.heap.Ns1 dx mA) (hw:PySem.Within mA ns) (hz:ns.length<1000)
  (k:∀ h' t',h'.Ns1 dx (fun y=>if y=name then some v else mA y)→(∀ b u,b≠dx→s.heap.get? b=some u→h'.get? b=some u)→Q (.done (.ret .none)) { s with heap:=h',toks:=t' }) :
  wpAny (model prog w) A (storeInOwnDict (.ref x) (.ref C) (.str name tk) name v false) Q E s:=by
 obtain ⟨cd,up,hcd,_,hh,_⟩:=ei.cls;obtain ⟨oc,od,odt,osl⟩:=o;dsimp only at hc hd hn;subst hc hd hn;refine wpAny_bind (wpAny_pure (wpAny_bind (wpAny_bind (wpAny_loadPart hx (wpAny_bind ((looks_clsIn X hcd).here ?_))))));rw [hh];refine wpAny_pure (a:=some dx) (wpAny_bind (wpAny_pure (wpAny_bind ?_)));refine wpAny_nsSet1 hns fun h' hn' hs=>?_;obtain ⟨oD,esD,epD,hoD,hdD,hcD⟩:=hn'.count (PySem.Within.cons name v hw);refine wpAny_bind (wpAny_lookBehind hoD (by rw [hdD]; exact pastItsLine_dict (Nat.le_trans hcD (by rw [List.length_cons,sizeLine_eq]; omega))) ?_);exact wpAny_pure (k h' _ hn' fun b u hb hu=>(hs.2 b hb).trans hu)
end
section
variable {X:Cx} {pins:List (Addr×Obj)} {σ:St} {H:Hp} {s:Shared} {e C dx:Addr} {fs:List (Str×V)} {f:Str} {y:V} {u:Value} {A:Around} {E:Value→Shared→Prop} {Q:Unit→Shared→Prop}
theorem zF (I:Inv X pins σ H s) (he:H e=some (fH e C none)) (ei:ExI X.K C) (hn:findIn X.K (.ref C) f=some none) (ry:a7 y u)
  (k:∀ d s',H d=none→d≠e→Inv X pins σ (upd (upd H d (XdO d [(f,y)])) e (fH e C (some d))) s'→Q () s'):wpAny (model X.prog X.w) A (setAttr (.ref e) f u) Q E s:=by
 have p:cB e C none s.heap:=(show bq X.prog X.w H s.heap e (.ext (cB e C none)) from I.hok e _ he).1;obtain ⟨o,a0,hx,hc,hd,hdn⟩:=id p;refine Ek I.kIn ei (gK.looks p.at) hn (ug (s:={ s with toks:=s.toks+1 }) I.kIn ei hx hc hd hdn fun h' t' g1 g2 g3=>?_);have ne:s.heap.objs.size≠e:=Nat.ne_of_gt (Heap.lt_size hx);refine k s.heap.objs.size _ (I.hok.fresh (Nat.le_refl _)) ne ?_
 have xd:nB s.heap.objs.size [(f,y)] h':=by
  refine ⟨_,g2,fun n=>?_,fun n hn=>?_⟩
  ·show fj (List.lookup n [(f,y)]) (if n=f then some u else none)
   rw [List.lookup_cons];by_cases z:n=f
   ·subst z; simp only [beq_self_eq_true,if_true]; exact ry
   ·rw [if_neg z,show (n==f)=false from beq_eq_false_iff_ne.mpr z]; exact True.intro
  ·by_cases z:n=f
   ·subst z; simp
   ·exact absurd (if_neg z) hn
 obtain ⟨od,es,ep,hod,_⟩:=id g2;have fr:od.isFreed=false:=(Heap.get?_some_iff.mp hod).2;have gd:(s.heap.push od).get? s.heap.objs.size=some od:=Heap.get?_push_size s.heap fr
 have I1:Inv X pins σ (upd H s.heap.objs.size (XdO s.heap.objs.size [(f,y)])) { s with heap:=s.heap.push od,toks:=t' } :=
  I.laid (fun b v z=>Heap.get?_push_of_some _ z) (Nat.le_refl _) ⟨nB.stay _ _ xd fun o z=>by rw [hod] at z; cases z; exact gd,⟨_,gd⟩,nB.stay⟩
 refine I1.write (x:=e) (e:=e) (o:=fH e C (some s.heap.objs.size)) (h':=h') (t':=t') (by rw [aw (Ne.symm ne),he]; exact True.intro) (.inl rfl) (fun b v hb z=>?_) ⟨_,g1⟩ ⟨⟨_,a0,g1,hc,hd,rfl⟩,⟨_,g1⟩,cB.stay⟩;by_cases q:b=s.heap.objs.size
 ·subst q;rw [show ({ s with heap:=s.heap.push od,toks:=t' }:Shared).heap=s.heap.push od from rfl,gd] at z
  cases z;exact hod
 ·have z':(s.heap.push od).get? b=some v:=z;rcases Heap.get?_push_cases z' with ⟨r,_⟩ | r
  ·exact absurd r q
  ·exact g3 b v hb r
theorem v8 (I:Inv X pins σ H s) (he:H e=some (fH e C (some dx))) (hD:H dx=some (XdO dx fs)) (ei:ExI X.K C) (hn:findIn X.K (.ref C) f=some none) (hl:fs.length<1000) (ry:a7 y u)
  (k:∀ s',Inv X pins σ (upd H dx (XdO dx (bL f y fs))) s'→Q () s'):wpAny (model X.prog X.w) A (setAttr (.ref e) f u) Q E s:=by
 have p:cB e C (some dx) s.heap:=(show bq X.prog X.w H s.heap e (.ext (cB e C (some dx))) from I.hok e _ he).1;obtain ⟨o,a0,hx,hc,hd,hdn⟩:=id p;obtain ⟨mA,ns,rel,wi⟩:nB dx fs s.heap:=(show bq X.prog X.w H s.heap dx (.ext (nB dx fs)) from I.hok dx _ hD).1;refine Ek I.kIn ei (gK.looks p.at) hn (r9 (s:={ s with toks:=s.toks+1 }) I.kIn ei hx hc hd hdn ns wi (by rw [List.length_map]; exact hl) fun h' t' g2 g3=>?_);have hd':∃ o,h'.get? dx=some o:=let ⟨o,_,_,z,_⟩:=g2; ⟨o,z⟩;refine k _ (I.write (x:=dx) (e:=dx) (by rw [hD]; exact True.intro) (.inl rfl) g3 hd' ⟨⟨_,g2,fun n=>?_,fun n hn=>?_⟩,hd',nB.stay⟩)
 ·show fj ((bL f y fs).lookup n) (if n=f then some u else mA n)
  rw [aD];by_cases q:n=f
  ·rw [if_pos q,if_pos q]; exact ry
  ·rw [if_neg q,if_neg q]; exact rel n
 ·by_cases q:n=f
  ·rw [q]; exact (fT f y fs).1
  ·refine (fT f y fs).2 n (wi n fun z=>hn ?_)
   show (if n=f then some u else mA n)=none
   rw [if_neg q]; exact z
end
theorem DE {H:Hp} {a:Addr} {o:HO} (h:H a=some o):upd H a o=H:=by
 funext b
 unfold upd;by_cases z:b=a
 ·rw [if_pos z,z,h]
 ·rw [if_neg z]
section
variable {X:Cx} {pins:List (Addr×Obj)} {σ:St} {H:Hp} {s:Shared} {e C:Addr} {xo:Option Addr} {u:Value} {A:Around} {E:Value→Shared→Prop} {Q:Value→Shared→Prop}
theorem EE (I:Inv X pins σ H s) (he:H e=some (fH e C xo)) (ei:ExI X.K C)
  (k:∀ s',Inv X pins σ H s'→Q .none s'):wpAny (model X.prog X.w) A (call (.builtin "ValueError.__init__") [.ref e,u]) Q E s:=by
 have p:cB e C xo s.heap:=(show bq X.prog X.w H s.heap e (.ext (cB e C xo)) from I.hok e _ he).1;obtain ⟨o,a0,hx,hc,hd,hdn⟩:=id p;obtain ⟨nm,qn,N,bs,up,sn,sub,ab,col,dd,k0,k1,k2,k3,k5,hl,tl⟩:=mi ei.ex;have cl:=I.kIn _ _ hl;have T:=tail_of_in I.kIn tl;have F:=PySem.F.excBase_ValueError;obtain ⟨hh,g,d,t,os⟩:=s;refine wpAny_call (codeAny_call_builtin F.init.plain F.initEntry (wpAny_check_init_subT F T cl hx hc ?_));obtain ⟨oc,od,odt,osl⟩:=o;dsimp only at hc hd hdn;subst hc hd hdn
 wp_walk
 have fin:Q Value.none ⟨(hh.push { cls:=.type "tuple",data:=.seq #[u] }).update e (Obj.mapFields fun x=>x.setIfInBounds 0 (.ref hh.objs.size)),g,d,t,os⟩:=by
  have g1:=Heap.get?_update_self (Obj.mapFields fun x=>x.setIfInBounds 0 (.ref hh.objs.size)) (Heap.get?_push_of_some { cls:=.type "tuple",data:=.seq #[u] } hx) rfl;refine k _ ?_;have J:=I.write (x:=e) (e:=e) (o:=fH e C od) (h':=(hh.push { cls:=.type "tuple",data:=.seq #[u] }).update e (Obj.mapFields fun x=>x.setIfInBounds 0 (.ref hh.objs.size))) (t':=t) (by rw [he]; exact True.intro) (.inl rfl) (fun b v hb z=>?_) ⟨_,g1⟩ ⟨⟨_,.ref hh.objs.size,g1,rfl,rfl,rfl⟩,⟨_,g1⟩,cB.stay⟩
  ·rw [DE he] at J;exact J
  ·rw [Heap.get?_update_other _ _ (Ne.symm hb)];exact Heap.get?_push_of_some _ z
 show wpAny _ _ (match a0 with | .ref a=>letGo [a0] | _=>pure ()) _ _ _
 cases a0<;>first | (refine wpAny_pure (wpAny_pure ?_); exact fin) | (wp_walk; exact fin)
end
structure BO (K:W.Frag) (S:Addr):Prop where
 ga:specialIn K (.ref S) "__getattribute__"=some (some (.builtin "type.__getattribute__"))
 rd:readsIn K S (.type "type")=true
 at_:findCls K (.ref S) (.type "type") "__init__"=some (.val (.builtin "ValueError.__init__"))
def zZ (K:W.Frag) (t:TA):TE:=fun σ H Q=>t σ H fun vs H1=>∃ (e C:Addr) (xo:Option Addr) (y:V),vs=[.ref e,y]∧H1 e=some (fH e C xo)∧ExI K C∧Q .non H1
theorem y9 {K:W.Frag} {t:TA} {σ:St} {H:Hp} {Q:VK} (h:t σ H fun vs H1=>∃ (e C:Addr) (xo:Option Addr) (y:V),vs=[.ref e,y]∧H1 e=some (fH e C xo)∧ExI K C∧Q .non H1):zZ K t σ H Q:=h
section
variable {X:Cx} {S:Addr} {x:Str} {p pos apos:Pos} {e o:Expr} {es:List Expr} {t:TA}
theorem yl {pl:Sem Bool} (hg:Gl X x) (hm:X.mg x=some (.ref S)) (c:BO X.K S) (ha:PA X (e::es) t)
  (hdb:(x==("__debug__":Str))=false:=by decide)
  (hst:starEach (e::es) X.env=(false,eval e X.env)::starEach es X.env:=by rfl) (hpl:(backTo pos (starEach es X.env)).any (·.1)=false:=by rfl)
  (ht:eval (.Call (.Attribute (.Name x p) "__init__" apos) (e::es) [] pos) X.env=(do
   let ov ← eval (.Name x p) X.env
   standAt apos.atName
   let (f,first) ← holding [ov] (getMethod ov "__init__" pl)
   callWith pos f first (backTo pos (starEach (e::es) X.env)) (backToKw pos (keywordEach [] X.env))):=by rfl) :
  PE X (.Call (.Attribute (.Name x p) "__init__" apos) (e::es) [] pos) (zZ X.K t):=by
 intro pins s σ H Q I h;refine W.methodCall_KW (pl:=pl) (thn ((dC (v:=.ref S) hg hm rfl hdb) pins s σ H (fun x H1=>x=.ref S∧H1=H) I ⟨rfl,rfl⟩) fun u s1 ⟨x,H1,I1,rx,ex,eh⟩=>?_) ht;subst ex; subst eh;obtain rfl:u=Value.ref S:=rx
 refine W.method_cls I1.kIn c.ga (W.cls_value I1.kIn c.rd c.at_ rfl ?_);have I2:=I1.tok (s1.toks+1);have hA:=ha pos pins _ σ H1 _ I2 h;rw [hst] at hA ⊢;refine Calls.callWith_builtin (by show (false||(backTo pos (starEach es X.env)).any (·.1))=false; rw [hpl]<;>rfl) (Calls.evalArgs_plain ?_);refine thn hA fun us s2 ⟨vs,H2,I3,r,q2⟩=>?_;obtain ⟨ee,C,xo,y,rfl,he,ei,q⟩:=q2;obtain ⟨u1,u2,rfl,r1,r2⟩:=r.two
 cases (show u1=Value.ref ee from r1)
 exact EE I3 he ei fun s' I'=>⟨.non,H2,I',rfl,q⟩
end
def B3 (K:W.Frag) (ta tv:TE) (f:Str):TS:=fun D σ H=>tv σ H fun y H1=>ta σ H1 fun x H2=>∃ (e C:Addr),x=.ref e∧ExI K C∧findIn K (.ref C) f=some none ∧
  ((H2 e=some (fH e C none)∧∀ d,H2 d=none→d≠e→D.nx σ (upd (upd H2 d (XdO d [(f,y)])) e (fH e C (some d)))) ∨
   ∃ dx fs,H2 e=some (fH e C (some dx))∧H2 dx=some (XdO dx fs)∧fs.length<1000∧D.nx σ (upd H2 dx (XdO dx (bL f y fs))))
theorem yZ {K:W.Frag} {ta tv:TE} {f:Str} {D:cU} {σ:St} {H:Hp} (h:tv σ H fun y H1=>ta σ H1 fun x H2=>∃ (e C:Addr),x=.ref e∧ExI K C∧findIn K (.ref C) f=some none ∧
  ((H2 e=some (fH e C none)∧∀ d,H2 d=none→d≠e→D.nx σ (upd (upd H2 d (XdO d [(f,y)])) e (fH e C (some d)))) ∨
   ∃ dx fs,H2 e=some (fH e C (some dx))∧H2 dx=some (XdO dx fs)∧fs.length<1000∧D.nx σ (upd H2 dx (XdO dx (bL f y fs))))):B3 K ta tv f D σ H:=h
theorem A0 {X:Cx} {ta tv:TE} {f:Str} {o value:Expr} {pos pos':Pos} (ha:PE X o ta) (hv:PE X value tv) (hs:swapsWith value (some (.Attribute o f pos')) pos.line X.env=pure false):PS X (.Assign [.Attribute o f pos'] value pos) (B3 X.K ta tv f):=by
 intro pins s σ H D I h;refine plainObj_wpAny_Assign_Attribute (thn (hv pins s σ H _ I h) fun u s1 ⟨y,H1,I1,ry,q⟩=>thn (ha pins s1 σ H1 _ I1 q) fun ov s2 ⟨x,H2,I2,rx,e,C,ex,ei,n,q2⟩=>?_) hs;subst ex;obtain rfl:ov=Value.ref e:=rx
 rcases q2 with ⟨he,k⟩ | ⟨dx,fs,he,hD,hl,k⟩
 ·exact zF I2 he ei n ry fun d s3 hd hne I3=>⟨σ,_,I3,k d hd hne⟩
 ·exact v8 I2 he hD ei n hl ry fun s3 I3=>⟨σ,_,I3,k⟩
noncomputable def del (H:Hp) (e:Addr):Hp:=fun b=>if b=e then none else H b
theorem gp {H:Hp} {e b:Addr} (h:b≠e):del H e b=H b:=by unfold del; rw [if_neg h]
theorem fS {H:Hp} {e:Addr}:del H e e=none:=by unfold del; rw [if_pos rfl]
theorem Inv.untrack {X:Cx} {pins:List (Addr×Obj)} {σ:St} {H:Hp} {s:Shared} {e:Addr} {φ:Heap→Prop} (I:Inv X pins σ H s) (he:H e=some (.ext φ)):Inv X pins σ (del H e) s:=by
 have nt:∀ b u,H b=some u→(∀ ψ,u≠.ext ψ)→del H e b=some u:=fun b u z n=>by
  rw [gp (fun q=>by subst q; rw [he] at z; cases z; exact n φ rfl)]; exact z
 refine ⟨I.ok,I.os,I.bare,⟨I.base.keep,I.base.slot,fun b o z n hx=>?_,I.base.there,fun b xs z=>?_,fun b o u z=>?_,fun b ps z=>?_⟩,I.loc,I.cell,?_,fun x c z=>?_,fun p hp=>?_,fun b u z=>?_,I.len⟩
 ·by_cases q:b=e
  ·rw [q,fS]
  ·rw [gp q]; exact I.base.free b o z n hx
 ·exact nt b _ (I.base.tups b xs z) (by intro ψ q; cases q)
 ·exact nt b _ (I.base.frzs b o u z) (by intro ψ q; cases q)
 ·obtain ⟨m,q⟩:=I.base.tbls b ps z;exact ⟨m,nt b _ q (by intro ψ q; cases q)⟩
 ·by_cases q:X.env.locals=e
  ·rw [q,fS]
  ·rw [gp q]; exact I.free
 ·by_cases q:c=e
  ·rw [q,fS]
  ·rw [gp q]; exact I.freeC x c z
 ·obtain ⟨a,n,r⟩:=I.pin p hp;refine ⟨a,?_,r⟩;by_cases q:p.1=e
  ·rw [q,fS]
  ·rw [gp q]; exact n
 ·have hb:b≠e:=fun q=>by rw [q,fS] at z; cases z
  rw [gp hb] at z;exact (I.hok b u z).stay (fun _ _ _ w=>w) (fun c w=>nt c _ w (by intro ψ q; cases q)) fun c xs w=>nt c _ w (by intro ψ q; cases q)
section
variable {M:Model} {A:Around} {E:Value→Shared→Prop} {env:Env} {K:W.Frag} {C:Addr}
theorem A8 {s:Shared} {x:Sem Value} {Q:Flow→Shared→Prop} (ei:ExI K C) (hh:A.handled=none)
  (h:wpAny M A x (fun v s₁=>∃ e oe a0,v=.ref e∧K.In s₁.heap∧s₁.heap.get? e=some oe∧oe.cls=.ref C∧oe.data=.fields #[a0,.none,.none,.none,.bool false,.none]∧E (.ref e) s₁) E s):wpAny M A (raiseStmt env (some x) none) Q E s:=by
 obtain ⟨nm,qn,N,bs,up,sn,sub,ab,col,dd,k0,k1,k2,k3,k5,hl,tl⟩:=mi ei.ex;unfold raiseStmt;refine wpAny_bind (wpAny_mono h (fun v s₁ h₁=>?_) fun _ _ x=>x);obtain ⟨e,oe,a0,rfl,X,he,hc,hd,hE⟩:=h₁;have cl:=X _ _ hl;have hb:(Value.ref C::up).contains (.type "BaseException")=true:=by rw [List.contains_cons,(tail_of_in X tl).hasType PySem.F.excBase_ValueError.hasBase,Bool.or_true]
 obtain ⟨oc,od,odt,osl⟩:=oe;dsimp only at hc hd;subst hc hd;obtain ⟨hp,g,d,tk,os⟩:=s₁
 repeat (first | with_reducible refine wpAny_loadPart_at he ?_ | with_reducible refine wpAny_loadPart_at cl ?_ | (with_reducible refine wpAny_isSubtype_exc cl ?_; rw [hb]) | wp_step)
 exact wpAny_raiseNew_none hh hE
end
structure MkX (K:W.Frag) (C f:Addr):Prop where
 ei:ExI K C
 init:findIn K (.ref C) "__init__"=some (some (.ref f))
 fn:typeIn K (.ref f)=some (.type "function")
 kp:keepIn K (.ref C)=true
def u6 (C:Addr) (sp:Sp) (E:XK) (t:TA):TS:=fun _ σ H=>t σ H fun vs H1=>vs.length≤sizeLine∧∀ e,H1 e=none →
 sp (.ref e::vs) (upd H1 e (fH e C none)) (fun v H2=>v=.non∧∃ xo,H2 e=some (fH e C xo)∧E (.ref C) xo (del H2 e)) E0
theorem vY {C:Addr} {sp:Sp} {E:XK} {t:TA} {D:cU} {σ:St} {H:Hp} (h:t σ H fun vs H1=>vs.length≤sizeLine∧∀ e,H1 e=none →
 sp (.ref e::vs) (upd H1 e (fH e C none)) (fun v H2=>v=.non∧∃ xo,H2 e=some (fH e C xo)∧E (.ref C) xo (del H2 e)) E0):u6 C sp E t D σ H:=h
inductive PEs (X:Cx):List Expr→List TE→Prop
 | nil:PEs X [] []
 | cons {e:Expr} {es:List Expr} {t:TE} {ts:List TE}:PE X e t→PEs X es ts→PEs X (e::es) (t::ts)
end L2
namespace L2
open PySem PySem.Spec PyProof.Rows PySem.W
theorem exi_mk {K:W.Frag} {C S:Addr} {line:List Value} {nid:String} {dd:Option Addr} {k:ClassData} {ss:Array (Option Value)} {k0 k1 k2 k3 k5:Option Value}
  (hl:K.lookup C=some ⟨.type "type",dd,.cls k,ss⟩) (hm:k.mro=.ref C::.ref S::line) (hs:ss.toList=[k0,k1,k2,k3,some (.builtin nid),k5]) (hdel:k.hasDel=false) (hd:k.hasDict=true) (xs:excIn K S line nid=true):sR K C line nid=true:=by
 have tl:tailIn K line (.ref S::line)=true:=by
  have tt:tailIn K line line=true:=by
   cases line with
   | nil=>rfl
   | cons v r=>unfold tailIn; rw [show ((v::r)==(v::r))=true from beq_self_eq_true _]; rfl
  unfold tailIn;unfold excIn at xs
  split at xs
  case h_2=>cases xs
  case h_1 dd' cd sl ho =>
   split at xs
   case h_2=>cases xs
   case h_1 =>
    simp only [Bool.and_eq_true] at xs;dsimp only;rw [ho];simp only [Bool.or_eq_true,Bool.and_eq_true];exact .inr ⟨⟨xs.1.2,xs.2⟩,tt⟩
 unfold sR;simp only [hl,hm,hs];simp only [hdel,hd,tl,beq_self_eq_true,Bool.not_false,Bool.and_self]
end L2
namespace L2
open PySem PySem.Spec PyProof.Rows
end L2
namespace Fc
noncomputable def it:Nat→Nat→Nat
 | 0,x=>x
 | n+1,x=>it n (5*x+1)
noncomputable def lp (M:Nat):Nat→Nat×Nat→Nat×Nat
 | 0,q=>q
 | r+1,q=>lp M r ((q.1*5+1+q.2 / 32)%M,q.2 / 32)
end Fc
namespace Fc
open PySem PySem.SetTable
noncomputable def st (mask:Nat) (q:Nat×Nat):Probe:={ j:=q.1,more:=runEnd mask q.1 - q.1,i:=q.1,perturb:=q.2,dummy:=none }
noncomputable def pr (t:SetTable) (h:Int):Nat→Probe
 | 0=>t.probeStart h
 | m+1=>t.advance (pr t h m)
end Fc
namespace Fc
open PySem PySem.SetTable PyProof.Rows
section
variable {prog:Program} {w:World} {A:Around} {E:Value→Shared→Prop} {s:Shared}
abbrev TK (prog:Program) (w:World) (h:Heap) (q:List Int) (b:Addr):Prop:=IsTupleKey (intKind prog w) h q b
end
end Fc
namespace Fc
open PySem PySem.SetTable PyProof.Rows
section
variable {prog:Program} {w:World} {A:Around} {E:Value→Shared→Prop} {s:Shared}
def Els (prog:Program) (w:World) (h:Heap) (es:Array (Int×Value)) (ks:List (List Int)):Prop:=∀ e∈es.toList,∃ q∈ks,∃ b,e.2=.ref b∧TK prog w h q b
end
end Fc
namespace Fc
open PySem PySem.SetTable PyProof.Rows
noncomputable def cnt (owner:Array (Option Nat)) (n:Nat):Nat:=((List.range n).filter fun j=>(owner.getD j none).isSome).length
end Fc
namespace Fc
open PySem PySem.SetTable PyProof.Rows
section
variable {prog:Program} {w:World} {A:Around} {E:Value→Shared→Prop} {s:Shared}
def EJ (prog:Program) (w:World) (h:Heap) (a:Addr) (ks:List (List Int)):Prop:=∃ o es ep t k,h.get? a=some o∧o.ExactSet∧o.data=.set es ep t∧t.mask+1=2 ^ k∧3≤k∧k≤13∧t.dummies=#[]∧t.place.size=es.size∧es.size=ks.length∧es.size*5<t.mask*3∧Els prog w h es ks
end
end Fc
namespace Fc
open PySem PySem.SetTable PyProof.Rows
end Fc
namespace L2
open PySem PySem.Spec PyProof.Rows PySem.W
noncomputable def sgn (c:Nat):Str:=⟨#[c]⟩
noncomputable def Itx (x:Str):It:=⟨fun i _=>i<x.cps.size,fun i H v H'=>H'=H∧∃ c,x.cps[i]?=some c∧v=.str (sgn c),fun i _=>x.cps.size≤i⟩
theorem wz {P:Program} {w:World} {K:W.Frag} {tg:Expr} {ty:String} (it:Addr) (x:Str) (t:Tok) (hty:ty="str_ascii_iterator"∨ty="str_iterator"):sH P w K tg (Itx x) [it] it (fun i h=>h.IsStrIter it ty x t i) where
  mem:=by simp
  obj:=fun i h st b hb=>by
    have e:b=it:=by simpa using hb
    subst e;obtain ⟨o,e,c,d⟩:=st;exact ⟨o,e,fun v z=>by rw [d] at z; cases z⟩
  keep:=fun i h h' st k=>let ⟨o,ho,r⟩:=st; ⟨o,k it (by simp) o ho,r⟩
  item:=by
    intro X hP hw hK hc i pins s σ H E I hf st hg;subst hP hw hK;have hg:i<x.cps.size:=hg;obtain ⟨f0,f1,f2,f3,f4,f5⟩:=hf it (by simp);have key:∀ h':Heap,h'.IsStrIter it ty x t (i+1)→Heap.SameBut it s.heap h' →
        ∃ u,some (Value.str ⟨#[x.cps[i]]⟩ s.toks)=some u∧wpAny (model X.prog X.w) X.A (letOwnedTupleGo tg (.ref it) u) (fun _ s2=>∃ x_1 H',Inv X pins σ H' s2∧a7 x_1 u∧(Itx x).yld i H x_1 H'∧s2.heap.IsStrIter it ty x t (i+1)∧∀ b∈[it],H' b=none) E { s with heap:=h',toks:=s.toks+1 }:=fun h' st' sb=>by
      have I1:Inv X pins σ H { s with heap:=h',toks:=s.toks+1 }:=I.turned (fun b o hb e=>(sb.2 b hb).trans e) f0 f1 f3 f4 f5;obtain ⟨o,e,c,d⟩:=id st';exact ⟨_,rfl,xq (s:={ s with heap:=h',toks:=s.toks+1 }) e c d (by rcases hty with z | z<;>rw [z]<;>decide) ⟨.str (sgn x.cps[i]),H,I1,⟨_,rfl⟩,⟨rfl,_,by simp [hg],rfl⟩,st',fun b hb=>(hf b hb).1⟩⟩
    rcases hty with z | z
    · subst z
      exact wpAny_pyNext_ascii_item st (c:=x.cps[i]) (by simp [hg]) key
    · subst z
      exact wpAny_pyNext_wide_item st (c:=x.cps[i]) (by simp [hg]) key
  done:=by
    intro X hP hw hK hc i pins s σ H E I hf st hg;subst hP hw hK;have hg:x.cps.size≤i:=hg;obtain ⟨f0,f1,f2,f3,f4,f5⟩:=hf it (by simp);have key:∀ h':Heap,Heap.ExtBut it s.heap h'→(none:Option Value)=none∧Inv X pins σ H { s with heap:=h' }:=fun h' eb=>⟨rfl,I.turned (t':=s.toks) (fun b o hb e=>eb b o hb e) f0 f1 f3 f4 f5⟩
    rcases hty with z | z
    · subst z
      exact wpAny_pyNext_ascii_end (I.ok.hd hc) st (by simp; omega) key
    · subst z
      exact wpAny_pyNext_wide_end (I.ok.hd hc) st (by simp; omega) key
  self:=fun A i s Q E st h=>by
    rcases hty with z | z
    · subst z; exact wpAny_pyIter_striter_ascii st h
    · subst z; exact wpAny_pyIter_striter_wide st h
def BR (tl:TE):TI:=fun σ H R=>tl σ H fun v H1=>∃ x:Str,v=.str x∧R (Itx x) H1
theorem za {tl:TE} {σ:St} {H:Hp} {R:It→Hp→Prop} (h:tl σ H fun v H1=>∃ x:Str,v=.str x∧R (Itx x) H1):BR tl σ H R:=h
theorem uP {X:Cx} {tg l:Expr} {tl:TE} (hl:PE X l tl):PI X tg l (BR tl):=by
 intro pins s σ H R I h;refine thn (hl pins s σ H _ I h) fun v s1 ⟨x,H1,I1,r1,q1⟩=>?_;obtain ⟨x,rfl,q⟩:=q1;obtain ⟨t,rfl⟩:=r1;have fin:∀ (ty:String),(ty="str_ascii_iterator"∨ty="str_iterator")→PIE X pins σ tg R (.ref s1.heap.objs.size) { s1 with heap:=s1.heap.push { cls:=.type ty,data:=.fields #[.str x t,.int 0 0] } }:=fun ty hty=>by
  refine ⟨s1.heap.objs.size,[s1.heap.objs.size],_,_,H1,rfl,I1.kept (t':=s1.toks) fun b o e=>Heap.get?_push_of_some _ e,wz _ x t hty,⟨_,Heap.get?_push_size _ rfl,rfl,rfl⟩,fun b hb=>?_,q⟩;have e:b=s1.heap.objs.size:=by simpa using hb
  subst e;exact I1.fpOk (Nat.le_refl _) (I1.hok.fresh (Nat.le_refl _))
 cases ha:x.cps.all (·<128)
 ·exact wpAny_pyIter_wide ha (fin _ (.inr rfl))
 ·exact wpAny_pyIter_ascii ha (fin _ (.inl rfl))
theorem kQ {σ:St} {H:Hp} {Q:VK} {te:TE} {cap:List (Option Nat)} {l:Addr} {x:Str} (ys:List V) (hy:ys.length=x.cps.size) (hz:x.cps.size≤1000) (hl:H l=none)
  (step:∀ (i:Nat) c y o H' (Q':VK),x.cps[i]?=some c→ys[i]?=some y→ao H H'→(∀ H5,ao H' H5→Q' y H5)→te (((gk (none::cap) σ).set 0 o).set 0 (some (.str (sgn c)))) H' Q')
  (fin:∀ H',ao H H'→H' l=some (.lst ys)→Q (.ref l) H'):js (Itx x) (d7 0) jZ te (none::cap) l σ H Q:=by
 refine ⟨x.cps.size,fun i zs σ' H'=>zs=ys.take i∧(∃ o,σ'=(gk (none::cap) σ).set 0 o)∧ao H H'∧H' l=some (.lst zs),⟨rfl,⟨none,rfl⟩,ao.new hl,ai⟩,?_,?_⟩
 ·rintro i zs σ' H' hi ⟨rfl,⟨o,rfl⟩,s,e⟩;refine ⟨hi,fun v H2 y=>?_⟩;obtain ⟨e2,c,hc,rfl⟩:=y;subst e2;have hyi:i<ys.length:=by omega
  refine c8 (fF (mw ?_));refine step i c ys[i] o H2 _ hc (List.getElem?_eq_getElem hyi) s fun H5 s5=>⟨s5 _ _ e,?_,?_⟩
  ·rw [List.length_take];exact aZ (by omega)
  ·exact ⟨List.take_append_getElem hyi,⟨_,List.set_set ..⟩,(s.trans s5).later hl,ai⟩
 ·rintro zs σ' H' ⟨rfl,_,s,e⟩;rw [List.take_of_length_le (by omega)] at e;exact ⟨Nat.le_refl _,fin H' s e⟩
theorem rN:∀ (l:List (Str×Tok)),a9 ((l.map (·.1)).map V.str) (strValues l)
 | []=>.nil
 | (x,t)::l=>Paired.cons (show a7 (.str x) (.str x t) from ⟨t,rfl⟩) (rN l)
theorem se:∀ {xs:List Str} {us:List Value},a9 (xs.map V.str) us→∃ l:List (Str×Tok),us=strValues l∧l.map (·.1)=xs
 | [],us,h=>by cases h; exact ⟨[],rfl,rfl⟩
 | x::xs,us,h=>by
  cases h with
  | cons h1 h2 =>
   obtain ⟨t,rfl⟩:=(show ∃ t,_=Value.str x t from h1)
   obtain ⟨l,rfl,rfl⟩:=se h2;exact ⟨(x,t)::l,rfl,rfl⟩
theorem wk (x y:Str):(Txt.split x y).length≤x.length+2:=by
 unfold Txt.split
 split
 ·show 1≤_; omega
 ·split
  ·show 1≤_; omega
  ·rw [length_partsBetween];have:=StrLaws.occ_length_le x y 0 x.length (x.length+1)
   omega
def C0:V→List V→Hp→VK→Prop:=fun x ys H Q=>∃ a b:Str,x=.str a∧ys=[.str b]∧(b.length==0)=false∧a.length≤5000∧∀ p,H p=none→Q (.ref p) (upd H p (.lst ((Txt.split a b).map V.str)))
theorem d8 {X:Cx}:MtR X "str.split" C0:=by
 intro pins s σ H x ys v us Q I rx rv h;obtain ⟨x,y,rfl,rfl,hy,hz,q⟩:=h;obtain ⟨t,rfl⟩:=rx;obtain ⟨u,rfl,ru⟩:=rv.one;obtain ⟨u,rfl⟩:=ru;have hsz:x.length≤sizeLine:=Nat.le_trans hz (by decide)
 have hsz2:(Builtin.Str.partsBetween x (Builtin.Str.occurrences x y 0 x.length (x.length+1)) y.length).length≤sizeLine:=by
  rw [length_partsBetween];have:=StrLaws.occ_length_le x y 0 x.length (x.length+1)
  exact Nat.le_trans (show _≤5010 by omega) (by decide)
 have few:=wk x y;have fin:∀ (l:List (Str×Tok)) (k:Nat),l.map (·.1)=Txt.split x y→EP X pins σ Q (.ref s.heap.objs.size) { s with toks:=k,heap:=s.heap.push { cls:=.type "list",data:=.seq (strValues l).toArray } }:=fun l k hl=>by
  refine ⟨.ref _,_,I.lnew (t':=k) (ys:=(Txt.split x y).map V.str) (its:=strValues l) (by rw [← hl]; exact rN l) (by rw [List.length_map]; exact Nat.le_trans (show _≤5010 by omega) (by decide)),rfl,q _ I.fresh⟩
 cases h1:(decide (x.length<y.length)||decide (Builtin.Str.strKind x<Builtin.Str.strKind y))
 ·cases hf:(Builtin.Str.occurrences x y 0 x.length (x.length+1)).isEmpty
  ·refine call_meets F.slot_str_split (typeIs_str _ _ _) F.entry_str_split (F.args_str_split_2 _ _) (meets_str_split_sep x y t u h1 hy hf hsz hsz2) ?_
   show wants (EP X pins σ Q) X.xe _ { s with toks:=_,heap:=s.heap.push { cls:=.type "list",data:=.seq (strsFrom s.toks (Builtin.Str.partsBetween x (Builtin.Str.occurrences x y 0 x.length (x.length+1)) y.length)).toArray } }
   rw [strsFrom_eq];exact fin (numbered s.toks _) _ ((numbered_texts _ _).trans ((if_neg (ne_true_of_eq_false h1)).trans (if_neg (ne_true_of_eq_false hf))).symm)
  ·exact call_meets F.slot_str_split (typeIs_str _ _ _) F.entry_str_split (F.args_str_split_2 _ _) (meets_str_split_not_found x y t u h1 hy hf) (fin [(x,t)] s.toks ((if_neg (ne_true_of_eq_false h1)).trans (if_pos hf)).symm)
 ·exact call_meets F.slot_str_split (typeIs_str _ _ _) F.entry_str_split (F.args_str_split_2 _ _) (meets_str_split_cannot_occur x y t u h1) (fin [(x,t)] s.toks (if_pos h1).symm)
def D6:V→List V→Hp→VK→Prop:=fun x ys H Q=>∃ (a:Str) (p:Addr) (ts:List Str),x=.str a∧ys=[.ref p]∧H p=some (.lst (ts.map V.str))∧JoinOk a ts=true∧Q (.str (Txt.join a ts)) H
theorem iB {X:Cx}:MtR X "str.join" D6:=by
 intro pins s σ H x ys v us Q I rx rv h;obtain ⟨x,p,ts,rfl,rfl,hp,hok,q⟩:=h;obtain ⟨t,rfl⟩:=rx;obtain ⟨u,rfl,ru⟩:=rv.one
 cases ru;obtain ⟨z,its,n,r,hl,e⟩:=I.lstM hp;obtain ⟨l,rfl,ht⟩:=se r;exact SC.join (l:=l) ⟨_,e,rfl,n,rfl⟩ ht hok fun t' k=>⟨.str _,H,I.tok _,⟨_,rfl⟩,q⟩
def D5:List V→Hp→VK→Prop:=fun xs H Q=>∃ (x:Str) (n:Int),xs=[.str x]∧PySem.intText? x=some n∧x.length≤640∧Q (.int n) H
theorem pj {X:Cx}:cb X (.type "int") D5:=by
 intro pins s σ H xs us Q I r h;obtain ⟨x,n,rfl,hn,hl,q⟩:=h;obtain ⟨u,rfl,rx⟩:=kZ r;obtain ⟨t,rfl⟩:=rx;exact PySem.W.KIN.call_text hn hl ⟨.int n,H,I.tok _,⟨_,rfl⟩,q⟩
theorem u0 {v:Value} {o:Option Int} (h:IsPart v o):∃ p:Option (Int×Tok),v=partValue p∧p.map (·.1)=o:=by
 cases h with
 | none=>exact ⟨none,rfl,rfl⟩
 | int i t=>exact ⟨some (i,t),rfl,rfl⟩
def D7:V→Option Int→Option Int→Hp→VK→Prop:=fun x lo hi H Q=>∃ a:Str,x=.str a∧a.length≤sizeLine∧Q (.str (Txt.slice a lo hi)) H
theorem BC {X:Cx}:SlR X D7:=by
 intro pins s σ H x v vl vu lo hi sl Q I rx hs pl pu h;obtain ⟨a,rfl,hz,q⟩:=h;obtain ⟨t,rfl⟩:=rx;obtain ⟨l,rfl,rfl⟩:=u0 pl;obtain ⟨u,rfl,rfl⟩:=u0 pu;refine ⟨"str",_,F.slot_str_getitem.lookup,typeIs_str _ _ _,wpAny_getItem_str_slice (l:=l) (u:=u) (st:=none) hs rfl ?_⟩;exact post_val_or_str ⟨Nat.le_trans (Txt.slice_le a _ _) hz,fun t' k=>⟨.str _,H,I.tok _,⟨_,rfl⟩,q⟩⟩
def BW:List V→Hp→VK→Prop:=fun xs H Q=>∃ z:Str,xs=[.str z]∧z.length≤sizeLine∧Q (.int z.length) H
theorem jy {X:Cx}:cb X (.builtin "len") BW:=pq
theorem jN {H:Hp} {Q:VK} {z:Str} (h:z.length≤sizeLine) (q:Q (.int z.length) H):BW [.str z] H Q:=⟨z,rfl,h,q⟩
end L2
namespace L2
open PySem PySem.Spec PyProof.Rows
open Builtin Builtin.Str
theorem BF {a b:Str} (h:a.cps.toList=b.cps.toList):a=b:=by
 cases a with | mk x=>cases b with | mk y=>congr 1; exact Array.toList_inj.mp h
theorem wR (a b:Str):(a++b).cps.toList=a.cps.toList++b.cps.toList:=Array.toList_append
section
variable {prog:Program} {w:World} {A:Around} {E:Value→Shared→Prop}
theorem wW {it l:Addr} {items:Array Value} (ne:l≠it):∀ (n i:Nat) (s:Shared) (Q:List Value→Shared→Prop),s.heap.IsListIter it l i→s.heap.IsList l items→i+n≤items.size →
  (∀ h',h'.IsListIter it l (i+n)→Heap.SameBut it s.heap h'→Q ((items.toList.drop i).take n) { s with heap:=h' })→wpAny (model prog w) A (draw (.ref it) n) Q E s
 | 0,i,s,Q,a,_,_,k=>by
  show wpAny _ _ (pure []) Q E s
  exact wpAny_pure (by simpa using k s.heap a (Heap.SameBut.refl ..))
 | n+1,i,s,Q,a,b,z,k=>by
  have lt:i<items.size:=by omega
  show wpAny _ _ (pyNext (.ref it) >>= _) Q E s
  refine wpAny_bind (wpAny_pyNext_list_item a b (x:=items[i]) (by simp [lt]) fun h1 a1 s1=>?_);refine wpAny_bind (wpAny_holding (wW ne n (i+1) _ _ a1 (by
   obtain ⟨o,ho,hr⟩:=id b;exact ⟨o,(s1.2 l ne).trans ho,hr⟩) (by omega) fun h2 a2 s2=>wpAny_pure ?_))
  have e:items.toList.drop i=items[i]::items.toList.drop (i+1):=by simp [List.drop_eq_getElem_cons,lt]
  have r:=k h2 (by rw [show i+(n+1)=i+1+n by omega]; exact a2) (s1.trans s2);rw [e,List.take_succ_cons] at r;exact r
theorem wB {l:Addr} {items:Array Value} {s:Shared} {Q:List Value→Shared→Prop} (hh:A.handled=none) (hl:s.heap.IsList l items)
  (k:∀ h',Heap.ExtBut s.heap.objs.size s.heap h'→Q items.toList { s with heap:=h' }):wpAny (model prog w) A (unpackItems (.ref l) items.size none) Q E s:=by
 have ne:l≠s.heap.objs.size:=by obtain ⟨o,ho,_⟩:=hl; exact Nat.ne_of_lt (Heap.lt_size ho)
 unfold unpackItems;refine wpAny_bind ?_;unfold notIterableAtAll;refine wpAny_bind (wpAny_specialOf hl.typeIs slot_list_iter.lookup ?_);refine wpAny_pure ?_;simp only [Bool.false_eq_true,if_false];refine wpAny_bind (wpAny_holding (wpAny_pyIter_list hl ?_))
 have hp:(s.heap.push { cls:=.type "list_iterator",data:=.fields #[.ref l,.int 0 0] }).IsList l items:=by
  obtain ⟨o,ho,hr⟩:=hl;exact ⟨o,Heap.get?_push_of_some _ ho,hr⟩
 refine wpAny_bind (wpAny_holding (wW ne items.size 0 _ _ ⟨_,Heap.get?_push_size _ rfl,rfl,rfl⟩ hp (by omega) fun h1 a1 s1=>?_));have e:List.take items.size (List.drop 0 items.toList)=items.toList:=by rw [List.drop_zero]; exact List.take_of_length_le (by simp)
 rw [e,if_neg (by simp)];refine wpAny_bind (wpAny_holding (wpAny_pyNext_list_end hh a1 (by
  obtain ⟨o,ho,hr⟩:=hp;exact ⟨o,(s1.2 l ne).trans ho,hr⟩) (by simp) fun h2 x2=>?_))
 simp only [Option.isSome_none,Bool.false_eq_true,if_false];exact wpAny_pure (k h2 fun b o hb e=>x2 b o hb (s1.extBut b o hb (Heap.get?_push_of_some _ e)))
end
def EN (K:W.Frag) (n:Nat) (t:TGs):TG:=fun v σ H Q=>∃ a xs,v=.ref a∧SqL K H a xs∧xs.length=n∧t xs σ H Q
theorem AY {X:Cx} (K:W.Frag) (hK:X.K=K) {es:List Expr} {k:Nat} {t:TGs} {n:Nat} {pos:Pos} (hc:X.calm=true) (h:PGs X es t)
  (hn:(assignEach es X.env).length=n:=by rfl) (hst:(assignEach es X.env).findIdx? (·.1)=none:=by rfl):PG X (.Tuple es k pos) (EN K n t):=by
 subst hK;intro pins s σ H v u Q I r hw;obtain ⟨a,xs,e1,hq,hl,hw⟩:=hw;subst e1
 cases r;obtain ⟨its,rv,p,hz⟩:=I.list hq;rw [assign_Tuple];refine wpAny_bind (wpAny_standAt ?_);unfold unpack;rw [show (assignEach es X.env).length=its.toArray.size by simp [hn,← hl,rv.length],hst];refine wpAny_bind (wpAny_holding (wB (I.ok.hd hc) p.isList fun h' hx=>?_));have I1:Inv X pins σ H { s with heap:=h' }:=I.kept (t':=s.toks) fun b o e=>hx b o (Nat.ne_of_lt (Heap.lt_size e)) e;exact h pins _ σ H xs _ Q I1 (by simpa using rv) hw
def BY:R2:=fun x y H Q=>∃ (ds:List PyData) (d:PyData),Rep H (.tuple ds) y∧Rep H d x∧PyData.canLayAll0 ds=true∧d.canLay0=true∧d.depth≤60∧Q (.bl (!ds.any fun y=>PyData.eqv y d)) H
theorem uL {X:Cx} (hu:X.A.units+64<cLine):OpR X (compareOp .NotIn) BY:=by
 intro pins s σ H x y v u Q I rx ry h;obtain ⟨ds,d,h1,h2,s1,s2,s3,q⟩:=h;obtain ⟨as,r1⟩:=h1.reads I ry;obtain ⟨bs,r2⟩:=h2.reads I rx;exact SeqAt.notIn_tuple_reads r1 r2 s1 s2 (by have:=Nat.min_le_right (PyData.depthAll ds) d.depth; omega) ⟨.bl _,H,I,rfl,q⟩
theorem rK {H:Hp} {Q:VK} {x a b:Str} {p:Addr} (hp:H p=some (.tup [.str a,.str b])) (oa:PyData.strOk a=true) (ob:PyData.strOk b=true) (ox:PyData.strOk x=true) (q:Q (.bl (!(decide (a=x)||decide (b=x)))) H):BY (.str x) (.ref p) H Q:=by
  refine ⟨[.str a,.str b],.str x,?_,rfl,by simp [PyData.canLayAll0,PyData.canLay0,oa,ob],ox,by unfold PyData.depth; omega,?_⟩
  · simp only [Rep,RepL]
    exact ⟨p,_,rfl,hp,_,_,rfl,rfl,_,_,rfl,rfl,rfl⟩
  · have e:([PyData.str a,.str b].any fun y=>PyData.eqv y (.str x))=(decide (a=x)||decide (b=x)):=by
      show ((a==x)||((b==x)||false))=_
      rw [Bool.or_false]; rfl
    rw [e]; exact q
theorem uC {x:Str} {c:Nat}:(!(Builtin.Str.occurrences x (sgn c) 0 x.length 1).isEmpty)=decide (c∈x.cps.toList):=StrLaws.found_one x c
end L2
namespace L2
open PySem PySem.Spec PyProof.Rows PySem.W
theorem nD:entryFor table "proto.unchain"=some Builtin.«proto.unchain»:=entryFor_of_tree (by kernel_rfl)
def XcO (C:Addr) (h:Heap):Prop:=∃ nm q N bs bm hdct sn sub ab col dd k0 k1 k2 k3 k5 nid,h.get? C=some (excClassObj nm q C N bs bm hdct sn sub ab col dd k0 k1 k2 k3 k5 nid)∧bm.contains (.type "BaseException")=true
section
variable {prog:Program} {w:World} {A:Around} {E:Value→Shared→Prop} {s:Shared}
theorem rF {α:Type} {e2 e1:Addr} {o2 o1:Obj} {v2 v1:Array Value} {Q:α→Shared→Prop} (hh:A.handled=some (.ref e1)) (ne:e1≠e2) (h1:s.heap.get? e1=some o1) (d1:o1.data=.fields v1) (c1:v1[2]?=some .none)
  (h2:s.heap.get? e2=some o2) (d2:o2.data=.fields v2) (z2:2<v2.size) (h:E (.ref e2) { s with heap:=s.heap.update e2 (Obj.mapFields (·.setIfInBounds 2 (.ref e1))) }):wpAny (model prog w) A (raiseNew (.ref e2):Sem α) Q E s:=by
 unfold raiseNew;refine wpAny_bind (wpAny_handled ?_);rw [hh];dsimp only
 have hb:((Value.ref e1) != Value.ref e2)=true:=by
  rw [bne_iff_ne]; intro z; injection z with z; exact ne z
 rw [if_pos hb];refine wpAny_bind (wpAny_holding (wpAny_runValue (codeAny_builtin nD ?_)));unfold Builtin.«proto.unchain»;refine wpAny_bind (wpAny_field h1 d1 c1 ?_);rw [if_pos (by rfl)];refine wpAny_pure ?_
 show wpAny _ _ (setField (.ref e2) 2 (Value.ref e1) >>= fun _=>throw (Value.ref e2)) _ _ _
 exact wpAny_bind (wpAny_setField h2 d2 z2 (wpAny_throw h))
theorem oB {e:Addr} {o:Obj} {vs:Array Value} {Q:Bool→Shared→Prop} (he:s.heap.get? e=some o) (hd:o.data=.fields vs) (h:Q false s):wpAny (model prog w) A (isType (.ref e)) Q E s:=by
 obtain ⟨oc,od,odt,osl⟩:=o;dsimp only at hd;subst hd;obtain ⟨hp,g,d,tk,os⟩:=s;unfold isType
 repeat (first | with_reducible refine wpAny_loadPart_at he ?_ | wp_step)
 exact h
theorem uz {e C:Addr} {o:Obj} {vs:Array Value} {m:String} {Q:Value→Shared→Prop} (he:s.heap.get? e=some o) (hc:o.cls=.ref C) (hd:o.data=.fields vs) (hC:XcO C s.heap) (h:Q (.ref e) s):wpAny (model prog w) A (excFromValue (.ref e) m) Q E s:=by
 obtain ⟨nm,q,N,bs,bm,hdct,sn,sub,ab,col,dd,k0,k1,k2,k3,k5,nid,cl,hb⟩:=hC;have hb:(Value.ref C::bm).contains (.type "BaseException")=true:=by rw [List.contains_cons,hb,Bool.or_true]
 unfold excFromValue isExcClass;refine wpAny_bind (wpAny_bind (oB he hd ?_));rw [if_neg (by decide)];refine wpAny_pure ?_;rw [if_neg (by decide)];obtain ⟨oc,od,odt,osl⟩:=o;dsimp only at hc hd;subst hc hd;obtain ⟨hp,g,d,tk,os⟩:=s;unfold isInstance
 repeat (first | with_reducible refine wpAny_loadPart_at he ?_ | (with_reducible refine wpAny_isSubtype_exc cl ?_; rw [hb]) | wp_step)
 exact h
theorem rG {e C:Addr} {o:Obj} {Q:Value→Shared→Prop} (he:s.heap.get? e=some o) (hc:o.cls=.ref C) (hC:XcO C s.heap) (h:Q (.ref e) s):wpAny (model prog w) A (raisedInstance (.ref e)) Q E s:=by
 obtain ⟨nm,q,N,bs,bm,hdct,sn,sub,ab,col,dd,k0,k1,k2,k3,k5,nid,cl,hb⟩:=hC;obtain ⟨oc,od,odt,osl⟩:=o;dsimp only at hc;subst hc;obtain ⟨hp,g,d,tk,os⟩:=s;unfold raisedInstance
 repeat (first | with_reducible refine wpAny_loadPart_at he ?_ | with_reducible refine wpAny_loadPart_at cl ?_ | wp_step)
 exact h
theorem XcO.stay {C:Addr} {h h':Heap} (x:XcO C h) (k:∀ o,h.get? C=some o→h'.get? C=some o):XcO C h':=by
 obtain ⟨nm,q,N,bs,bm,hdct,sn,sub,ab,col,dd,k0,k1,k2,k3,k5,nid,cl,hb⟩:=x;exact ⟨nm,q,N,bs,bm,hdct,sn,sub,ab,col,dd,k0,k1,k2,k3,k5,nid,k _ cl,hb⟩
theorem XcO.nofld {C:Addr} {h:Heap} (x:XcO C h):∃ o cd,h.get? C=some o∧o.data=.cls cd:=by
 obtain ⟨nm,q,N,bs,bm,hdct,sn,sub,ab,col,dd,k0,k1,k2,k3,k5,nid,cl,hb⟩:=x;exact ⟨_,_,cl,rfl⟩
theorem tQ {env:Env} {x c:Sem Value} {e1 C1 C2:Addr} {Q:Flow→Shared→Prop} (hh:A.handled=some (.ref e1))
  (h:wpAny (model prog w) A x (fun v s1=>∃ e2,v=.ref e2∧wpAny (model prog w) A c (fun u s2=>u=.ref e1∧e1≠e2∧XcO C2 s2.heap∧XcO C1 s2.heap∧(∃ o1 v1,s2.heap.get? e1=some o1∧o1.cls=.ref C1∧o1.data=.fields v1∧v1[2]?=some .none) ∧
   ∃ t2,s2.heap.get? e2=some { cls:=.ref C2,data:=.fields #[.ref t2,.none,.none,.none,.bool false,.none] } ∧
   ∀ h',(∀ b,b≠e2→h'.get? b=s2.heap.get? b)→h'.get? e2=some { cls:=.ref C2,data:=.fields #[.ref t2,.none,.ref e1,.ref e1,.bool true,.none] }→E (.ref e2) { s2 with heap:=h' }) E s1) E s) :
  wpAny (model prog w) A (raiseStmt env (some x) (some c)) Q E s:=by
 unfold raiseStmt;refine wpAny_bind (wpAny_mono h (fun v s1 h1=>?_) fun _ _ y=>y);obtain ⟨e2,rfl,h1⟩:=h1;refine wpAny_bind (wpAny_holding (wpAny_mono h1 (fun u s2 h2=>?_) fun _ _ y=>y));obtain ⟨rfl,ne,X2,X1,⟨o1,v1,g1,gc,gd,g2⟩,t2,ge,hE⟩:=h2;refine wpAny_bind (wpAny_pure ?_);refine wpAny_bind (wpAny_holding (uz ge rfl rfl X2 ?_));dsimp only;rw [if_neg (show ¬ ((Value.ref e1==Value.none)=true) by simp)];refine wpAny_bind (wpAny_holding (uz g1 gc gd X1 ?_));have ga:∀ (hp:Heap) (vs:Array Value) (i:Nat) (y:Value),hp.get? e2=some { cls:=.ref C2,data:=.fields vs }→(hp.update e2 (Obj.mapFields (·.setIfInBounds i y))).get? e2=some { cls:=.ref C2,data:=.fields (vs.setIfInBounds i y) }:=fun hp vs i y z=>Heap.get?_update_self _ z rfl;have ot:∀ (hp:Heap) (i:Nat) (y:Value) (b:Addr),b≠e2→(hp.update e2 (Obj.mapFields (·.setIfInBounds i y))).get? b=hp.get? b:=fun hp i y b z=>Heap.get?_update_other _ _ (Ne.symm z);refine wpAny_bind (wpAny_setField ge rfl (by show 3<6; decide) ?_);have g3:=ga _ _ 3 (.ref e1) ge;refine wpAny_bind (wpAny_setField g3 rfl (by show 4<6; decide) ?_);have g4:=ga _ _ 4 (.bool true) g3;have nC:C2≠e2:=fun z=>by
  obtain ⟨o,cd,q1,q2⟩:=X2.nofld;rw [z,ge] at q1; cases q1; cases q2
 refine wpAny_bind (oB g4 rfl ?_);rw [if_neg (by decide)];refine wpAny_bind (rG g4 rfl (X2.stay fun o z=>by show (Heap.update (Heap.update _ _ _) _ _).get? C2=_; rw [ot _ _ _ _ nC,ot _ _ _ _ nC]; exact z) ?_);unfold setFlight;refine wpAny_bind (wpAny_bind (wpAny_field g4 rfl (x:=.none) rfl ?_));rw [if_neg (by decide)];refine wpAny_pure ?_;have g5:=ga _ _ 2 (.ref e1) g4;refine rF hh ne (o1:=o1) (v1:=v1) (by show (Heap.update (Heap.update _ _ _) _ _).get? e1=_; rw [ot _ _ _ _ ne,ot _ _ _ _ ne]; exact g1) gd g2 g4 rfl (by show 2<6; decide) ?_;refine hE _ (fun b hb=>?_) g5
 show (Heap.update (Heap.update (Heap.update _ _ _) _ _) _ _).get? b=_
 rw [ot _ _ _ _ hb,ot _ _ _ _ hb,ot _ _ _ _ hb]
end
end L2
namespace L2
open PySem PySem.Spec PyProof.Rows
noncomputable def iP (o:Obj):Option Value:=match o.data with | .fields vs=>vs[2]? | _=>none
inductive DC {α:Type}:Sem α→Prop
 | pure (a:α):DC (.pure a)
 | raise (e:Value):DC (.raise e)
 | unsup (w:String):DC (.unsupported w)
 | fin (e:Ending):DC (.finish e)
 | rule {t:String} {k:Unit→Sem α}:DC (k ())→DC (.rule t k)
 | here {p:Pos} {k:Unit→Sem α}:DC (k ())→DC (.at p k)
 | load {a:Addr} {p:Option Value} {k:Obj→Sem α}:(∀ o,DC (k o))→DC (.load a p k)
 | upd {a:Addr} {p:Option Value} {f:Obj→Obj} {k:Unit→Sem α}:(∀ o,(f o).dict=o.dict∧(f o).isFreed=o.isFreed∧iP (f o)=iP o)→DC (k ())→DC (.update a p f k)
 | alloc {o:Obj} {k:Addr→Sem α}:(∀ n,DC (k n))→DC (.alloc o k)
 | point {l:List Value} {k:Unit→Sem α}:DC (k ())→DC (.point l k)
 | fresh {k:Tok→Sem α}:(∀ n,DC (k n))→DC (.fresh k)
 | ask {k:Setting→Sem α}:(∀ n,DC (k n))→DC (.ask k)
 | stack {k:List (Code×Pos)→Sem α}:(∀ n,DC (k n))→DC (.stack k)
theorem DC.andThen {α β:Type} {m:Sem α} {f:α→Sem β} (h:DC m) (g:∀ a,DC (f a)):DC (m >>= f):=by
 show DC (Sem.bind m f)
 induction h with
 | pure a=>rw [Sem.bind]; exact g a
 | raise e=>rw [Sem.bind]; exact .raise e
 | unsup w=>rw [Sem.bind]; exact .unsup w
 | fin e=>rw [Sem.bind]; exact .fin e
 | rule _ ih=>rw [Sem.bind]; exact .rule ih
 | here _ ih=>rw [Sem.bind]; exact .here ih
 | load _ ih=>rw [Sem.bind]; exact .load ih
 | upd z _ ih=>rw [Sem.bind]; exact .upd z ih
 | alloc _ ih=>rw [Sem.bind]; exact .alloc ih
 | point _ ih=>rw [Sem.bind]; exact .point ih
 | fresh _ ih=>rw [Sem.bind]; exact .fresh ih
 | ask _ ih=>rw [Sem.bind]; exact .ask ih
 | stack _ ih=>rw [Sem.bind]; exact .stack ih
def qB (e:Addr) (dx:Option Addr×Option Value) (h:Heap):Prop:=∃ o,h.get? e=some o∧(o.dict,iP o)=dx
theorem qB.upd {e a:Addr} {dx:Option Addr×Option Value} {h:Heap} {f:Obj→Obj} (x:qB e dx h) (z:∀ o,(f o).dict=o.dict∧(f o).isFreed=o.isFreed∧iP (f o)=iP o):qB e dx (h.update a f):=by
 obtain ⟨o,h1,h2⟩:=x;by_cases q:a=e
 ·subst q;have fr:o.isFreed=false:=(Heap.get?_some_iff.mp h1).2;exact ⟨_,Heap.get?_update_self f h1 (by rw [(z o).2.1]; exact fr),by rw [(z o).1,(z o).2.2]; exact h2⟩
 ·exact ⟨o,by rw [Heap.get?_update_other h f q]; exact h1,h2⟩
theorem DC.run {α:Type} {M:Model} {Γ:PySem.Ctx} {m:Sem α} {Q:α→Pos→Shared→Prop} {E:Value→Pos→Shared→Prop} {p:Pos} {s:Shared} {e:Addr} {dx:Option Addr×Option Value} (h:DC m) (w:Sem.wp M Γ m Q E p s) (x:qB e dx s.heap) :
  Sem.wp M Γ m (fun a p s'=>Q a p s'∧qB e dx s'.heap) (fun v p s'=>E v p s'∧qB e dx s'.heap) p s:=by
 induction h generalizing p s with
 | pure a=>rw [Sem.wp] at w ⊢; exact ⟨w,x⟩
 | raise v=>rw [Sem.wp] at w ⊢; exact ⟨w,x⟩
 | unsup q=>rw [Sem.wp] at w; exact w.elim
 | fin q=>rw [Sem.wp] at w; exact w.elim
 | rule _ ih=>rw [Sem.wp] at w ⊢; exact ih w x
 | here _ ih=>rw [Sem.wp] at w ⊢; exact ih w x
 | load _ ih=>rw [Sem.wp] at w ⊢; obtain ⟨o,h1,h2⟩:=w; exact ⟨o,h1,ih o h2 x⟩
 | upd z _ ih=>rw [Sem.wp] at w ⊢; exact ⟨w.1,ih w.2 (x.upd z)⟩
 | alloc _ ih=>rw [Sem.wp] at w ⊢; exact ih _ w (let ⟨o,h1,h2⟩:=x; ⟨o,Heap.get?_push_of_some _ h1,h2⟩)
 | point _ ih=>rw [Sem.wp] at w ⊢; exact ih w x
 | fresh _ ih=>rw [Sem.wp] at w ⊢; exact ih _ w x
 | ask _ ih=>rw [Sem.wp] at w ⊢; exact ih _ w x
 | stack _ ih=>rw [Sem.wp] at w ⊢; exact ih _ w x
theorem DC.any {α:Type} {M:Model} {A:Around} {m:Sem α} {Q:α→Shared→Prop} {E:Value→Shared→Prop} {s:Shared} {e:Addr} {dx:Option Addr×Option Value} (h:DC m) (w:wpAny M A m Q E s) (x:qB e dx s.heap) :
  wpAny M A m (fun a s'=>Q a s'∧qB e dx s'.heap) E s:=fun Γ p hΓ =>
 Sem.wp_mono M Γ m (fun _ _ _ z=>z) (fun _ _ _ z=>z.1) p s (h.run (w Γ p hΓ) x)
theorem gO {α:Type} {c:Prop} [Decidable c] {a b:Sem α} (h1:DC a) (h2:DC b):DC (if c then a else b):=by split<;>assumption
theorem jz (v:Value) (i:Nat):DC (field v i):=by
 unfold field fieldsOf;refine DC.andThen ?_ fun vs=>?_
 ·cases v with
  | ref a =>
   refine DC.andThen (.load fun o=>.pure o) fun o=>?_
   cases o.data<;>first | exact .pure _ | exact .unsup _
  | _ => exact .unsup _
 ·cases vs[i]?<;>first | exact .pure _ | exact .unsup _
theorem pD {i:Nat} (hi:i≠2) (x:Value) (o:Obj):(Obj.mapFields (·.setIfInBounds i x) o).dict=o.dict∧(Obj.mapFields (·.setIfInBounds i x) o).isFreed=o.isFreed∧iP (Obj.mapFields (·.setIfInBounds i x) o)=iP o:=by
 obtain ⟨c,d,dt,sl⟩:=o
 cases dt<;>first | exact ⟨rfl,rfl,rfl⟩ | exact ⟨rfl,rfl,Array.getElem?_setIfInBounds_ne hi⟩
theorem gP (v:Value) (i:Nat) (x:Value) (hi:i≠2:=by decide):DC (setField v i x):=by
 unfold setField
 cases v with
 | ref a =>
  unfold updateField;refine DC.andThen (.load fun o=>.pure o) fun o=>?_
  cases o.data with
  | fields vs => exact gO (.upd (pD hi x) (.pure ())) (.unsup _)
  | _ => exact .unsup _
 | _=>exact .unsup _
theorem gn (e:Value) (f:Option Addr):DC (setFlight e f):=by
 unfold setFlight;exact DC.andThen (jz _ _) fun tb=>gO (gP _ _ _) (.pure _)
theorem AE (env:Env) (b:Bool) (l:List Env):DC (keptBack env b l):=by
 cases l with
 | nil =>
  unfold keptBack underTheClaimsCaller;refine gO (.pure _) (DC.andThen (DC.andThen (.stack fun n=>.pure n) fun _=>.pure _) fun q=>.pure _)
 | cons c r=>unfold keptBack; exact .pure _
theorem vo (env:Env) (l:List Env):DC (behindIsImport env l):=by
 unfold behindIsImport;exact gO (.pure _) (gO (.pure _) (DC.andThen (jz _ _) fun _=>.pure _))
theorem qN:∀ l:List Env,DC (readyFrames l)
 | []=>by unfold readyFrames; exact .pure _
 | env::r=>by
  unfold readyFrames
  cases env.frame with
  | none => exact .unsup _
  | some f =>
   refine DC.andThen (.load fun o=>.pure o) fun o=>gO (.pure _) ?_;refine DC.andThen (vo _ _) fun b=>DC.andThen (AE _ _ _) fun v=>DC.andThen (.upd (fun o=>⟨rfl,by obtain ⟨c,d,dt,sl⟩:=o; cases dt<;>rfl,rfl⟩) (.pure ())) fun _=>qN r
theorem sN (env:Env):DC (PySem.frameOf env):=by
 unfold PySem.frameOf PySem.frameEnvs;refine DC.andThen (DC.andThen (.stack fun n=>.pure n) fun _=>.pure _) fun l=>DC.andThen ?_ fun o=>?_
 ·generalize l.dropWhile _=l'
  cases l' with
  | nil => unfold frameObject; exact .pure _
  | cons c r => unfold frameObject; exact DC.andThen (qN _) fun _ => .pure _
 ·cases o with
  | none => exact .unsup _
  | some f => exact .pure _
theorem wU (f:Addr) (b:Bool):DC (entryPlaceOf f b):=by
 unfold entryPlaceOf;refine DC.andThen (.stack fun n=>.pure n) fun l=>?_
 cases l.find? _ with
 | none=>exact .pure _
 | some q=>exact .pure _
theorem qM (a b c d e:Value) (l:List Value):DC (EntryCells.newEntry a b c d e l):=by
 unfold EntryCells.newEntry newFields newObj newObjAsIs;generalize ([a,b,c,d,e]++if l.isEmpty then List.replicate 6 Value.none else l)=vs;dsimp only
 split
 ·exact DC.andThen (.unsup _) fun _=>DC.andThen (.alloc fun n=>.pure n) fun _=>.pure _
 ·exact DC.andThen (.alloc fun n=>.pure n) fun _=>.pure _
theorem jA (e:Value) (env:Env):DC (noteFrame e env):=by
  unfold noteFrame
  cases env.frame with
  | none => exact .unsup _
  | some f =>
    refine DC.andThen (jz _ _) fun hd=>?_;have tail:DC (do
        let a ← PySem.frameOf env
        let pl ← entryPlaceOf f (hd != .none)
        let b ← EntryCells.newEntry hd a .none (rawInt f) .none pl
        setField e 1 b):=DC.andThen (sN _) fun _=>DC.andThen (wU _ _) fun _=>DC.andThen (qM _ _ _ _ _ _) fun _=>gP _ _ _
    refine gO ?_ tail;refine DC.andThen (jz _ _) fun x=>gO (.pure _) (DC.andThen (gP _ _ _) fun _=>tail)
theorem l9 (env:Env) (e:Value):DC (leaving env e):=by
 unfold leaving;exact DC.andThen (jA _ _) fun _=>gn _ _
def DK (e:Addr) (c:Option Value) (h:Heap):Prop:=∃ o,h.get? e=some o∧iP o=c
noncomputable def CX2 (P:Program) (w:World):CXT:=fun outer H s E x s'=>∃ (e C:Addr) (xo:Option Addr) (H':Hp),x=.ref e∧s'.os=s.os∧AllBare s'.gens∧Un (frs outer) [] H H' s.heap s'.heap∧HOk P w H' s'.heap∧Exc s.heap s'.heap H' e C xo∧DK e (some .none) s'.heap∧E (.ref C) xo H'
section
variable {P:Program} {w:World} {K:W.Frag} {mg:Str→Option Value} {base:Heap} {N:List Str} {qual:Str} {scope:Scope} {f:Addr} {cd:Value} {A:Around} {outer:List Env} {s₀:Shared} {H₀:Hp} {E:XK} {pins:List (Addr×Obj)} {σ:St} {H:Hp} {s:Shared}
theorem sq {e C:Addr} {xo:Option Addr} {oe:Obj} {vs:Array Value} (I1:Inv (cq (CX2 P w) P w K mg base N qual scope f cd A outer s₀ H₀ E) pins σ H s) (he:s.heap.get? e=some oe) (hcl:oe.cls=.ref C) (hda:oe.data=.fields vs) (h1:vs[1]?=some .none)
  (hs0:s₀.heap.get? e=none) (hHe:H e=none) (dc:∀ dx,xo=some dx→oe.dict=some dx) (hc2:vs[2]?=some .none) (q:E (.ref C) xo H):(cq (CX2 P w) P w K mg base N qual scope f cd A outer s₀ H₀ E).xe (.ref e) s:=by
 have ff:=I1.stack;have hl:=W.funFrames_hide (as:=e::frs (cq (CX2 P w) P w K mg base N qual scope f cd A outer s₀ H₀ E).stack) ff (et fun b hb=>List.mem_cons_of_mem _ hb);have fin:=wpAny_leaving_first (M:=model P w) (E:=fun v s'=>CX2 P w outer H₀ s₀ E v s') (base:=W.hideAll s.heap (e::frs (cq (CX2 P w) P w K mg base N qual scope f cd A outer s₀ H₀ E).stack)) (L:=s₀.heap.objs.size) (e:=e) (s:=s) (Q:=fun _ s'=>∃ h2,s'={ s with heap:=h2 }∧Heap.Left (W.hideAll s.heap (e::frs (cq (CX2 P w) P w K mg base N qual scope f cd A outer s₀ H₀ E).stack)) (envOfC qual scope s₀.heap.objs.size f cd::outer) e oe.cls s.heap h2) I1.ok.frames hl rfl he (fun b o z=>W.of_hideAll _ z) (W.hideAll_none _ List.mem_cons_self) hda h1 fun h2 lf=>⟨h2,rfl,lf⟩
 refine wpAny_mono (DC.any (l9 _ _) fin ⟨oe,he,rfl⟩) (fun _ s' ⟨⟨h2,e2,lf⟩,hd2⟩=>?_) fun _ _ z=>z;subst e2;obtain ⟨st,ff2,tr,up⟩:=lf;have lf:=I1.left (h':=h2) (es:=[e]) rfl (fun b hb=>by rw [List.mem_singleton.mp hb]; exact ⟨hHe,hs0⟩) (fun b o z nf ne=>st b o (W.hideAll_get _ z (by intro m; rcases List.mem_cons.mp m with r | r; exact ne (by simp [r]); exact nf r)))
  (fun b o z hb=>by
   obtain ⟨_,o',z',hd⟩:=ff.mem hb;rw [z] at z'; cases z';exact up b o z hd)
 obtain ⟨oe',ws,T,oT,ts,g1,g2,g3,g4,g5,g6,g7,g8,g9⟩:=tr;have nT:T∉frs (cq (CX2 P w) P w K mg base N qual scope f cd A outer s₀ H₀ E).stack:=fun z=>by
  obtain ⟨_,o,zo,hd⟩:=ff2.mem z;rw [g7] at zo; cases zo;exact hd ts g8
 have key:∀ o,s.heap.get? T=some o→False:=fun o z=>by
  rw [W.hideAll_get _ z (by intro m; rcases List.mem_cons.mp m with r | r; exact g6 r; exact nT r)] at g5
  cases g5
 have hT0:s₀.heap.get? T=none:=by
  cases z:s₀.heap.get? T with
  | none => rfl
  | some o => obtain ⟨o', z'⟩ := I1.base.there T o z (by intro q; cases q); exact (key o' z').elim
 have hHT:H T=none:=by
  cases z:H T with
  | none => rfl
  | some o => obtain ⟨o', z'⟩ := (I1.hok T o z).get; exact (key o' z').elim
 refine ⟨e,C,xo,H,rfl,I1.os,I1.bare,lf.1,lf.2,⟨⟨oe',ws,T,oT,ts,g1,g2.trans hcl,g3,g4,hT0,g6,g7,g8,g9⟩,hs0,hHe,fun oe2 vs' T' z1 z2 z3=>?_,fun dx z=>by obtain ⟨o9,y1,y2⟩:=hd2; exact ⟨o9,y1,(congrArg Prod.fst y2).trans (dc dx z)⟩⟩,by obtain ⟨o9,y1,y2⟩:=hd2; exact ⟨o9,y1,(congrArg Prod.snd y2).trans (by unfold iP; rw [hda]; exact hc2)⟩,q⟩;rw [g1] at z1; cases z1;rw [g3] at z2; cases z2;rw [g4] at z3; cases z3;exact hHT
theorem gJ {h':Heap} {t':Nat} {e C:Addr} {vs:List Value} (I:Inv (cq (CX2 P w) P w K mg base N qual scope f cd A outer s₀ H₀ E) pins σ H s) (hx:Heap.MadeExcOf s.heap h' e (.ref C) vs) (q:E (.ref C) none H) :
  (cq (CX2 P w) P w K mg base N qual scope f cd A outer s₀ H₀ E).xe (.ref e) { s with heap:=h',toks:=t' }:=by
 have I1:=I.kept (t':=t') hx.keeps;obtain ⟨t,he,ht,_⟩:=hx.there
 have hs0:s₀.heap.get? e=none:=by
  cases z:s₀.heap.get? e with
  | none => rfl
  | some o => obtain ⟨o', z'⟩ := I.base.there e o z (by intro q; cases q); rw [hx.new] at z'; cases z'
 exact sq I1 he rfl rfl rfl hs0 (I.hok.none_of hx.new) (fun _ z=>by cases z) rfl q
theorem cE:gh (CX2 P w) (cq (CX2 P w) P w K mg base N qual scope f cd A outer s₀ H₀ E) E:=by
  intro pins σ H s x s' I h;obtain ⟨e,C,xo,H',rfl,os,bare,un,hok,ex,hcx,q⟩:=h;have J:=I.call' (s':=s') (ch:=[]) os un hok bare (fun b hb=>by cases hb);obtain ⟨⟨oe,ws,T,oT,ts,g1,g2,g3,g4,g5,g6,g7,g8,g9⟩,ne,hHe,hHT,dc⟩:=ex;have hHT:=hHT oe ws T g1 g3 g4;have s0:∀ {b:Addr},s.heap.get? b=none→s₀.heap.get? b=none:=fun {b} hb=>by
    cases z:s₀.heap.get? b with
    | none=>rfl
    | some o=>obtain ⟨o',z'⟩:=I.base.there b o z (by intro q; cases q); rw [hb] at z'; cases z'
  have ff:=J.stack;have hl:=W.funFrames_hide (as:=e::T::frs (cq (CX2 P w) P w K mg base N qual scope f cd A outer s₀ H₀ E).stack) ff (et fun b hb=>List.mem_cons_of_mem _ (List.mem_cons_of_mem _ hb));have fin:=wpAny_leaving_next (M:=model P w) (E:=fun v s'=>CX2 P w outer H₀ s₀ E v s') (base:=W.hideAll s'.heap (e::T::frs (cq (CX2 P w) P w K mg base N qual scope f cd A outer s₀ H₀ E).stack)) (L:=s₀.heap.objs.size) (e:=e) (s:=s') (Q:=fun _ s2=>∃ h2,s2={ s' with heap:=h2 }∧Heap.Left (W.hideAll s'.heap (e::T::frs (cq (CX2 P w) P w K mg base N qual scope f cd A outer s₀ H₀ E).stack)) (envOfC qual scope s₀.heap.objs.size f cd::outer) e (.ref C) s'.heap h2) J.ok.frames hl rfl
    ⟨oe,ws,T,oT,ts,g1,g2,g3,g4,W.hideAll_none _ (List.mem_cons_of_mem _ List.mem_cons_self),g6,g7,g8,g9⟩ (fun b o z=>W.of_hideAll _ z) (W.hideAll_none _ List.mem_cons_self) fun h2 lf=>⟨h2,rfl,lf⟩
  refine wpAny_mono (DC.any (l9 _ _) fin ⟨oe,g1,rfl⟩) (fun _ s2 ⟨⟨h2,e2,lf⟩,hd2⟩=>?_) fun _ _ z=>z;subst e2;obtain ⟨st,ff2,tr,up⟩:=lf;have lf:=J.left (h':=h2) (es:=[e,T]) rfl (fun b hb=>by
      simp only [List.mem_cons,List.not_mem_nil,or_false] at hb;rcases hb with rfl | rfl
      · exact ⟨hHe,s0 ne⟩
      · exact ⟨hHT,s0 g5⟩) (fun b o z nf ne=>st b o (W.hideAll_get _ z (by
        intro m;rcases List.mem_cons.mp m with r | m
        · exact ne (by simp [r])
        · rcases List.mem_cons.mp m with r | r
          · exact ne (by simp [r])
          · exact nf r)))
      (fun b o z hb=>by
        obtain ⟨_,o',z',hd⟩:=ff.mem hb;rw [z] at z'; cases z';exact up b o z hd)
  obtain ⟨oe2,ws2,T2,oT2,ts2,k1,k2,k3,k4,k5,k6,k7,k8,k9⟩:=tr;have nT:T2∉frs (cq (CX2 P w) P w K mg base N qual scope f cd A outer s₀ H₀ E).stack:=fun z=>by
    obtain ⟨_,o,zo,hd⟩:=ff2.mem z;rw [k7] at zo; cases zo;exact hd ts2 k8
  have hT0:s₀.heap.get? T2=none∧H' T2=none:=by
    by_cases r:T2=T
    · subst r; exact ⟨s0 g5,hHT⟩
    · have key:∀ o,s'.heap.get? T2=some o→False:=fun o z=>by
        rw [W.hideAll_get _ z (by
          intro m;rcases List.mem_cons.mp m with q | m
          · exact k6 q
          · rcases List.mem_cons.mp m with q | q
            · exact r q
            · exact nT q)] at k5
        cases k5
      constructor
      · cases z:s₀.heap.get? T2 with
        | none=>rfl
        | some o=>obtain ⟨o',z'⟩:=J.base.there T2 o z (by intro q; cases q); exact (key o' z').elim
      · cases z:H' T2 with
        | none=>rfl
        | some o=>obtain ⟨o',z'⟩:=(J.hok T2 o z).get; exact (key o' z').elim
  refine ⟨e,C,xo,H',rfl,J.os,J.bare,lf.1,lf.2,⟨⟨oe2,ws2,T2,oT2,ts2,k1,k2,k3,k4,hT0.1,k6,k7,k8,k9⟩,s0 ne,hHe,fun oe' vs' T' z1 z2 z3=>?_,fun dx z=>by
      obtain ⟨o,y1,y2⟩:=dc dx z;rw [g1] at y1; cases y1;obtain ⟨o9,y3,y4⟩:=hd2;exact ⟨o9,y3,(congrArg Prod.fst y4).trans y2⟩⟩,by
      obtain ⟨o,y1,y2⟩:=hcx;rw [g1] at y1; cases y1;obtain ⟨o9,y3,y4⟩:=hd2;exact ⟨o9,y3,(congrArg Prod.snd y4).trans y2⟩,q⟩
  rw [k1] at z1; cases z1;rw [k3] at z2; cases z2;rw [k4] at z3; cases z3;exact hT0.2
end
def XT2 (X:Cx) (pins:List (Addr×Obj)) (ET:St→XK):Value→Shared→Prop:=fun x s'=>∃ (σ:St) (e C:Addr) (xo:Option Addr) (H':Hp),x=.ref e∧Inv X pins σ H' s'∧Exc X.s₀.heap s'.heap H' e C xo ∧
 (∀ p∈X.pn++pins,p.1≠e∧∀ oe vs T,s'.heap.get? e=some oe→oe.data=.fields vs→vs[1]?=some (.ref T)→p.1≠T)∧DK e (some .none) s'.heap∧ET σ (.ref C) xo H'
theorem yb {X:Cx} {pins:List (Addr×Obj)} {ET:St→XK} (hx:X.ex=[]:=by rfl):gj (CX2 X.prog X.w) (X.tryIn pins (XT2 X pins ET)) ET:=by
 intro pins' σ H s x s' I h;obtain ⟨e,C,xo,H',rfl,os,bare,un,hok,ex,hcx,q⟩:=h;have J:=I.call' (s':=s') (ch:=[]) os un hok bare (fun b hb=>by cases hb);obtain ⟨⟨oe,ws,T,oT,ts,g1,g2,g3,g4,g5,g6,g7,g8,g9⟩,ne,hHe,hHT,dc⟩:=ex;have s0:∀ {b:Addr},s.heap.get? b=none→X.s₀.heap.get? b=none:=fun {b} hb=>by
  cases z:X.s₀.heap.get? b with
  | none => rfl
  | some o => obtain ⟨o', z'⟩ := I.base.there b o z (by show b ∉ X.ex; rw [hx]; simp); rw [hb] at z'; cases z'
 refine ⟨σ,e,C,xo,H',rfl,J.tryOut,⟨⟨oe,ws,T,oT,ts,g1,g2,g3,g4,s0 g5,g6,g7,g8,g9⟩,s0 ne,hHe,hHT,dc⟩,fun p hp=>?_,hcx,q⟩;have hp':=(I.pin p (List.mem_append_left _ hp)).1;refine ⟨fun z=>(by rw [z,ne] at hp'; cases hp'),fun oe' vs' T' z1 z2 z3 z=>?_⟩;rw [g1] at z1; cases z1;rw [g3] at z2; cases z2;rw [g4] at z3; cases z3;rw [z,g5] at hp'
 cases hp'
section
variable {P:Program} {w:World} {K:W.Frag} {mg:Str→Option Value} {base:Heap}
theorem Fun.ok2 {x qual:Str} {st:Stmt} {f:Addr} {fd:FuncData} {N ps:List Str} {k:Nat} {sp:Sp} (F:Fun K x qual st f fd) (S:aG N ps (aq st)) (len:∀ vs H Q E,sp vs H Q E→vs.length=ps.length)
  (hbody:∀ (cdv:Value) (A:Around) (outer:List Env) (s:Shared) (H:Hp) (vs:List V) (Q:VK) (E:XK),cA k (A.deeper (envOfC qual (aq st) s.heap.objs.size f cdv))→sp vs H Q E →
   ∃ t,PSs (cq (CX2 P w) P w K mg base N qual (aq st) f cdv A outer s H E) (c7 st) t∧t { nx:=fun _ H'=>Q .non H',rt:=Q } (iX N vs) H):aU P w K mg base (CX2 P w) (k+1) f fd ps sp:=by
 obtain ⟨oc,od,kV,doc,pm,an,cdv,ct,osl,rfl,lk,hcd⟩:=F.ex;exact xk lk hcd S len fun A outer s H vs Q E hr hsp=>hbody cdv A outer s H vs Q E hr hsp
theorem aU.up2 {k:Nat} {f:Addr} {fd:FuncData} {ps:List Str} {sp:Sp} (F:aU P w K mg base CX0 k f fd ps sp):aU P w K mg base (CX2 P w) k f fd ps sp :=
 ⟨F.len,fun A outer s H args us vs Q E hr e0 hb hv hs=>codeAny_mono (F.run A outer s H args us vs Q E hr e0 hb hv hs) fun r s' h=>by
  cases r with
  | error e => exact False.elim h
  | ok fl => cases fl <;> exact h⟩
theorem aU.one {k:Nat} {f:Addr} {fd:FuncData} {ps:List Str} {sp:Sp} (F:aU P w K mg base (CX2 P w) k f fd ps sp):aU P w K mg base (CX1 P w) k f fd ps sp :=
 ⟨F.len,fun A outer s H args us vs Q E hr e0 hb hv hs=>codeAny_mono (F.run A outer s H args us vs Q E hr e0 hb hv hs) fun r s' h=>by
  cases r with
  | error e => obtain ⟨e, C, xo, H', h1, h2, h3, h4, h5, h6, _, h7⟩ := h; exact ⟨e, C, xo, H', h1, h2, h3, h4, h5, h6, h7⟩
  | ok fl => cases fl <;> exact h⟩
end
theorem lG {H:Hp} {e:Addr} {o:HO} (h:H e=none):del (upd H e o) e=H:=by
 funext b
 unfold del upd;by_cases q:b=e
 ·rw [if_pos q,q,h]
 ·rw [if_neg q,if_neg q]
section
variable {P:Program} {w:World} {K:W.Frag} {mg:Str→Option Value} {base:Heap} {N:List Str} {qual:Str} {scope:Scope} {f:Addr} {cd:Value} {A:Around} {outer:List Env} {s₀:Shared} {H₀:Hp} {E:XK} {pins:List (Addr×Obj)} {σ:St} {H:Hp} {s:Shared}
theorem vg {e T C:Addr} {oe oT:Obj} {ws ts:Array Value} (I:Inv (cq (CX1 P w) P w K mg base N qual scope f cd A outer s₀ H₀ E) pins σ H s) (he:s.heap.get? e=some oe) (hcl:oe.cls=.ref C) (hda:oe.data=.fields ws) (h1:ws[1]?=some (.ref T)) (hTe:T≠e)
    (hT:s.heap.get? T=some oT) (hdT:oT.data=.fields ts) (h3:ts[3]?=some (rawInt s₀.heap.objs.size)) (hs0:s₀.heap.get? e=none) (hT0:s₀.heap.get? T=none) (hHe:H e=none) (hHT:H T=none) (q:E (.ref C) none H) :
    (cq (CX1 P w) P w K mg base N qual scope f cd A outer s₀ H₀ E).xe (.ref e) s:=by
  have ff:=I.stack;have hl:=W.funFrames_hide (as:=e::T::frs (cq (CX1 P w) P w K mg base N qual scope f cd A outer s₀ H₀ E).stack) ff (et fun b hb=>List.mem_cons_of_mem _ (List.mem_cons_of_mem _ hb));obtain ⟨a0,h0⟩:∃ a0,ws[0]?=some a0:=by
    have hsz:1<ws.size:=(Array.getElem?_eq_some_iff.mp h1).1;exact ⟨ws[0],by simp [show 0<ws.size by omega]⟩
  have held:Heap.HeldW (W.hideAll s.heap (e::T::frs (cq (CX1 P w) P w K mg base N qual scope f cd A outer s₀ H₀ E).stack)) (envOfC qual scope s₀.heap.objs.size f cd::outer) e (.ref C) a0 s₀.heap.objs.size s.heap :=
    ⟨fun b o z=>W.of_hideAll _ z,W.hideAll_none _ List.mem_cons_self,hl,⟨oe,ws,T,oT,ts,he,⟨hcl,h0⟩,hda,h1,W.hideAll_none _ (List.mem_cons_of_mem _ List.mem_cons_self),hTe,hT,hdT,h3⟩⟩
  show wpAny (model P w) _ (leaving (envOfC qual scope s₀.heap.objs.size f cd) (.ref e)) (fun _ s''=>CX1 P w outer H₀ s₀ E (.ref e) s'') (fun e' s''=>CX1 P w outer H₀ s₀ E e' s'') s
  unfold leaving;refine wpAny_bind (wpAny_noteFrame_againW (L:=s₀.heap.objs.size) rfl held.2.2.2 ?_);refine wpAny_landsW held fun h2 fl up=>?_;obtain ⟨st,_,ff2,tr⟩:=fl;have lf:=I.left (h':=h2) (es:=[e,T]) rfl (fun b hb=>by
      simp only [List.mem_cons,List.not_mem_nil,or_false] at hb;rcases hb with rfl | rfl
      · exact ⟨hHe,hs0⟩
      · exact ⟨hHT,hT0⟩) (fun b o z nf ne=>st b o (W.hideAll_get _ z (by
        intro m;rcases List.mem_cons.mp m with r | m
        · exact ne (by simp [r])
        · rcases List.mem_cons.mp m with r | r
          · exact ne (by simp [r])
          · exact nf r)))
      (fun b o z hb=>by
        obtain ⟨_,o',z',hd⟩:=ff.mem hb;rw [z] at z'; cases z';exact up b o z hd)
  obtain ⟨oe2,ws2,T2,oT2,ts2,k1,k2,k3,k4,k5,k6,k7,k8,k9⟩:=tr;have nT:T2∉frs (cq (CX1 P w) P w K mg base N qual scope f cd A outer s₀ H₀ E).stack:=fun z=>by
    obtain ⟨_,o,zo,hd⟩:=ff2.mem z;rw [k7] at zo; cases zo;exact hd ts2 k8
  have hT2:s₀.heap.get? T2=none∧H T2=none:=by
    by_cases r:T2=T
    · subst r; exact ⟨hT0,hHT⟩
    · have key:∀ o,s.heap.get? T2=some o→False:=fun o z=>by
        rw [W.hideAll_get _ z (by
          intro m;rcases List.mem_cons.mp m with q | m
          · exact k6 q
          · rcases List.mem_cons.mp m with q | q
            · exact r q
            · exact nT q)] at k5
        cases k5
      constructor
      · cases z:s₀.heap.get? T2 with
        | none=>rfl
        | some o=>obtain ⟨o',z'⟩:=I.base.there T2 o z (by intro q; cases q); exact (key o' z').elim
      · cases z:H T2 with
        | none=>rfl
        | some o=>obtain ⟨o',z'⟩:=(I.hok T2 o z).get; exact (key o' z').elim
  refine ⟨e,C,none,H,rfl,I.os,I.bare,lf.1,lf.2,⟨⟨oe2,ws2,T2,oT2,ts2,k1,k2.1,k3,k4,hT2.1,k6,k7,k8,k9⟩,hs0,hHe,fun oe' vs' T' z1 z2 z3=>?_,fun dx z=>by cases z⟩,q⟩;rw [k1] at z1; cases z1;rw [k3] at z2; cases z2;rw [k4] at z3; cases z3;exact hT2.2
end
section
variable {M:Model} {A:Around} {E:Value→Shared→Prop} {s:Shared}
theorem B4 {e T L:Addr} {oe oT:Obj} {ws ts:Array Value} {Q:Unit→Shared→Prop} (he:s.heap.get? e=some oe) (hda:oe.data=.fields ws) (h1:ws[1]?=some (.ref T)) (hT:s.heap.get? T=some oT) (hdT:oT.data=.fields ts) (hz:3<ts.size)
  (h:Q () { s with heap:=s.heap.update T (Obj.mapFields (·.setIfInBounds 3 (rawInt L))) }):wpAny M A (setFlight (.ref e) (some L)) Q E s:=by
 unfold setFlight;refine wpAny_bind (wpAny_field he hda h1 ?_);rw [if_pos (show (Value.ref T != Value.none)=true from by simp)];exact wpAny_setField hT hdT hz h
end
def su (e C:Addr) (h:Heap):Prop:=∃ o vs,h.get? e=some o∧o.cls=.ref C∧o.data=.fields vs∧vs[2]?=some .none
theorem Ao {K:W.Frag} {h base:Heap} {mg:Str→Option Value} {x:Str} {C:Addr} {bm:List Value} {B nid iid:String} (FB:ExcBaseFacts B nid iid bm) (X:K.In base) (q:W.excIn K C bm nid=true) (bk:∀ b o,base.get? b=some o→h.get? b=some o):XcO C h:=by
 obtain ⟨tl,N,nm,q,bs,hdct,sn,sub,ab,col,dd,k0,k1,k2,k3,k5,mN,hC,hN,hni,T⟩:=(tK (mg:=fun _=>some (.ref C)) (x:="x") X rfl q).obj;exact ⟨nm,q,N,bs,tl,hdct,sn,sub,ab,col,dd,k0,k1,k2,k3,k5,nid,bk _ _ hC,T.hasType FB.hasBase⟩
theorem qx {X:Cx} {A':Around} {pins:List (Addr×Obj)} {σ:St} {H:Hp} {s:Shared} {i:Nat} {n:Str} {hpos:Pos} {E:XK} {e C:Addr} {oe:Obj} {ws:Array Value} (hA:A'.frames=some X.stack) (hN:X.N.Nodup) (hi:X.N[i]?=some n) (hk:X.env.kindOf n=some .local) (hex:X.ex=[]) (hs:X.stack=X.env::X.outer) (hf:X.env.frame=some X.env.locals)
  (hx:∀ (pins:List (Addr×Obj)) (σ:St) (H:Hp) (s:Shared) (e T:Addr) (oe oT:Obj) (ws ts:Array Value),Inv X pins σ H s→s.heap.get? e=some oe→oe.cls=.ref C→oe.data=.fields ws→ws[1]?=some (.ref T)→T≠e→s.heap.get? T=some oT→oT.data=.fields ts→ts[3]?=some (rawInt X.env.locals)→X.s₀.heap.get? e=none→X.s₀.heap.get? T=none→H e=none→H T=none→E (.ref C) none H→X.xe (.ref e) s)
  (I:Inv X pins σ H s) (he:s.heap.get? e=some oe) (hcl:oe.cls=.ref C) (hda:oe.data=.fields ws) (h1:ws[1]?=some .none) (hs0:X.s₀.heap.get? e=none) (hHe:H e=none) (hpe:∀ p∈X.pn++pins,p.1≠e) (k:E (.ref C) none H) :
  wpAny (model X.prog X.w) A' (noteFrame (.ref e) X.env) (fun _ s3=>wpAny (model X.prog X.w) A' (do bindName X.env n .none; unbindBehindTheSuite X.env n hpos)
   (fun _ s4=>wpAny (model X.prog X.w) A' (passOn "try.except-as" (.ref e) X.env:Sem Flow) (fun _ _=>False) (notedBy (model X.prog X.w) A' X.env (cameBackBy (model X.prog X.w) X.A X.env X.xe)) s4)
   (fun y s4=>wpAny (model X.prog X.w) A' (setFlight (.ref e) none) (fun _ s5=>(notedBy (model X.prog X.w) A' X.env (cameBackBy (model X.prog X.w) X.A X.env X.xe)) y s5) (notedBy (model X.prog X.w) A' X.env (cameBackBy (model X.prog X.w) X.A X.env X.xe)) s4) s3) (notedBy (model X.prog X.w) A' X.env (cameBackBy (model X.prog X.w) X.A X.env X.xe)) s:=by
 have ff:=I.stack;have hl:=W.funFrames_hide (as:=e::frs X.stack) ff (et fun b hb=>List.mem_cons_of_mem _ hb);obtain ⟨a0,h0⟩:∃ a0,ws[0]?=some a0:=by
  have hsz:1<ws.size:=(Array.getElem?_eq_some_iff.mp h1).1;exact ⟨ws[0],by simp [show 0<ws.size by omega]⟩
 unfold noteFrame;simp only [hf];refine wpAny_bind (wpAny_field he hda h1 ?_);rw [if_neg (by decide)];refine wpAny_entryW (base:=W.hideAll s.heap (e::frs X.stack)) (outer:=X.outer) (a0:=a0) (hA.trans (congrArg some hs)) (hs ▸ hl) hf he (fun b o z=>W.of_hideAll _ z) (W.hideAll_none _ List.mem_cons_self) hda (Array.getElem?_eq_some_iff.mp h1).1 h0 fun h2 nt=>?_;obtain ⟨st,ff2,tr,up⟩:=nt
 have I2:Inv X pins σ H { s with heap:=h2 }:=by
  refine I.held (es:=[e]) hs hf (fun b hb=>?_) (fun b o z nf nm=>st b o (W.hideAll_get _ z ?_)) fun b o z hb=>?_
  ·rw [List.mem_singleton.mp hb]; exact ⟨hHe,hs0,hpe,oe,ws,he,hda⟩
  ·intro m;rcases List.mem_cons.mp m with r | r
   ·exact nm (by simp [r])
   ·exact nf r
  ·obtain ⟨_,o',z',hd'⟩:=ff.mem hb;rw [z] at z'; cases z';exact up b o z hd'
 obtain ⟨oe2,ws2,T,oT,ts,k1,k2,k3,k4,k5,k6,k7,k8,k9⟩:=tr;have nT:T∉frs X.stack:=fun z=>by
  rw [hs] at z;obtain ⟨_,o,zo,hd⟩:=ff2.mem z;rw [k7] at zo; cases zo;exact hd ts k8
 have key:∀ o,s.heap.get? T=some o→False:=fun o z=>by
  rw [W.hideAll_get _ z (by intro m; rcases List.mem_cons.mp m with r | r; exact k6 r; exact nT r)] at k5
  cases k5
 have hT0:X.s₀.heap.get? T=none:=by
  cases z:X.s₀.heap.get? T with
  | none => rfl
  | some o => obtain ⟨o', z'⟩ := I.base.there T o z (by rw [hex]; intro q; cases q); exact (key o' z').elim
 have hHT:H T=none:=by
  cases z:H T with
  | none => rfl
  | some o => obtain ⟨o', z'⟩ := (I.hok T o z).get; exact (key o' z').elim
 have hpT:∀ p∈X.pn++pins,p.1≠T:=fun p hq z=>key p.2 (z ▸ (I.pin p hq).1)
 have I3:Inv X pins σ (upd (upd H e (.ext fun h=>h.get? e=some oe2)) T (.ext fun h=>h.get? T=some oT)) { s with heap:=h2 }:=by
  refine (I2.track hHe hs0 hpe ⟨oe2,ws2,k1,k3⟩ k1 fun _ _ z kk=>kk _ z).track (by rw [aw k6]; exact hHT) hT0 hpT ⟨oT,ts,k7,k8⟩ k7 fun _ _ z kk=>kk _ z
 refine jE I3 hN hi hk fun s4 I4=>?_;have z1:s4.heap.get? e=some oe2:=(show bq X.prog X.w _ s4.heap e (.ext fun h=>h.get? e=some oe2) from I4.hok e _ (by rw [aw (Ne.symm k6),ai])).1;have z2:s4.heap.get? T=some oT:=(show bq X.prog X.w _ s4.heap T (.ext fun h=>h.get? T=some oT) from I4.hok T _ ai).1
 have I5:Inv X pins (σ.set i none) H s4:=by
  have J:=I4.untrack ai;rw [lG (by rw [aw k6]; exact hHT)] at J;have J:=J.untrack ai;rw [lG hHe] at J;exact J
 have z3:3<ts.size:=(Array.getElem?_eq_some_iff.mp k9).1;unfold PySem.passOn;refine wpAny_bind (wpAny_field z1 k3 k4 ?_);rw [if_neg (show ¬ ((Value.ref T==Value.none)=true) by simp),hf];refine wpAny_bind (B4 (L:=X.env.locals) z1 k3 k4 z2 k8 z3 (wpAny_throw ?_));have gT:∀ (hp:Heap) (o:Obj) (vs:Array Value),hp.get? T=some o→o.data=.fields vs→3<vs.size→∃ o' vs',(hp.update T (Obj.mapFields (·.setIfInBounds 3 (rawInt X.env.locals)))).get? T=some o'∧o'.data=.fields vs'∧vs'[3]?=some (rawInt X.env.locals)∧3<vs'.size:=fun hp o vs y1 y2 y3 =>
  ⟨_,_,Heap.get?_update_self _ y1 (Obj.isFreed_of_fields (Obj.data_mapFields y2 _)),Obj.data_mapFields y2 _,by simp [y3],by simpa using y3⟩
 have ot:∀ (hp:Heap) (b:Addr),b≠T→(hp.update T (Obj.mapFields (·.setIfInBounds 3 (rawInt X.env.locals)))).get? b=hp.get? b:=fun hp b z=>Heap.get?_update_other _ _ (Ne.symm z);obtain ⟨oT3,ts3,y1,y2,y3,y4⟩:=gT _ _ _ z2 k8 z3;have y0:=(ot s4.heap e (Ne.symm k6)).trans z1;unfold notedBy;refine wpAny_noteFrame_againW (base:=W.hideAll s4.heap [T]) (a0:=a0) (cls:=oe.cls) hf ⟨oe2,ws2,T,oT3,ts3,y0,k2,k3,k4,W.hideAll_none _ List.mem_cons_self,k6,y1,y2,y3⟩ ?_;unfold cameBackBy;refine wpAny_bind (wpAny_field y0 k3 k4 ?_);rw [if_neg (show ¬ ((Value.ref T==Value.none)=true) by simp),hf];refine B4 (L:=X.env.locals) y0 k3 k4 y1 y2 y4 ?_;obtain ⟨oT4,ts4,x1,x2,x3,x4⟩:=gT _ _ _ y1 y2 y4;have x0:=(ot _ e (Ne.symm k6)).trans y0;refine hx pins (σ.set i none) H _ e T oe2 oT4 ws2 ts4 ?_ x0 (k2.1.trans hcl) k3 k4 k6 x1 x2 x3 hs0 hT0 hHe hHT k
 show Inv X pins (σ.set i none) H { s4 with heap:=(s4.heap.update T (Obj.mapFields (·.setIfInBounds 3 (rawInt X.env.locals)))).update T (Obj.mapFields (·.setIfInBounds 3 (rawInt X.env.locals))) }
 refine Inv.held (s:=s4) (es:=[T]) I5 hs hf (fun b hb=>?_) (fun b o z nf nm=>?_) fun b o z hb=>?_
 ·rw [List.mem_singleton.mp hb]; exact ⟨hHT,hT0,hpT,oT,ts,z2,k8⟩
 ·have nb:b≠T:=fun q=>nm (by simp [q]);rw [ot _ _ nb,ot _ _ nb]; exact z
 ·have nb:b≠T:=fun q=>nT (q ▸ hb);exact ⟨o.slots,by rw [ot _ _ nb,ot _ _ nb]; exact z⟩
end L2
namespace L2
open PySem PySem.Spec PyProof.Rows PySem.W
open Builtin Builtin.Str
def cg:List TE→Str→St→Hp→VK→Prop
 | [],out,_,H,Q=>Q (.str out) H
 | t::ts,out,σ,H,Q=>t σ H fun v H1=>∃ x:Str,v=.str x∧x.length≤100∧cg ts (out++x) σ H1 Q
def zY (ts:List TE):TE:=fun σ H Q=>cg ts Str.empty σ H Q
theorem jM {ts:List TE} {σ:St} {H:Hp} {Q:VK} (h:cg ts Str.empty σ H Q):zY ts σ H Q:=h
theorem qV {X:Cx} {pins:List (Addr×Obj)} {σ:St} {Q:VK} {es:List Expr} {ts:List TE} {s:Shared} {H:Hp} {out:Str} (hp:PEs X es ts):out.length+100*es.length≤sizeLine→Inv X pins σ H s →
  cg ts out σ H Q→wpAny (model X.prog X.w) X.A (joinParts out (evalEach es X.env)) (EP X pins σ Q) X.xe s:=by
 induction hp generalizing s H out with
 | nil=>exact fun hz I h=>joinParts_nil ⟨.str out,H,I.tok _,⟨_,rfl⟩,h⟩ (by simpa using hz)
 | cons he hs ih=>
  intro hz I h
  rw [List.length_cons] at hz
  show wpAny _ _ (joinParts out (eval _ X.env::evalEach _ X.env)) _ _ _
  refine joinParts_cons (thn (he pins s σ H _ I h) fun u s1 ⟨v,H1,I1,r,x,ev,hx,q⟩=>?_);subst ev;obtain ⟨t,rfl⟩:=r;have hl:(out++x).length=out.length+x.length:=strLen_append _ _;exact ⟨by rw [hl]; omega,ih (by rw [hl]; omega) I1 q⟩
theorem rD {X:Cx} {e1 e2:Expr} {es:List Expr} {ts:List TE} {pos:Pos} (h:PEs X (e1::e2::es) ts) (hz:es.length≤20):PE X (.JoinedStr (e1::e2::es) pos) (zY ts):=fun pins s σ H Q I q =>
 JoinedStr_many (qV (out:=Str.empty) h (by have:(Str.empty).length=0:=rfl; rw [this,List.length_cons,List.length_cons,sizeLine_eq]; omega) I q)
theorem mx (s a b:Str) (r:List Str):(Str.join s (a::b::r)).cps.toList=a.cps.toList++s.cps.toList++(Str.join s (b::r)).cps.toList:=by
 show (a++s++Str.join s (b::r)).cps.toList=_
 rw [wR,wR]
theorem fc (x y:Str):Txt.split x y≠[]:=by
 unfold Txt.split
 split
 ·simp
 ·split
  ·simp
  ·obtain ⟨p,r,e⟩:=StrLaws.partsFrom_ne x y.length 0 (occurrences x y 0 x.length (x.length+1));rw [StrLaws.partsBetween_eq,e]; simp
theorem qY {s:Str}:∀ {ps:List Str} {p:Str},p∈ps→∀ c∈p.cps.toList,c∈(Str.join s ps).cps.toList
 | [a],p,h,c,hc=>by rw [List.mem_singleton.mp h] at hc; exact hc
 | a::b::r,p,h,c,hc=>by
  rw [mx];rcases List.mem_cons.mp h with z | z
  ·rw [z] at hc; simp [hc]
  ·have:=qY (s:=s) z c hc
   simp [this]
theorem oU {x y p:Str} (h:p∈Txt.split x y):∀ c∈p.cps.toList,c∈x.cps.toList:=fun c hc=>by
 have:=qY (s:=y) h c hc
 rwa [StrLaws.join_split] at this
theorem qX {s:Str}:∀ {ps:List Str} {p:Str},p∈ps→p.length≤(Str.join s ps).length
 | [a],p,h=>by rw [List.mem_singleton.mp h]; exact Nat.le_refl _
 | a::b::r,p,h=>by
  have e:(Str.join s (a::b::r)).length=a.length+s.length+(Str.join s (b::r)).length:=by
   show (a++s++Str.join s (b::r)).length=_
   rw [strLen_append,strLen_append]
  rcases List.mem_cons.mp h with z | z
  ·rw [z]; omega
  ·have:=qX (s:=s) z; omega
theorem wm {x y p:Str} (h:p∈Txt.split x y):p.length≤x.length:=by
 have:=qX (s:=y) h
 rwa [StrLaws.join_split] at this
theorem jw (s:Str) (ps:List Str):Txt.join s ps=Str.join s ps:=StrLaws.glued_eq_join s ps
theorem tO {X:Cx} {E:XK} {x:Str} {C f:Addr} {fd:FuncData} {ps:List Str} {sp:Sp} {k:Nat} {np cpos pos:Pos} {e:Expr} {es:List Expr} {t:TA} (M:MkX X.K C f) (F:aU X.prog X.w X.K X.mg X.base CX0 k f fd ps sp) (hr:cA (k+1) X.A)
  (hg:Gl X x) (hm:X.mg x=some (.ref C)) (hb:aN X.K fd ps []) (hc:X.calm=true) (hex:X.ex=[])
  (hx:∀ (pins:List (Addr×Obj)) (σ:St) (H:Hp) (s:Shared) (e:Addr) (xo:Option Addr) (oe:Obj) (vs:Array Value),Inv X pins σ H s→s.heap.get? e=some oe→oe.cls=.ref C→oe.data=.fields vs→vs[1]?=some .none→X.s₀.heap.get? e=none→H e=none→(∀ dx,xo=some dx→oe.dict=some dx)→vs[2]?=some .none→E (.ref C) xo H→X.xe (.ref e) s)
  (ha:PA X (e::es) t) (hd:(x==("__debug__":Str))=false:=by decide) (he:starEach (e::es) X.env=(false,eval e X.env)::starEach es X.env:=by rfl) (hpl:(backTo cpos (starEach es X.env)).any (·.1)=false:=by rfl) :
  PS X (.Raise (some (.Call (.Name x np) (e::es) [] cpos)) none pos) (u6 C sp E t):=by
 intro pins s σ H D I h;rw [arm_exec_Raise];refine wpAny_bind (wpAny_standAt (A8 (K:=X.K) (C:=C) M.ei (I.ok.hd hc) (wpAny_bind (wpAny_mono (wpAny_Call_Name_kw (dX I hg hm ?_ hd)) (fun v s3 h3=>wpAny_bind (wpAny_standAt (wpAny_pure h3))) fun _ _ z=>z))));refine W.callWith_K (h₀:=X.base) I.ok.mod.kin M.kp (thn (ha cpos pins s σ H _ I h) fun us s1 ⟨vs,H1,I1,r,hz,q⟩=>⟨I1.kIn,?_⟩) he hpl;obtain ⟨h1,g1,d1,t1,os1⟩:=s1;rw [List.nil_append];refine ED I1.kIn M.ei.ex PySem.F.excBase_ValueError M.init M.fn (by rw [← r.length]; exact hz) fun h' a mk=>?_;have nH:H1 a=none:=I1.hok.none_of mk.new
 have n0:X.s₀.heap.get? a=none:=by
  cases z:X.s₀.heap.get? a with
  | none => rfl
  | some o => obtain ⟨o', z'⟩ := I1.base.there a o z (by rw [hex]; intro q; cases q); rw [show h1.get? a = none from mk.new] at z'; cases z'
 obtain ⟨tp,ga,_,_⟩:=mk.there
 have I2:Inv X pins σ (upd H1 a (fH a C none)) ⟨h',g1,d1,t1,os1⟩:=by
  refine (I1.kept (t':=t1) mk.keeps).track nH n0 (fun p hp z=>?_) ⟨_,_,ga,rfl⟩ ⟨_,_,ga,rfl,rfl,rfl⟩ cB.stay;have hp':=(I1.pin p hp).1;rw [z,show h1.get? a=none from mk.new] at hp'
  cases hp'
 have hq:=q a nH;have r2:a9 (V.ref a::vs) (Value.ref a::us):=.cons rfl r
 have hl:(Value.ref a::us++[]).length=ps.length:=by
  rw [List.append_nil];have e:=r2.length;rw [F.len _ _ _ _ hq] at e;exact e.symm
 refine wpAny_call (codeAny_mono (F.run _ X.stack _ _ ⟨Value.ref a::us,[]⟩ (Value.ref a::us) _ _ E0 (hr.make C us []) (I2.env0.make C us []) (by have:=hb _ (Value.ref a::us) I2.kIn hl; rw [List.append_nil] at this; exact this) r2 hq) fun r s' hq'=>?_)
 cases r with
 | error e=>exact False.elim hq'
 | ok fl =>
  cases fl with
  | ret u =>
   obtain ⟨v,H',I3,rv,ev,xo,hM,hE⟩:=I2.after hq';subst ev;refine ⟨rv,?_⟩;obtain ⟨o,a0,y1,y2,y3,y4⟩:cB a C xo s'.heap:=(show bq X.prog X.w H' s'.heap a (.ext (cB a C xo)) from I3.hok a _ hM).1;exact ⟨a,o,a0,rfl,I3.kIn,y1,y2,y3,hx pins σ _ s' a xo o _ (I3.untrack hM) y1 y2 y3 rfl n0 fS (fun dx z=>y4.trans z) rfl hE⟩
  | next => exact False.elim hq'
  | brk => exact False.elim hq'
  | cont => exact False.elim hq'
def Ae (K:W.Frag) (S C2:Addr) (bm:List Value) (nid:String) (E:XK) (tb:(St→XK)→TS):TS:=fun D σ H=>tb (fun _ cls xo H1=>∃ C,cls=.ref C∧W.exmOne K (.ref C) (.ref S)=some true∧(W.excIn K C bm nid=true∨ExI K C)∧E (.ref C2) none H1) D σ H
theorem rL {K:W.Frag} {S C2:Addr} {bm:List Value} {nid:String} {E:XK} {tb:(St→XK)→TS} {D:cU} {σ:St} {H:Hp} (h:tb (fun _ cls xo H1=>∃ C,cls=.ref C∧W.exmOne K (.ref C) (.ref S)=some true∧(W.excIn K C bm nid=true∨ExI K C)∧E (.ref C2) none H1) D σ H):Ae K S C2 bm nid E tb D σ H:=h
theorem DI {K:W.Frag} {h base:Heap} {C:Addr} {bm:List Value} {B nid iid:String} (FB:ExcBaseFacts B nid iid bm) (X:K.In base) (q:W.excIn K C bm nid=true∨ExI K C) (bk:∀ b o,base.get? b=some o→h.get? b=some o):XcO C h:=by
 rcases q with q | ei
 ·exact Ao (mg:=fun _=>none) (x:="x") FB X q bk
 ·obtain ⟨nm,qn,N,bs,up,sn,sub,ab,col,dd,k0,k1,k2,k3,k5,hl,tl⟩:=mi ei.ex;have cl:=X _ _ hl;exact ⟨nm,qn,N,bs,up,_,sn,sub,ab,col,dd,k0,k1,k2,k3,k5,_,bk _ _ cl,(tail_of_in X tl).hasType PySem.F.excBase_ValueError.hasBase⟩
theorem rE {X:Cx} {i:Nat} {n x x2:Str} {S C2:Addr} {body:List Stmt} {a:Expr} {as:List Expr} {np np2 np3 hpos cpos rpos pos:Pos} {tb:(St→XK)→TS} {t:TA} {E:XK} {bm bm2:List Value} {B nid iid B2 nid2 iid2:String} (hN:X.N.Nodup) (hi:X.N[i]?=some n) (hk:X.env.kindOf n=some .local)
    (hg:Gl X x) (hm:X.mg x=some (.ref S)) (hb:∀ pins ET,PSs (X.tryIn pins (XT2 X pins ET)) body (tb ET))
    (hg2:Gl X x2) (hm2:X.mg x2=some (.ref C2)) (q2:W.excIn X.K C2 bm2 nid2=true) (FB2:ExcBaseFacts B2 nid2 iid2 bm2) (FB:ExcBaseFacts B nid iid bm) (ha:∀ e,PA (X.suite e) (a::as) t) (ht:∀ σ H (Q:List V→Hp→Prop),(∀ v,Q [v] H)→t σ H Q)
    (hx:∀ (pins:List (Addr×Obj)) (σ:St) (H:Hp) (s:Shared) (e T:Addr) (oe oT:Obj) (ws ts:Array Value),Inv X pins σ H s→s.heap.get? e=some oe→oe.cls=.ref C2→oe.data=.fields ws→ws[1]?=some (.ref T)→T≠e→s.heap.get? T=some oT→oT.data=.fields ts→ts[3]?=some (rawInt X.env.locals)→X.s₀.heap.get? e=none→X.s₀.heap.get? T=none→H e=none→H T=none→E (.ref C2) none H→X.xe (.ref e) s)
    (hex:X.ex=[]:=by rfl) (hs:X.stack=X.env::X.outer:=by rfl) (hf:X.env.frame=some X.env.locals:=by rfl) (hd:(x==("__debug__":Str))=false:=by decide) (hd2:(x2==("__debug__":Str))=false:=by decide)
    (hdn:(n==("__debug__":Str))=false:=by decide) (hcn:(n==("__classdict__":Str))=false:=by decide)
    (he:starEach (a::as) X.env=(false,eval a X.env)::starEach as X.env:=by rfl) (hpl:(backTo cpos (starEach as X.env)).any (·.1)=false:=by rfl) :
    PS X (.Try body [.ExceptHandler (some (.Name x np)) (some n) [.Raise (some (.Call (.Name x2 np2) (a::as) [] cpos)) (some (.Name n np3)) rpos] hpos] [] [] pos) (Ae X.K S C2 bm nid E tb):=by
  intro pins s σ H D I h;refine wpAny_Try_except (wpAny_mono (hb pins _ [] s σ H D (I.tryIn _) h) (fun f s1 q=>?_) (fun y s1 q=>?_))
  · have q:=q.tryOut
    cases f with
    | next =>
      obtain ⟨σ',H',I',q'⟩:=q;exact aI pins s1 σ' H' D I' q'
    | brk=>exact q
    | cont=>exact q
    | ret u=>exact q
  · obtain ⟨σ1,e,C,xo,H1,rfl,I1,ex,hp,hcx,C',hC,hx',qC,k⟩:=q
    cases hC;obtain ⟨⟨oe,ws,T,oT,tl,g1,g2,g3,g4,g5,g6,g7,g8,g9⟩,ne,hHe,hHT,dc⟩:=ex;have hHT:=hHT oe ws T g1 g3 g4;obtain ⟨a0,h0⟩:∃ a0,ws[0]?=some a0:=by
      have hsz:1<ws.size:=(Array.getElem?_eq_some_iff.mp g4).1;exact ⟨ws[0],by simp [show 0<ws.size by omega]⟩
    have ff:=I1.stack;have hl:=W.funFrames_hide (as:=e::T::frs X.stack) ff (et fun b hb=>List.mem_cons_of_mem _ (List.mem_cons_of_mem _ hb))
    have fl:Heap.FlyingW (W.hideAll s1.heap (e::T::frs X.stack)) (X.env::X.outer) e (.ref C) a0 s1.heap :=
      ⟨fun b o z=>W.of_hideAll _ z,W.hideAll_none _ List.mem_cons_self,hs ▸ hl,⟨oe,ws,T,oT,tl,g1,⟨g2,h0⟩,g3,g4,W.hideAll_none _ (List.mem_cons_of_mem _ List.mem_cons_self),g6,g7,g8,g9⟩⟩
    have stay:∀ h',Heap.StaysIn (W.hideAll s1.heap (e::T::frs X.stack)) h'→s1.heap.UpToSlots h'→Inv X pins σ1 H1 { s1 with heap:=h' }:=fun h' st sm=>by
      refine I1.held (es:=[e,T]) hs hf (fun b hb=>?_) (fun b o z nf nm=>st b o (W.hideAll_get _ z ?_)) fun b o z hb=>?_
      · simp only [List.mem_cons,List.not_mem_nil,or_false] at hb
        rcases hb with rfl | rfl
        · exact ⟨hHe,ne,fun p hq=>(hp p hq).1,oe,ws,g1,g3⟩
        · exact ⟨hHT,g5,fun p hq=>(hp p hq).2 oe ws _ g1 g3 g4,oT,tl,g7,g8⟩
      · intro m
        rcases List.mem_cons.mp m with r | m
        · exact nm (by simp [r])
        · rcases List.mem_cons.mp m with r | r
          · exact nm (by simp [r])
          · exact nf r
      · obtain ⟨_,o',z',hd'⟩:=ff.mem hb
        rw [z] at z'; cases z';exact sm b o z hd'
    refine wpAny_mono (DC.any (jA _ _) (wpAny_looks_onW (Q:=fun _ s2=>∃ h4,s2={ s1 with heap:=h4 }∧Heap.HeldW (W.hideAll s1.heap (e::T::frs X.stack)) (X.env::X.outer) e (.ref C) a0 X.env.locals h4∧s1.heap.UpToSlots h4) (I1.ok.frames.trans (congrArg some hs)) hf fl fun h4 held sm4=>⟨h4,rfl,held,sm4⟩) ⟨oe,g1,rfl⟩) (fun _ s2 ⟨⟨h4,e4,held,sm4⟩,d4⟩=>?_) fun _ _ z=>z;subst e4;refine wpAny_mono (DC.any (gn _ _) (wpAny_landsW (s:={ s1 with heap:=h4 }) (Q:=fun _ s2=>∃ h5,s2={ s1 with heap:=h5 }∧Heap.FlyingW (W.hideAll s1.heap (e::T::frs X.stack)) (X.env::X.outer) e (.ref C) a0 h5∧h4.UpToSlots h5) held fun h5 fl5 sm5=>⟨h5,rfl,fl5,sm5⟩) d4) (fun _ s2 ⟨⟨h5,e5,fl5,sm5⟩,d5⟩=>?_) fun _ _ z=>z;subst e5;have I5:=stay h5 fl5.1 (sm4.trans sm5);refine wpAny_handleBy_cons (codeAny_handlers_test (dX (X:=X.suite e) I5.suite hg hm ?_ hd)) (by intro q; cases q);have LT:PySem.W.Looks (model X.prog X.w) h5 (typeOf (.ref e)) (.ref C):=gK.looks fl5.there;refine (W.exm_one (h:=h5) I5.kIn LT hx').here ?_;refine codeAny_handlers_suite_as ?_;refine wpAny_mono (DC.any (gn _ _) (lands_againW (s:={ s1 with heap:=h5 }) (Q:=fun _ s2=>∃ h6,s2={ s1 with heap:=h6 }∧Heap.FlyingW (W.hideAll s1.heap (e::T::frs X.stack)) (X.env::X.outer) e (.ref C) a0 h6∧h5.UpToSlots h6) fl5 fun h6 fl6 sm6=>⟨h6,rfl,fl6,sm6⟩) d5) (fun _ s2 ⟨⟨h6,e6,fl6,sm6⟩,d6⟩=>?_) fun _ _ z=>z;subst e6;have I6:=stay h6 fl6.1 ((sm4.trans sm5).trans sm6);obtain ⟨oe6,ws6,z1,z2,z3,_⟩:=fl6.first
    have c6:ws6[2]?=some .none:=by
      obtain ⟨o,y1,y2⟩:=hcx;rw [g1] at y1; cases y1;obtain ⟨o,y3,y4⟩:=d6;rw [show ({ s1 with heap:=h6 }:Shared).heap=h6 from rfl,z1] at y3; cases y3;have:=(congrArg Prod.snd y4).trans y2
      unfold iP at this;rw [z3] at this;exact this
    have I7:Inv X pins σ1 (upd H1 e (.ext (su e C))) { s1 with heap:=h6 }:=I6.track hHe ne (fun p hq=>(hp p hq).1) ⟨oe6,ws6,z1,z3⟩ ⟨oe6,ws6,z1,z2,z3,c6⟩ fun ha hb ⟨o,vs,p1,p2⟩ kk=>⟨o,vs,kk o p1,p2⟩
    refine eA (X:=X.suite e) (v:=.ref e) I7.suite hN hi (.inl hk) rfl (fun s8 I8=>?_) (.inr hk);refine wpAny_execs_cons ?_;rw [arm_exec_Raise];refine wpAny_bind (wpAny_standAt (tQ (env:=X.env) (e1:=e) (C1:=C) (C2:=C2) rfl ?_));obtain ⟨tl2,N2,nm2,qn2,bs2,hdct2,sn2,sub2,ab2,col2,dd2,k02,k12,k22,k32,k52,mN2,hC2,hN2,hni2,T2⟩:=(tK I.ok.mod.kin hm2 q2).obj;refine wpAny_bind (wpAny_mono (wpAny_Call_ofName (dX (X:=X.suite e) I8 hg2 hm2 ?_ hd2)) (fun v s3 h3=>wpAny_bind (wpAny_standAt (wpAny_pure h3))) fun _ _ z=>z);have h1:=ha e cpos pins s8 _ _ (fun vs H2=>vs.length≤sizeLine∧H2=upd H1 e (.ext (su e C))) I8 (ht _ _ _ fun v=>⟨by show 1≤sizeLine; decide,rfl⟩);have he':starEach (a::as) (X.suite e).env=(false,eval a (X.suite e).env)::starEach as (X.suite e).env:=he;rw [he'] at h1;rw [he];unfold callWith;refine wpAny_bind (wpAny_holding (wpAny_mono (show wpAny _ _ _ (fun (ar:Args) (s2:Shared)=>ar.kw=[]∧ar.pos.length≤sizeLine∧Inv (X.suite e) pins (σ1.set i (some (.ref e))) (upd H1 e (.ext (su e C))) s2) _ _ from Calls.evalArgs_plain (wpAny_mono h1 (fun us s2 ⟨vs,H2,I2,r2,hl2,hH2⟩=>⟨rfl,by show us.length≤sizeLine; rw [← r2.length]; exact hl2,hH2 ▸ I2⟩) fun _ _ y=>False.elim y)) (fun ar s2 h2=>wpAny_bind (wpAny_standAt ?_)) fun _ _ x=>x));obtain ⟨apos,akw⟩:=ar;obtain ⟨hkw,hlen,I2⟩:=h2;obtain rfl:akw=[]:=hkw
    have hCh:=I2.bk _ _ hC2;have hNh:=hN2.keeps I2.bk;have hTh:=T2.keeps I2.bk;have plainB:(backTo cpos ((false,eval a X.env)::starEach as X.env)).any (·.1)=false:=by show (false||(backTo cpos (starEach as X.env)).any (·.1))=false; rw [hpl]; rfl
    obtain ⟨hp2,gn2,dr2,tk2,os2⟩:=s2;simp only [plainB];refine wpAny_bind (wpAny_keeperOf_exc hCh ?_);refine wpAny_bind (wpAny_call_exc_subT (hrest:=hlen) FB2 hTh hCh hNh hni2 fun h' e2 mk=>wpAny_bind (wpAny_holding (wpAny_point (wpAny_pure ?_))));obtain ⟨t2,ge2,_,_⟩:=mk.there;have hHe2:upd H1 e (.ext (su e C)) e2=none:=I2.hok.none_of mk.new;have n2e:e2≠e:=fun z=>by rw [z,ai] at hHe2; cases hHe2
    have hH12:H1 e2=none:=by rw [aw n2e] at hHe2; exact hHe2
    have n0:X.s₀.heap.get? e2=none:=by
      cases z:X.s₀.heap.get? e2 with
      | none=>rfl
      | some o=>obtain ⟨o',z'⟩:=I2.base.there e2 o z (by show e2∉X.ex; rw [hex]; intro q; cases q); rw [mk.new] at z'; cases z'
    have hp2':∀ p∈X.pn++pins,p.1≠e2:=fun p hq z=>by
      have hp':=(I2.pin p hq).1;rw [z,mk.new] at hp'
      cases hp'
    have I3:=(I2.kept (t':=tk2) mk.keeps).track (φ:=fun h=>h.get? e2=some { cls:=.ref C2,data:=.fields #[.ref t2,.none,.none,.none,.bool false,.none] }) hHe2 n0 hp2' ⟨_,_,ge2,rfl⟩ ge2 fun _ _ z kk=>kk _ z;refine ⟨e2,rfl,wpAny_bind (wpAny_mono (yo (X:=X.suite e) (pos:=np3) hi (.inl hk) hdn hcn pins _ _ _ (fun v H'=>v=.ref e∧H'=upd (upd H1 e (.ext (su e C))) e2 (.ext fun h=>h.get? e2=some { cls:=.ref C2,data:=.fields #[.ref t2,.none,.none,.none,.bool false,.none] })) I3 ⟨.ref e,?_,rfl,rfl⟩) (fun u s4 ⟨v,H',I4,ru,ev,eH⟩=>wpAny_bind (wpAny_standAt (wpAny_pure ?_))) fun _ _ z=>False.elim z)⟩
    · have:i<σ1.length:=by rw [I1.len]; exact (List.getElem?_eq_some_iff.mp hi).1
      rw [List.getElem?_set_self this]
    subst ev eH;have w1:su e C s4.heap:=(show bq X.prog X.w _ s4.heap e (.ext (su e C)) from I4.hok e _ (by rw [aw (Ne.symm n2e),ai])).1;have w2:s4.heap.get? e2=some { cls:=.ref C2,data:=.fields #[.ref t2,.none,.none,.none,.bool false,.none] }:=(show bq X.prog X.w _ s4.heap e2 (.ext fun h=>h.get? e2=some { cls:=.ref C2,data:=.fields #[.ref t2,.none,.none,.none,.bool false,.none] }) from I4.hok e2 _ ai).1;have kin:X.K.In X.base:=I.ok.mod.kin;refine ⟨ru,Ne.symm n2e,Ao (mg:=X.mg) (x:=x) FB2 kin q2 I4.bk,DI FB kin qC I4.bk,w1,t2,w2,fun h' hsame ge=>?_⟩
    have I5:Inv X pins (σ1.set i (some (.ref e))) H1 s4:=by
      have J:=I4.untrack ai;rw [lG hHe2] at J;have J:=J.untrack ai;rw [lG hHe] at J;exact J.unsuite I.ok
    have ff5:=I5.stack
    have I6':Inv X pins (σ1.set i (some (.ref e))) H1 { s4 with heap:=h' }:=by
      refine I5.held (es:=[e2]) hs hf (fun b hb=>?_) (fun b o z nf nm=>?_) fun b o z hb=>?_
      · rw [List.mem_singleton.mp hb]; exact ⟨hH12,n0,hp2',_,_,w2,rfl⟩
      · rw [hsame b fun q=>nm (by simp [q])]; exact z
      · have nb:b≠e2:=fun q=>by
          obtain ⟨_,o',z',hd'⟩:=ff5.mem hb;rw [q,w2] at z'; cases z';exact hd' _ rfl
        exact ⟨o.slots,by rw [hsame b nb]; exact z⟩
    exact qx (A':=(X.suite e).A) I8.ok.frames hN hi hk hex hs hf hx I6' ge rfl rfl rfl n0 hH12 hp2' k
open PySem.NumText
def Fig (cs:List Nat):Prop:=AllDigits cs∧cs≠[]∧(cs.head?=some 48→cs=[48])
theorem uv:∀ d:Nat,d<10→(Nat.digitChar d).toNat=d+48:=by decide
theorem AI {cs:List Nat} (h:AllDigits cs) (hne:cs≠[]) (h0:cs.head?≠some 48):0<digitsVal cs:=by
 have key:∀ (r:List Nat) (a:Nat),0<a→0<r.foldl (fun acc c=>acc*10+(c - 48)) a:=by
  intro r
  induction r with
  | nil => intro a ha; exact ha
  | cons c r ih => intro a ha; exact ih _ (by show 0 < a * 10 + (c - 48); omega)
 cases cs with
 | nil=>exact absurd rfl hne
 | cons c r =>
  have:=h.head
  have:c≠48:=fun z=>h0 (by rw [z]; rfl)
  exact key r _ (by show 0<0*10+(c - 48); omega)
theorem xg:∀ (n:Nat) {cs:List Nat},cs.length=n→Fig cs→(Nat.toDigits 10 (digitsVal cs)).map Char.toNat=cs:=by
 intro n
 induction n with
 | zero=>intro cs hl h; exact absurd (List.eq_nil_of_length_eq_zero hl) h.2.1
 | succ n ih =>
  intro cs hl ⟨h1,h2,h3⟩;obtain ⟨ds,c,rfl⟩:∃ ds c,cs=ds++[c]:=⟨cs.dropLast,cs.getLast h2,(List.dropLast_concat_getLast h2).symm⟩
  have hc:=h1 c (List.mem_append_right _ (List.mem_singleton.mpr rfl));have hd:AllDigits ds:=fun d z=>h1 d (List.mem_append_left _ z)
  cases hq:ds with
  | nil =>
   show (Nat.toDigits 10 (0*10+(c - 48))).map Char.toNat=[c]
   rw [show 0*10+(c - 48)=c - 48 by omega,Nat.toDigits_of_lt_base (show c - 48<10 by omega)]
   show [(Nat.digitChar (c - 48)).toNat]=[c]
   rw [uv _ (by omega),show c - 48+48=c by omega]
  | cons e r =>
   rw [← hq];have ne:ds≠[]:=by rw [hq]; simp
   have n48:ds.head?≠some 48:=fun z=>by
    have:=h3 (by rw [hq] at z ⊢; exact z)
    rw [hq] at this;simp at this
   have hp:=AI hd ne n48;have ihd:=ih (cs:=ds) (by rw [List.length_append,List.length_singleton] at hl; omega) ⟨hd,ne,fun z=>absurd z n48⟩;rw [digitsVal_snoc];have t:Nat.toDigits 10 (digitsVal ds)++Nat.toDigits 10 (c - 48)=Nat.toDigits 10 (10*digitsVal ds+(c - 48)):=Nat.toDigits_append_toDigits (by decide) hp (by omega);rw [show digitsVal ds*10+(c - 48)=10*digitsVal ds+(c - 48) by omega,← t,List.map_append,ihd,Nat.toDigits_of_lt_base (show c - 48<10 by omega)]
   show ds++[(Nat.digitChar (c - 48)).toNat]=ds++[c]
   rw [uv _ (by omega),show c - 48+48=c by omega]
theorem AH {x:Str} (h:Fig x.cps.toList) (hl:x.length≤640):PySem.intText? x=some ((digitsVal x.cps.toList:Nat):Int)∧((toString ((digitsVal x.cps.toList:Nat):Int):String):Str)=x:=by
 refine ⟨intText_digits h.1 h.2.1 (by omega),BF ?_⟩
 show (PySem.Str.ofString (toString ((digitsVal x.cps.toList:Nat):Int))).cps.toList=_
 rw [KIN.signs_num];exact xg _ rfl h
end L2
namespace L2
open PySem PySem.Spec PyProof.Rows
def D4:R2:=fun x y H Q=>∃ (ds:List PyData) (d:PyData),Rep H (.tuple ds) y∧Rep H d x∧PyData.canLayAll0 ds=true∧d.canLay0=true∧d.depth≤60∧Q (.bl (ds.any fun y=>PyData.eqv y d)) H
theorem tJ {X:Cx} (hu:X.A.units+64<cLine):OpR X (compareOp .In) D4:=by
 intro pins s σ H x y v u Q I rx ry h;obtain ⟨ds,d,h1,h2,s1,s2,s3,q⟩:=h;obtain ⟨as,r1⟩:=h1.reads I ry;obtain ⟨bs,r2⟩:=h2.reads I rx;exact SeqAt.in_tuple_reads r1 r2 s1 s2 (by have:=Nat.min_le_right (PyData.depthAll ds) d.depth; omega) ⟨.bl _,H,I,rfl,q⟩
theorem pV {H:Hp} {Q:VK} {x a b:Str} {p:Addr} (hp:H p=some (.tup [.str a,.str b])) (oa:PyData.strOk a=true) (ob:PyData.strOk b=true) (ox:PyData.strOk x=true) (q:Q (.bl (decide (a=x)||decide (b=x))) H):D4 (.str x) (.ref p) H Q:=by
  refine ⟨[.str a,.str b],.str x,?_,rfl,by simp [PyData.canLayAll0,PyData.canLay0,oa,ob],ox,by unfold PyData.depth; omega,?_⟩
  · simp only [Rep,RepL]
    exact ⟨p,_,rfl,hp,_,_,rfl,rfl,_,_,rfl,rfl,rfl⟩
  · have e:([PyData.str a,.str b].any fun y=>PyData.eqv y (.str x))=(decide (a=x)||decide (b=x)):=by
      show ((a==x)||((b==x)||false))=_
      rw [Bool.or_false]; rfl
    rw [e]; exact q
end L2
namespace L2
open PySem PySem.Spec PyProof.Rows PySem.W
noncomputable def nT (n:Nat):Str:=(toString ((n:Nat):Int):String)
theorem da {n:Nat} (h:n<10 ^ 9):(nT n).length≤9:=by
 have e:(nT n).cps.toList=(Nat.toDigits 10 n).map Char.toNat:=KIN.signs_num n;have l:(nT n).length=(nT n).cps.toList.length:=(Array.length_toList).symm;rw [l,e,List.length_map];exact (Nat.length_toDigits_le_iff (by decide) (by decide)).mpr h
theorem xN {n:Nat} (h:n<10 ^ 9):(((n:Nat):Int)).natAbs.log2<1920:=by
 show n.log2<1920
 have:n.log2≤n.log2:=Nat.le_refl _
 by_cases z:n=0
 ·rw [z]; decide
 ·exact (Nat.log2_lt z).mpr (Nat.lt_trans h (Nat.lt_of_lt_of_le (show 10 ^ 9<2 ^ 30 by decide) (Nat.pow_le_pow_right (by decide) (by decide))))
def Cb (ta:TE):TE:=fun σ H Q=>ta σ H fun v H1=>(∃ n:Nat,v=.int (n:Int)∧n<10 ^ 9∧Q (.str (nT n)) H1)∨∃ x:Str,v=.str x∧x.length≤sizeLine∧Q (.str x) H1
theorem bZ {ta:TE} {σ:St} {H:Hp} {Q:VK} (h:ta σ H fun v H1=>(∃ n:Nat,v=.int (n:Int)∧n<10 ^ 9∧Q (.str (nT n)) H1)∨∃ x:Str,v=.str x∧x.length≤sizeLine∧Q (.str x) H1):Cb ta σ H Q:=h
theorem fA {X:Cx} {e:Expr} {ta:TE} {pos:Pos} (h:PE X e ta):PE X (.FormattedValue e (-1) none pos) (Cb ta):=by
 intro pins s σ H Q I q;refine FormattedValue_plain (thn (h pins s σ H _ I q) fun u s1 ⟨v,H1,I1,r,k⟩=>?_);rcases k with ⟨n,ev,hn,k⟩ | ⟨x,ev,hx,k⟩
 ·subst ev;obtain ⟨t,rfl⟩:=r;exact formatField_int_small (xN hn) ⟨.str (nT n),H1,I1.tok _,⟨_,rfl⟩,k⟩
 ·subst ev;obtain ⟨t,rfl⟩:=r;exact wpAny_formatField_str ⟨.str x,H1,I1,⟨_,rfl⟩,k⟩ ⟨.str x,H1,I1.tok _,⟨_,rfl⟩,k⟩ hx
end L2
namespace L2
open PySem PySem.Spec PyProof.Rows
theorem rmo {j k:Nat} {A:Around} (r:cA k A) (h:j≤k:=by first | decide | omega):cA j A:=r.mono h
section
variable {X:Cx}
theorem aF (i:Nat) {x:Str} {e:Expr} {te:TE} {pos pos':Pos} (hN:X.N.Nodup) (he:PE X e te) (hi:X.N[i]?=some x:=by rfl) (hx:Loc X.env.scope x:=by exact Or.inl rfl) (hs:swapsWith e (some (.Name x pos')) pos.line X.env=pure false:=by rfl) (hf:X.fn x=true∨X.env.scope.names.lookup x=some .local:=by first | exact .inl rfl | exact .inr rfl | assumption) :
  PS X (.Assign [.Name x pos'] e pos) (wu te (d7 i)):=jb hN hi hx he hs hf
theorem au {r:R2} {a b:Expr} {ta tb:TE} {pos:Pos} (hr:IxR X r) (ha:PE X a ta) (hb:PE X b tb) (hs:ur b:=by exact fun _ _=>rfl):PE X (.Subscript a b pos) (tOp r ta tb):=D0 hr ha hb hs
theorem iV {op:CmpOp} {r:R2} {a b:Expr} {ta tb:TE} {pos:Pos} (ho:OpR X (compareOp op) r) (ha:PE X a ta) (hb:PE X b tb) (hm:behindInMarks op b=false:=by first | exact xQ _ | rfl):PE X (.Compare a [op] [b] pos) (tOp r ta tb):=lK ho ha hb hm
theorem aT {op:CmpOp} {r:R2} {a b:Expr} {ta tb:TE} {pos:Pos} (ho:OpR X (compareOp op) r) (ha:PE X a ta) (hb:PE X b tb) (hm:behindInMarks op b=false:=by first | exact xQ _ | rfl):PT X (.Compare a [op] [b] pos) (u9 (tOp r ta tb)):=dY ho ha hb hm
end
section
variable {σ:L2.St} {H:Hp} {Q:VK}
abbrev NwT (xs:List V) (H:Hp) (Q:VK):Prop:=xs.length≤sizeLine∧∀ p,H p=none→Q (.ref p) (upd H p (.tup xs))
abbrev NwL (xs:List V) (H:Hp) (Q:VK):Prop:=xs.length≤sizeLine∧∀ p,H p=none→Q (.ref p) (upd H p (.lst xs))
theorem Bx {t:TA} (h:t σ H fun xs H1=>NwT xs H1 Q):EA t σ H Q:=h
theorem Bl {t:TA} (h:t σ H fun xs H1=>NwL xs H1 Q):Dz t σ H Q:=h
theorem w9 {xs:List V} (z:(xs.drop 99).isEmpty=true):xs.length≤sizeLine:=by
 have:xs.drop 99=[]:=List.isEmpty_iff.mp z
 have:=List.drop_eq_nil_iff.mp this
 exact Nat.le_trans this (by decide)
theorem nwT {xs:List V} (q:∀ p H1,ao H H1→H p=none→H1 p=some (.tup xs)→Q (.ref p) H1) (z:(xs.drop 99).isEmpty=true:=by rfl):NwT xs H Q:=⟨w9 z,fun p n=>q p _ (ao.new n) n ai⟩
theorem nwL {xs:List V} (q:∀ p H1,ao H H1→H p=none→H1 p=some (.lst xs)→Q (.ref p) H1) (z:(xs.drop 99).isEmpty=true:=by rfl):NwL xs H Q:=⟨w9 z,fun p n=>q p _ (ao.new n) n ai⟩
theorem aM {p:Prop} [d:Decidable p] (h:p):decide p=true:=decide_eq_true h
theorem aO {p:Prop} [d:Decidable p] (h:¬ p):decide p=false:=decide_eq_false h
end
end L2
namespace My
open PySem PySem.Spec PyProof.Rows L2
noncomputable def top (i:Nat):Stmt:=PySem.Challenge.pw_sashiko_k58_texts_of_no_finds.main.body.getD i (.Pass ⟨0,0,0,0⟩)
noncomputable abbrev s_aL:Stmt:=(dz (top 12) 0)
noncomputable abbrev s_aE:Stmt:=(top 15)
noncomputable abbrev s_av:Stmt:=(top 16)
noncomputable abbrev s_ba:Stmt:=(top 17)
noncomputable abbrev s_aX:Stmt:=(top 19)
noncomputable abbrev s_aQ:Stmt:=(top 20)
noncomputable abbrev s_ax:Stmt:=(top 25)
noncomputable abbrev s_aw:Stmt:=(top 26)
noncomputable abbrev s_ao:Stmt:=(top 27)
noncomputable abbrev s_ap:Stmt:=(top 28)
noncomputable abbrev s_aq:Stmt:=(top 29)
noncomputable abbrev s_ai:Stmt:=(top 30)
noncomputable abbrev zA:Stmt:=(top 31)
noncomputable abbrev s_an:Stmt:=(top 33)
noncomputable abbrev s_aD:Stmt:=(top 34)
noncomputable abbrev s_aH:Stmt:=(top 32)
noncomputable abbrev s_ar:Stmt:=(dz (top 36) 0)
noncomputable abbrev s_ak:Stmt:=(dz (top 36) 1)
noncomputable abbrev s_aj:Stmt:=(dz (top 36) 2)
noncomputable abbrev s_ah:Stmt:=(dz (top 36) 3)
noncomputable abbrev s_ag:Stmt:=(dz (top 36) 4)
noncomputable abbrev s_am:Stmt:=(dz (top 36) 5)
noncomputable abbrev s_ad:Stmt:=(dz (top 36) 6)
noncomputable abbrev s_au:Stmt:=(dz (top 36) 7)
noncomputable abbrev s_ac:Stmt:=(dz (top 36) 8)
noncomputable abbrev s_af:Stmt:=(dz (top 36) 9)
noncomputable abbrev s_aB:Stmt:=(top 39)
noncomputable abbrev s_as:Stmt:=(top 40)
noncomputable abbrev s_aK:Stmt:=(top 41)
noncomputable abbrev s_ae:Stmt:=(top 42)
noncomputable abbrev s_aI:Stmt:=(top 43)
noncomputable abbrev s_aC:Stmt:=(top 44)
noncomputable abbrev s_al:Stmt:=(top 45)
noncomputable abbrev s_at:Stmt:=(top 46)
noncomputable abbrev s_bc:Stmt:=(top 48)
noncomputable abbrev s_a2:Stmt:=(top 49)
noncomputable abbrev s_aF:Stmt:=(top 50)
noncomputable abbrev s_aR:Stmt:=(top 51)
noncomputable abbrev s_a7:Stmt:=(top 52)
noncomputable abbrev s_bb:Stmt:=(top 53)
noncomputable abbrev s_aZ:Stmt:=(top 54)
noncomputable abbrev s_a3:Stmt:=(top 55)
noncomputable abbrev s_a0:Stmt:=(top 56)
noncomputable abbrev s_a4:Stmt:=(top 57)
noncomputable abbrev s_aO:Stmt:=(top 58)
noncomputable abbrev s_aW:Stmt:=(top 59)
noncomputable abbrev s_aG:Stmt:=(top 60)
noncomputable abbrev s_a1:Stmt:=(top 61)
noncomputable abbrev s_a6:Stmt:=(top 62)
noncomputable abbrev s_az:Stmt:=(top 63)
noncomputable abbrev s_aP:Stmt:=(top 64)
noncomputable abbrev s_aA:Stmt:=(top 65)
noncomputable abbrev zz:Stmt:=(top 66)
theorem sc_aL:aG ["self","ring"] ["self","ring"] (aq s_aL):=.by
theorem sc_aE:aG ["value"] ["value"] (aq s_aE):=.by
theorem sc_av:aG ["value","bound"] ["value","bound"] (aq s_av):=.by
theorem sc_ba:aG ["value"] ["value"] (aq s_ba):=.by
theorem sc_aX:aG ["count"] ["count"] (aq s_aX):=.by
theorem sc_aQ:aG ["board","x","y"] ["board","x","y"] (aq s_aQ):=.by
theorem sc_ax:aG ["x","y"] ["x","y"] (aq s_ax):=.by
theorem sc_aw:aG ["way","k","letter"] ["way","k"] (aq s_aw):=.by
theorem sc_ao:aG ["fact"] ["fact"] (aq s_ao):=.by
theorem sc_ap:aG ["fact"] ["fact"] (aq s_ap):=.by
theorem sc_aq:aG ["wide","tall","groups","x","y"] ["wide","tall"] (aq s_aq):=.by
theorem sc_ai:aG ["groups","strips","one","other"] ["groups","strips"] (aq s_ai):=.by
theorem kK:aG ["groups","strips","weight","one","other","change","strip","place"] ["groups","strips","weight"] (aq zA):=.by
theorem sc_an:aG ["facts","found","number","fact","strips"] ["facts"] (aq s_an):=.by
theorem sc_aD:aG ["facts","strips","ties","onward","met","place","here","strip","number","numbers","link"] ["facts","strips"] (aq s_aD):=.by
theorem sc_aH:aG ["wide","tall","facts","groups","fact"] ["wide","tall","facts"] (aq s_aH):=.by
theorem sc_ar:aG ["self","wide","tall"] ["self","wide","tall"] (aq s_ar):=.by
theorem sc_ak:aG ["self"] ["self"] (aq s_ak):=.by
theorem sc_aj:aG ["self"] ["self"] (aq s_aj):=.by
theorem sc_ah:aG ["self","way","k"] ["self","way","k"] (aq s_ah):=.by
theorem sc_ag:aG ["self","fact"] ["self","fact"] (aq s_ag):=.by
theorem sc_am:aG ["self","fact","strips","weight","number"] ["self","fact"] (aq s_am):=.by
theorem sc_ad:aG ["self","number"] ["self","number"] (aq s_ad):=.by
theorem sc_au:aG ["self"] ["self"] (aq s_au):=.by
theorem sc_ac:aG ["self"] ["self"] (aq s_ac):=.by
theorem sc_af:aG ["self","number"] ["self","number"] (aq s_af):=.by
theorem sc_aB:aG ["number","fact","kind","first","second","last"] ["number","fact"] (aq s_aB):=.by
theorem sc_as:aG ["finds","wide","tall","following","rows"] ["finds"] (aq s_as):=.by
theorem sc_aK:aG ["word","signs"] ["word","signs"] (aq s_aK):=.by
theorem sc_ae:aG ["word"] ["word"] (aq s_ae):=.by
theorem sc_aI:aG ["words","first","second"] ["words"] (aq s_aI):=.by
theorem sc_aC:aG ["row","words","wide","tall","following","refusal"] ["row"] (aq s_aC):=.by
theorem sc_al:aG ["number","least"] ["number","least"] (aq s_al):=.by
theorem sc_at:aG ["text","rows","head","finds","row","words","number","fact","refusal"] ["text"] (aq s_at):=.by
theorem sc_bc:aG ["_law_fact_here","_law_name","_law_bit"] ["_law_fact_here"] (aq s_bc):=.by
theorem sc_a2:aG ["_law_facts","_law_strip","_law_found","_law_more","_law_number_here","_law_fact_here","_law_one","_law_other","_law_weight"] ["_law_facts","_law_strip"] (aq s_a2):=.by
theorem sc_aF:aG ["_law_facts","_law_fact_here","_law_one","_law_other","_law_weight"] ["_law_facts","_law_fact_here"] (aq s_aF):=.by
theorem sc_aR:aG ["_law_script","_law_many","_law_rows","_law_mix","_law_cell","_law_rest"] ["_law_script","_law_many"] (aq s_aR):=.by
theorem sc_a7:aG ["_law_number_here","_law_many","_law_row_here","_law_k"] ["_law_number_here","_law_many"] (aq s_a7):=.by
theorem sc_bb:aG ["_law_some","_law_many","_law_raw","_law_row_here"] ["_law_some","_law_many"] (aq s_bb):=.by
theorem sc_aZ:aG ["_law_some","_law_wide","_law_tall"] ["_law_some"] (aq s_aZ):=.by
theorem sc_a3:aG ["_law_plan","_law_way","_law_k","_law_step","_law_bits_here"] ["_law_plan","_law_way","_law_k","_law_step"] (aq s_a3):=.by
theorem sc_a0:aG ["_law_plan","_law_x","_law_y","_law_total"] ["_law_plan","_law_x","_law_y"] (aq s_a0):=.by
theorem sc_a4:aG ["_law_plan","_law_one","_law_two","_law_three","_law_wide","_law_tall","_law_k","_law_step","_law_x","_law_y"] ["_law_plan","_law_one","_law_two","_law_three"] (aq s_a4):=.by
theorem sc_aO:aG ["_law_finds","_law_plan","_law_some","_law_many","_law_facts","_law_turn","_law_fact_here"] ["_law_finds","_law_plan","_law_some","_law_many"] (aq s_aO):=.by
theorem sc_aW:aG ["_law_finds","_law_plan","_law_some","_law_facts","_law_turn","_law_row_here"] ["_law_finds","_law_plan","_law_some"] (aq s_aW):=.by
theorem sc_aG:aG ["_law_text","_law_some","_law_signs","_law_at","_law_sign","_law_rows","_law_place","_law_way","_law_words","_law_spot"] ["_law_text","_law_some"] (aq s_aG):=.by
theorem sc_a1:aG ["_law_told","_law_due"] ["_law_told","_law_due"] (aq s_a1):=.by
theorem sc_a6:aG ["_law_text","_law_finds","e","_law_marks"] ["_law_text"] (aq s_a6):=.by
theorem sc_az:aG ["_law_word"] ["_law_word"] (aq s_az):=.by
theorem sc_aP:aG ["_law_words","_law_wide","_law_tall","_law_one","_law_two"] ["_law_words","_law_wide","_law_tall"] (aq s_aP):=.by
theorem sc_aA:aG ["_law_text","_law_rows","_law_head","_law_wide","_law_tall","_law_after","_law_facts","_law_last","_law_row_here","_law_words","_law_number_here","_law_fact_here"] ["_law_text"] (aq s_aA):=.by
theorem dJ:aG ["_law_script","_law_some","_law_plan","_law_finds","_law_text","_law_two","_law_near","_law_spoilt_here"] ["_law_script"] (aq zz):=.by
abbrev QNs (K:W.Frag) (x:Str) (C:Addr):Prop:=W.nsIn K mainGlobals x=some (some (.ref C))
abbrev QNn (K:W.Frag) (x:Str):Prop:=W.nsIn K mainGlobals x=some none
abbrev QFi (K:W.Frag) (C:Addr) (x:Str) (f:Addr):Prop:=W.findIn K (.ref C) x=some (some (.ref f))
abbrev QFn (K:W.Frag) (C:Addr) (x:Str):Prop:=W.findIn K (.ref C) x=some none
abbrev QIf (K:W.Frag) (f:Addr):Prop:=W.isFn K (.ref f)=true
abbrev QKt (K:W.Frag) (C D:Addr) (b:Bool):Prop:=W.kitOne K (.ref C) (.ref D)=some b
abbrev QXc (K:W.Frag) (C:Addr):Prop:=W.excIn K C [.type "ValueError",.type "Exception",.type "BaseException",.type "object"] "ValueError.__new__"=true
abbrev QXg (K:W.Frag) (C:Addr):Prop:=W.findIn K (.ref C) "__getattribute__"=some (some (.builtin "BaseException.__getattribute__"))∧W.findIn K (.ref C) "__getattr__"=some none∧W.findIn K (.ref C) "__class__"=some (some (.builtin "object.__class__"))∧W.mroIn K C (.type "object")=some true∧W.mroIn K C (.type "BaseException")=some true
set_option genInjectivity false in
set_option genSizeOf false in
structure Ad where
 (a_ab f_aL f_aE f_av f_ba f_aX f_aQ f_ax f_aw f_ao f_ap f_aq:Addr)
 (f_ai f_tie f_an f_aD f_aH f_ar f_ak f_aj f_ah f_ag f_am f_ad:Addr)
 (f_au f_ac f_af f_aB f_as f_aK f_ae f_aI f_aC f_al f_at f_bc:Addr)
 (f_a2 f_aF f_aR f_a7 f_bb f_aZ f_a3 f_a0 f_a4 f_aO f_aW f_aG:Addr)
 (f_a1 f_a6 f_az f_aP f_aA f_law a_aJ a_ay a_aM a_aU a_aT a_aN:Addr)
 (a_aV a_a5 a_a9 a_aa:Addr)
 (d_aL d_aE d_av d_ba d_aX d_aQ d_ax d_aw d_ao d_ap d_aq d_ai:FuncData)
 (d_tie d_an d_aD d_aH d_ar d_ak d_aj d_ah d_ag d_am d_ad d_au:FuncData)
 (d_ac d_af d_aB d_as d_aK d_ae d_aI d_aC d_al d_at d_bc d_a2:FuncData)
 (d_aF d_aR d_a7 d_bb d_aZ d_a3 d_a0 d_a4 d_aO d_aW d_aG d_a1:FuncData)
 (d_a6 d_az d_aP d_aA d_law:FuncData)
 (tk_LONGEST_SIDE tk_MOST_FIGURES:Tok)
structure Txt (K:W.Frag) (mg:Str→Option Value) (t:Ad):Prop where
 mg_ab:mg "Finds"=some (.ref t.a_ab)
 cl_ab:Cls K t.a_ab
 mk_ab:Mk K t.a_ab t.f_ar
 naF_columns_count:c9 K t.a_ab "columns_count"
 naF_rows_count:c9 K t.a_ab "rows_count"
 naF_facts:c9 K t.a_ab "facts"
 naF_next_number:c9 K t.a_ab "next_number"
 naF_groups:c9 K t.a_ab "groups"
 F_aL:Fun K "__init__" "Clash.__init__" s_aL t.f_aL t.d_aL
 b_aL:aN K t.d_aL ["self","ring"] []
 mx_ay:MkX K t.a_ay t.f_aL
 F_aE:Fun K "is_number" "is_number" s_aE t.f_aE t.d_aE
 b_aE:aN K t.d_aE ["value"] []
 mg_aE:mg "is_number"=some (.ref t.f_aE)
 F_av:Fun K "is_below" "is_below" s_av t.f_av t.d_av
 b_av:aN K t.d_av ["value","bound"] []
 mg_av:mg "is_below"=some (.ref t.f_av)
 F_ba:Fun K "is_bit" "is_bit" s_ba t.f_ba t.d_ba
 b_ba:aN K t.d_ba ["value"] []
 mg_ba:mg "is_bit"=some (.ref t.f_ba)
 F_aX:Fun K "is_side" "is_side" s_aX t.f_aX t.d_aX
 b_aX:aN K t.d_aX ["count"] []
 mg_aX:mg "is_side"=some (.ref t.f_aX)
 F_aQ:Fun K "need_cell" "need_cell" s_aQ t.f_aQ t.d_aQ
 b_aQ:aN K t.d_aQ ["board","x","y"] []
 mg_aQ:mg "need_cell"=some (.ref t.f_aQ)
 F_ax:Fun K "cell_strips" "cell_strips" s_ax t.f_ax t.d_ax
 b_ax:aN K t.d_ax ["x","y"] []
 mg_ax:mg "cell_strips"=some (.ref t.f_ax)
 F_aw:Fun K "line_strips" "line_strips" s_aw t.f_aw t.d_aw
 b_aw:aN K t.d_aw ["way","k"] []
 mg_aw:mg "line_strips"=some (.ref t.f_aw)
 F_ao:Fun K "fact_strips" "fact_strips" s_ao t.f_ao t.d_ao
 b_ao:aN K t.d_ao ["fact"] []
 mg_ao:mg "fact_strips"=some (.ref t.f_ao)
 F_ap:Fun K "fact_weight" "fact_weight" s_ap t.f_ap t.d_ap
 b_ap:aN K t.d_ap ["fact"] []
 mg_ap:mg "fact_weight"=some (.ref t.f_ap)
 F_aq:Fun K "lone_groups" "lone_groups" s_aq t.f_aq t.d_aq
 b_aq:aN K t.d_aq ["wide","tall"] []
 mg_aq:mg "lone_groups"=some (.ref t.f_aq)
 F_ai:Fun K "weight_between" "weight_between" s_ai t.f_ai t.d_ai
 b_ai:aN K t.d_ai ["groups","strips"] []
 mg_ai:mg "weight_between"=some (.ref t.f_ai)
 F_tie:Fun K "tie" "tie" zA t.f_tie t.d_tie
 b_tie:aN K t.d_tie ["groups","strips","weight"] []
 mg_tie:mg "tie"=some (.ref t.f_tie)
 F_an:Fun K "ties_by_strip" "ties_by_strip" s_an t.f_an t.d_an
 b_an:aN K t.d_an ["facts"] []
 mg_an:mg "ties_by_strip"=some (.ref t.f_an)
 F_aD:Fun K "reasons" "reasons" s_aD t.f_aD t.d_aD
 b_aD:aN K t.d_aD ["facts","strips"] []
 mg_aD:mg "reasons"=some (.ref t.f_aD)
 F_aH:Fun K "groups_of" "groups_of" s_aH t.f_aH t.d_aH
 b_aH:aN K t.d_aH ["wide","tall","facts"] []
 mg_aH:mg "groups_of"=some (.ref t.f_aH)
 F_ar:Fun K "__init__" "Finds.__init__" s_ar t.f_ar t.d_ar
 b_ar:aN K t.d_ar ["self","wide","tall"] []
 F_ak:Fun K "wide" "Finds.wide" s_ak t.f_ak t.d_ak
 b_ak:aN K t.d_ak ["self"] []
 m_ak:j1 K t.a_ab "wide" t.f_ak
 F_aj:Fun K "tall" "Finds.tall" s_aj t.f_aj t.d_aj
 b_aj:aN K t.d_aj ["self"] []
 m_aj:j1 K t.a_ab "tall" t.f_aj
 F_ah:Fun K "need_line" "Finds.need_line" s_ah t.f_ah t.d_ah
 b_ah:aN K t.d_ah ["self","way","k"] []
 m_ah:j1 K t.a_ab "need_line" t.f_ah
 F_ag:Fun K "need_fact" "Finds.need_fact" s_ag t.f_ag t.d_ag
 b_ag:aN K t.d_ag ["self","fact"] []
 m_ag:j1 K t.a_ab "need_fact" t.f_ag
 F_am:Fun K "note" "Finds.note" s_am t.f_am t.d_am
 b_am:aN K t.d_am ["self","fact"] []
 m_am:j1 K t.a_ab "note" t.f_am
 F_ad:Fun K "withdraw" "Finds.withdraw" s_ad t.f_ad t.d_ad
 b_ad:aN K t.d_ad ["self","number"] []
 m_ad:j1 K t.a_ab "withdraw" t.f_ad
 F_au:Fun K "kept" "Finds.kept" s_au t.f_au t.d_au
 b_au:aN K t.d_au ["self"] []
 m_au:j1 K t.a_ab "kept" t.f_au
 F_ac:Fun K "following" "Finds.following" s_ac t.f_ac t.d_ac
 b_ac:aN K t.d_ac ["self"] []
 m_ac:j1 K t.a_ab "following" t.f_ac
 F_af:Fun K "go_on_from" "Finds.go_on_from" s_af t.f_af t.d_af
 b_af:aN K t.d_af ["self","number"] []
 m_af:j1 K t.a_ab "go_on_from" t.f_af
 F_aB:Fun K "fact_text" "fact_text" s_aB t.f_aB t.d_aB
 b_aB:aN K t.d_aB ["number","fact"] []
 mg_aB:mg "fact_text"=some (.ref t.f_aB)
 F_as:Fun K "finds_text" "finds_text" s_as t.f_as t.d_as
 b_as:aN K t.d_as ["finds"] []
 mg_as:mg "finds_text"=some (.ref t.f_as)
 F_aK:Fun K "has_signs" "has_signs" s_aK t.f_aK t.d_aK
 b_aK:aN K t.d_aK ["word","signs"] []
 mg_aK:mg "has_signs"=some (.ref t.f_aK)
 F_ae:Fun K "read_number" "read_number" s_ae t.f_ae t.d_ae
 b_ae:aN K t.d_ae ["word"] []
 mg_ae:mg "read_number"=some (.ref t.f_ae)
 F_aI:Fun K "read_fact" "read_fact" s_aI t.f_aI t.d_aI
 b_aI:aN K t.d_aI ["words"] []
 mg_aI:mg "read_fact"=some (.ref t.f_aI)
 F_aC:Fun K "read_head" "read_head" s_aC t.f_aC t.d_aC
 b_aC:aN K t.d_aC ["row"] []
 mg_aC:mg "read_head"=some (.ref t.f_aC)
 F_al:Fun K "need_not_below" "need_not_below" s_al t.f_al t.d_al
 b_al:aN K t.d_al ["number","least"] []
 mg_al:mg "need_not_below"=some (.ref t.f_al)
 F_at:Fun K "read_finds" "read_finds" s_at t.f_at t.d_at
 b_at:aN K t.d_at ["text"] []
 mg_at:mg "read_finds"=some (.ref t.f_at)
 F_bc:Fun K "_law_tie" "_law_tie" s_bc t.f_bc t.d_bc
 b_bc:aN K t.d_bc ["_law_fact_here"] []
 mg_bc:mg "_law_tie"=some (.ref t.f_bc)
 F_a2:Fun K "_law_sums" "_law_sums" s_a2 t.f_a2 t.d_a2
 b_a2:aN K t.d_a2 ["_law_facts","_law_strip"] []
 mg_a2:mg "_law_sums"=some (.ref t.f_a2)
 F_aF:Fun K "_law_clashes" "_law_clashes" s_aF t.f_aF t.d_aF
 b_aF:aN K t.d_aF ["_law_facts","_law_fact_here"] []
 mg_aF:mg "_law_clashes"=some (.ref t.f_aF)
 F_aR:Fun K "_law_draws" "_law_draws" s_aR t.f_aR t.d_aR
 b_aR:aN K t.d_aR ["_law_script","_law_many"] []
 mg_aR:mg "_law_draws"=some (.ref t.f_aR)
 F_a7:Fun K "_law_bits" "_law_bits" s_a7 t.f_a7 t.d_a7
 b_a7:aN K t.d_a7 ["_law_number_here","_law_many"] []
 mg_a7:mg "_law_bits"=some (.ref t.f_a7)
 F_bb:Fun K "_law_row" "_law_row" s_bb t.f_bb t.d_bb
 b_bb:aN K t.d_bb ["_law_some","_law_many"] []
 mg_bb:mg "_law_row"=some (.ref t.f_bb)
 F_aZ:Fun K "_law_small" "_law_small" s_aZ t.f_aZ t.d_aZ
 b_aZ:aN K t.d_aZ ["_law_some"] []
 mg_aZ:mg "_law_small"=some (.ref t.f_aZ)
 F_a3:Fun K "_law_sewn" "_law_sewn" s_a3 t.f_a3 t.d_a3
 b_a3:aN K t.d_a3 ["_law_plan","_law_way","_law_k","_law_step"] []
 mg_a3:mg "_law_sewn"=some (.ref t.f_a3)
 F_a0:Fun K "_law_value" "_law_value" s_a0 t.f_a0 t.d_a0
 b_a0:aN K t.d_a0 ["_law_plan","_law_x","_law_y"] []
 mg_a0:mg "_law_value"=some (.ref t.f_a0)
 F_a4:Fun K "_law_fact" "_law_fact" s_a4 t.f_a4 t.d_a4
 b_a4:aN K t.d_a4 ["_law_plan","_law_one","_law_two","_law_three"] []
 mg_a4:mg "_law_fact"=some (.ref t.f_a4)
 F_aO:Fun K "_law_filled" "_law_filled" s_aO t.f_aO t.d_aO
 b_aO:aN K t.d_aO ["_law_finds","_law_plan","_law_some","_law_many"] []
 mg_aO:mg "_law_filled"=some (.ref t.f_aO)
 F_aW:Fun K "_law_grown" "_law_grown" s_aW t.f_aW t.d_aW
 b_aW:aN K t.d_aW ["_law_finds","_law_plan","_law_some"] []
 mg_aW:mg "_law_grown"=some (.ref t.f_aW)
 F_aG:Fun K "_law_spoilt" "_law_spoilt" s_aG t.f_aG t.d_aG
 b_aG:aN K t.d_aG ["_law_text","_law_some"] []
 mg_aG:mg "_law_spoilt"=some (.ref t.f_aG)
 F_a1:Fun K "_law_same" "_law_same" s_a1 t.f_a1 t.d_a1
 b_a1:aN K t.d_a1 ["_law_told","_law_due"] []
 mg_a1:mg "_law_same"=some (.ref t.f_a1)
 F_a6:Fun K "_law_read" "_law_read" s_a6 t.f_a6 t.d_a6
 b_a6:aN K t.d_a6 ["_law_text"] []
 mg_a6:mg "_law_read"=some (.ref t.f_a6)
 F_az:Fun K "_law_number" "_law_number" s_az t.f_az t.d_az
 b_az:aN K t.d_az ["_law_word"] []
 mg_az:mg "_law_number"=some (.ref t.f_az)
 F_aP:Fun K "_law_fact_of" "_law_fact_of" s_aP t.f_aP t.d_aP
 b_aP:aN K t.d_aP ["_law_words","_law_wide","_law_tall"] []
 mg_aP:mg "_law_fact_of"=some (.ref t.f_aP)
 F_aA:Fun K "_law_wanted" "_law_wanted" s_aA t.f_aA t.d_aA
 b_aA:aN K t.d_aA ["_law_text"] []
 mg_aA:mg "_law_wanted"=some (.ref t.f_aA)
 F_law:Fun K "law" "law" zz t.f_law t.d_law
 b_law:aN K t.d_law ["_law_script"] []
 mg_law:mg "law"=some (.ref t.f_law)
 mg_aJ:mg "SewError"=some (.ref t.a_aJ)
 mg_ay:mg "Clash"=some (.ref t.a_ay)
 mg_aM:mg "BadSize"=some (.ref t.a_aM)
 mg_aU:mg "BadBit"=some (.ref t.a_aU)
 mg_aT:mg "NoCell"=some (.ref t.a_aT)
 mg_aN:mg "NoLine"=some (.ref t.a_aN)
 mg_aV:mg "NoStep"=some (.ref t.a_aV)
 mg_a5:mg "Known"=some (.ref t.a_a5)
 mg_a9:mg "NoFact"=some (.ref t.a_a9)
 mg_aa:mg "BadText"=some (.ref t.a_aa)
 x_aM:QXc K t.a_aM
 xi_aM:fk K t.a_aM
 cat_aM:W.exmOne K (.ref t.a_aM) (.ref t.a_aJ)=some true
 x_aU:QXc K t.a_aU
 xi_aU:fk K t.a_aU
 cat_aU:W.exmOne K (.ref t.a_aU) (.ref t.a_aJ)=some true
 x_aT:QXc K t.a_aT
 xi_aT:fk K t.a_aT
 cat_aT:W.exmOne K (.ref t.a_aT) (.ref t.a_aJ)=some true
 x_aN:QXc K t.a_aN
 xi_aN:fk K t.a_aN
 cat_aN:W.exmOne K (.ref t.a_aN) (.ref t.a_aJ)=some true
 x_aV:QXc K t.a_aV
 xi_aV:fk K t.a_aV
 cat_aV:W.exmOne K (.ref t.a_aV) (.ref t.a_aJ)=some true
 x_a5:QXc K t.a_a5
 xi_a5:fk K t.a_a5
 cat_a5:W.exmOne K (.ref t.a_a5) (.ref t.a_aJ)=some true
 x_a9:QXc K t.a_a9
 xi_a9:fk K t.a_a9
 cat_a9:W.exmOne K (.ref t.a_a9) (.ref t.a_aJ)=some true
 x_aa:QXc K t.a_aa
 xi_aa:fk K t.a_aa
 cat_aa:W.exmOne K (.ref t.a_aa) (.ref t.a_aJ)=some true
 kt_aa_aM:QKt K t.a_aa t.a_aM false
 kt_aa_aU:QKt K t.a_aa t.a_aU false
 kt_aa_ay:QKt K t.a_aa t.a_ay false
 kt_aa_a5:QKt K t.a_aa t.a_a5 false
 kt_aa_aT:QKt K t.a_aa t.a_aT false
 kt_aa_aN:QKt K t.a_aa t.a_aN false
 kt_aa_aV:QKt K t.a_aa t.a_aV false
 kt_aa_aa:QKt K t.a_aa t.a_aa true
 kv_aa:W.kitOne K (.ref t.a_aa) (.type "ValueError")=some true
 bi_aJ:BO K t.a_aJ
 nx_Clash_ring:QFn K t.a_ay "ring"
 xi_ay:fk K t.a_ay
 cat_ay:W.exmOne K (.ref t.a_ay) (.ref t.a_aJ)=some true
 mg_LONGEST_SIDE:mg "LONGEST_SIDE"=some (.int 40 t.tk_LONGEST_SIDE)
 mg_MOST_FIGURES:mg "MOST_FIGURES"=some (.int 6 t.tk_MOST_FIGURES)
 no_aY:mg "isinstance"=none
 no_int:mg "int"=none
 no_bool:mg "bool"=none
 no_all:mg "all"=none
 no_len:mg "len"=none
 no_bd:mg "tuple"=none
 no_list:mg "list"=none
 no_a8:mg "range"=none
 no_abs:mg "abs"=none
 no_sum:mg "sum"=none
 no_min:mg "min"=none
 no_str:mg "str"=none
 no_zip:mg "zip"=none
 no_aS:mg "ValueError"=none
theorem txt_mk {K:W.Frag} {h:Heap} {mg:Str→Option Value} (X:K.In h) (G:h.Ns mainGlobals mg) {C_ab f_aL f_aE f_av f_ba f_aX f_aQ f_ax f_aw f_ao f_ap f_aq:Addr} {f_ai f_tie f_an f_aD f_aH f_ar f_ak f_aj f_ah f_ag f_am f_ad:Addr} {f_au f_ac f_af f_aB f_as f_aK f_ae f_aI f_aC f_al f_at f_bc:Addr} {f_a2 f_aF f_aR f_a7 f_bb f_aZ f_a3 f_a0 f_a4 f_aO f_aW f_aG:Addr} {f_a1 f_a6 f_az f_aP f_aA f_law C_aJ C_ay C_aM C_aU C_aT C_aN:Addr} {C_aV C_a5 C_a9 C_aa:Addr} {d_aL d_aE d_av d_ba d_aX d_aQ d_ax d_aw d_ao d_ap d_aq d_ai:FuncData} {d_tie d_an d_aD d_aH d_ar d_ak d_aj d_ah d_ag d_am d_ad d_au:FuncData} {d_ac d_af d_aB d_as d_aK d_ae d_aI d_aC d_al d_at d_bc d_a2:FuncData} {d_aF d_aR d_a7 d_bb d_aZ d_a3 d_a0 d_a4 d_aO d_aW d_aG d_a1:FuncData} {d_a6 d_az d_aP d_aA d_law:FuncData} {tk_LONGEST_SIDE tk_MOST_FIGURES:Tok}
  (aC_ab:QNs K "Finds" C_ab)
  (pg_ab:W.plainGet K C_ab Str.empty=true)
  (hd_ab:W.hasDictIn K C_ab=true)
  (po_ab:W.plainOver K C_ab=true)
  (sa_ab:W.findIn K (.ref C_ab) "__setattr__"=some (some (.builtin "object.__setattr__")))
  (mk_ab:W.makesIn K C_ab=true)
  (kc_ab:W.keepIn K (.ref C_ab)=true)
  (naF_columns_count:QFn K C_ab "columns_count")
  (naF_rows_count:QFn K C_ab "rows_count")
  (naF_facts:QFn K C_ab "facts")
  (naF_next_number:QFn K C_ab "next_number")
  (naF_groups:QFn K C_ab "groups")
  (F_aL:Fun K "__init__" "Clash.__init__" s_aL f_aL d_aL)
  (oi_ay:QFi K C_ay "__init__" f_aL)
  (of_ay:W.typeIn K (.ref f_aL)=some (.type "function"))
  (ok_ay:W.keepIn K (.ref C_ay)=true)
  (os_ay:W.findIn K (.ref C_ay) "__setattr__"=some (some (.builtin "object.__setattr__")))
  (om_ay:W.mroIn K C_ay (.type "object")=some true)
  (ox_ay:sR K C_ay [.type "ValueError",.type "Exception",.type "BaseException",.type "object"] "ValueError.__new__"=true)
  (a_aE:QNs K "is_number" f_aE)
  (F_aE:Fun K "is_number" "is_number" s_aE f_aE d_aE)
  (a_av:QNs K "is_below" f_av)
  (F_av:Fun K "is_below" "is_below" s_av f_av d_av)
  (a_ba:QNs K "is_bit" f_ba)
  (F_ba:Fun K "is_bit" "is_bit" s_ba f_ba d_ba)
  (a_aX:QNs K "is_side" f_aX)
  (F_aX:Fun K "is_side" "is_side" s_aX f_aX d_aX)
  (a_aQ:QNs K "need_cell" f_aQ)
  (F_aQ:Fun K "need_cell" "need_cell" s_aQ f_aQ d_aQ)
  (a_ax:QNs K "cell_strips" f_ax)
  (F_ax:Fun K "cell_strips" "cell_strips" s_ax f_ax d_ax)
  (a_aw:QNs K "line_strips" f_aw)
  (F_aw:Fun K "line_strips" "line_strips" s_aw f_aw d_aw)
  (a_ao:QNs K "fact_strips" f_ao)
  (F_ao:Fun K "fact_strips" "fact_strips" s_ao f_ao d_ao)
  (a_ap:QNs K "fact_weight" f_ap)
  (F_ap:Fun K "fact_weight" "fact_weight" s_ap f_ap d_ap)
  (a_aq:QNs K "lone_groups" f_aq)
  (F_aq:Fun K "lone_groups" "lone_groups" s_aq f_aq d_aq)
  (a_ai:QNs K "weight_between" f_ai)
  (F_ai:Fun K "weight_between" "weight_between" s_ai f_ai d_ai)
  (a_tie:QNs K "tie" f_tie)
  (F_tie:Fun K "tie" "tie" zA f_tie d_tie)
  (a_an:QNs K "ties_by_strip" f_an)
  (F_an:Fun K "ties_by_strip" "ties_by_strip" s_an f_an d_an)
  (a_aD:QNs K "reasons" f_aD)
  (F_aD:Fun K "reasons" "reasons" s_aD f_aD d_aD)
  (a_aH:QNs K "groups_of" f_aH)
  (F_aH:Fun K "groups_of" "groups_of" s_aH f_aH d_aH)
  (a_ar:QFi K C_ab "__init__" f_ar)
  (i_ar:QIf K f_ar)
  (F_ar:Fun K "__init__" "Finds.__init__" s_ar f_ar d_ar)
  (a_ak:QFi K C_ab "wide" f_ak)
  (i_ak:QIf K f_ak)
  (F_ak:Fun K "wide" "Finds.wide" s_ak f_ak d_ak)
  (a_aj:QFi K C_ab "tall" f_aj)
  (i_aj:QIf K f_aj)
  (F_aj:Fun K "tall" "Finds.tall" s_aj f_aj d_aj)
  (a_ah:QFi K C_ab "need_line" f_ah)
  (i_ah:QIf K f_ah)
  (F_ah:Fun K "need_line" "Finds.need_line" s_ah f_ah d_ah)
  (a_ag:QFi K C_ab "need_fact" f_ag)
  (i_ag:QIf K f_ag)
  (F_ag:Fun K "need_fact" "Finds.need_fact" s_ag f_ag d_ag)
  (a_am:QFi K C_ab "note" f_am)
  (i_am:QIf K f_am)
  (F_am:Fun K "note" "Finds.note" s_am f_am d_am)
  (a_ad:QFi K C_ab "withdraw" f_ad)
  (i_ad:QIf K f_ad)
  (F_ad:Fun K "withdraw" "Finds.withdraw" s_ad f_ad d_ad)
  (a_au:QFi K C_ab "kept" f_au)
  (i_au:QIf K f_au)
  (F_au:Fun K "kept" "Finds.kept" s_au f_au d_au)
  (a_ac:QFi K C_ab "following" f_ac)
  (i_ac:QIf K f_ac)
  (F_ac:Fun K "following" "Finds.following" s_ac f_ac d_ac)
  (a_af:QFi K C_ab "go_on_from" f_af)
  (i_af:QIf K f_af)
  (F_af:Fun K "go_on_from" "Finds.go_on_from" s_af f_af d_af)
  (a_aB:QNs K "fact_text" f_aB)
  (F_aB:Fun K "fact_text" "fact_text" s_aB f_aB d_aB)
  (a_as:QNs K "finds_text" f_as)
  (F_as:Fun K "finds_text" "finds_text" s_as f_as d_as)
  (a_aK:QNs K "has_signs" f_aK)
  (F_aK:Fun K "has_signs" "has_signs" s_aK f_aK d_aK)
  (a_ae:QNs K "read_number" f_ae)
  (F_ae:Fun K "read_number" "read_number" s_ae f_ae d_ae)
  (a_aI:QNs K "read_fact" f_aI)
  (F_aI:Fun K "read_fact" "read_fact" s_aI f_aI d_aI)
  (a_aC:QNs K "read_head" f_aC)
  (F_aC:Fun K "read_head" "read_head" s_aC f_aC d_aC)
  (a_al:QNs K "need_not_below" f_al)
  (F_al:Fun K "need_not_below" "need_not_below" s_al f_al d_al)
  (a_at:QNs K "read_finds" f_at)
  (F_at:Fun K "read_finds" "read_finds" s_at f_at d_at)
  (a_bc:QNs K "_law_tie" f_bc)
  (F_bc:Fun K "_law_tie" "_law_tie" s_bc f_bc d_bc)
  (a_a2:QNs K "_law_sums" f_a2)
  (F_a2:Fun K "_law_sums" "_law_sums" s_a2 f_a2 d_a2)
  (a_aF:QNs K "_law_clashes" f_aF)
  (F_aF:Fun K "_law_clashes" "_law_clashes" s_aF f_aF d_aF)
  (a_aR:QNs K "_law_draws" f_aR)
  (F_aR:Fun K "_law_draws" "_law_draws" s_aR f_aR d_aR)
  (a_a7:QNs K "_law_bits" f_a7)
  (F_a7:Fun K "_law_bits" "_law_bits" s_a7 f_a7 d_a7)
  (a_bb:QNs K "_law_row" f_bb)
  (F_bb:Fun K "_law_row" "_law_row" s_bb f_bb d_bb)
  (a_aZ:QNs K "_law_small" f_aZ)
  (F_aZ:Fun K "_law_small" "_law_small" s_aZ f_aZ d_aZ)
  (a_a3:QNs K "_law_sewn" f_a3)
  (F_a3:Fun K "_law_sewn" "_law_sewn" s_a3 f_a3 d_a3)
  (a_a0:QNs K "_law_value" f_a0)
  (F_a0:Fun K "_law_value" "_law_value" s_a0 f_a0 d_a0)
  (a_a4:QNs K "_law_fact" f_a4)
  (F_a4:Fun K "_law_fact" "_law_fact" s_a4 f_a4 d_a4)
  (a_aO:QNs K "_law_filled" f_aO)
  (F_aO:Fun K "_law_filled" "_law_filled" s_aO f_aO d_aO)
  (a_aW:QNs K "_law_grown" f_aW)
  (F_aW:Fun K "_law_grown" "_law_grown" s_aW f_aW d_aW)
  (a_aG:QNs K "_law_spoilt" f_aG)
  (F_aG:Fun K "_law_spoilt" "_law_spoilt" s_aG f_aG d_aG)
  (a_a1:QNs K "_law_same" f_a1)
  (F_a1:Fun K "_law_same" "_law_same" s_a1 f_a1 d_a1)
  (a_a6:QNs K "_law_read" f_a6)
  (F_a6:Fun K "_law_read" "_law_read" s_a6 f_a6 d_a6)
  (a_az:QNs K "_law_number" f_az)
  (F_az:Fun K "_law_number" "_law_number" s_az f_az d_az)
  (a_aP:QNs K "_law_fact_of" f_aP)
  (F_aP:Fun K "_law_fact_of" "_law_fact_of" s_aP f_aP d_aP)
  (a_aA:QNs K "_law_wanted" f_aA)
  (F_aA:Fun K "_law_wanted" "_law_wanted" s_aA f_aA d_aA)
  (a_law:QNs K "law" f_law)
  (F_law:Fun K "law" "law" zz f_law d_law)
  (aX_aJ:QNs K "SewError" C_aJ)
  (aX_ay:QNs K "Clash" C_ay)
  (aX_aM:QNs K "BadSize" C_aM)
  (aX_aU:QNs K "BadBit" C_aU)
  (aX_aT:QNs K "NoCell" C_aT)
  (aX_aN:QNs K "NoLine" C_aN)
  (aX_aV:QNs K "NoStep" C_aV)
  (aX_a5:QNs K "Known" C_a5)
  (aX_a9:QNs K "NoFact" C_a9)
  (aX_aa:QNs K "BadText" C_aa)
  (bb:W.subIn K (.ref C_aJ) (.type "BaseException")=some true)
  (bm:W.mroIn K C_aJ (.type "object")=some true)
  (bt:W.typeIn K (.ref C_aJ)=some (.type "type"))
  (ogs:W.specialIn K (.builtin "object.__class__") "__get__"=some (some (.builtin "getset_descriptor.__get__")))
  (otk:W.takesIn K (.builtin "object.__class__")=some true)
  (x_aM:QXc K C_aM)
  (xg_BadSize:QXg K C_aM)
  (sb_aM:W.subIn K (.ref C_aM) (.ref C_aJ)=some true)
  (x_aU:QXc K C_aU)
  (xg_BadBit:QXg K C_aU)
  (sb_aU:W.subIn K (.ref C_aU) (.ref C_aJ)=some true)
  (x_aT:QXc K C_aT)
  (xg_NoCell:QXg K C_aT)
  (sb_aT:W.subIn K (.ref C_aT) (.ref C_aJ)=some true)
  (x_aN:QXc K C_aN)
  (xg_NoLine:QXg K C_aN)
  (sb_aN:W.subIn K (.ref C_aN) (.ref C_aJ)=some true)
  (x_aV:QXc K C_aV)
  (xg_NoStep:QXg K C_aV)
  (sb_aV:W.subIn K (.ref C_aV) (.ref C_aJ)=some true)
  (x_a5:QXc K C_a5)
  (xg_Known:QXg K C_a5)
  (sb_a5:W.subIn K (.ref C_a5) (.ref C_aJ)=some true)
  (x_a9:QXc K C_a9)
  (xg_NoFact:QXg K C_a9)
  (sb_a9:W.subIn K (.ref C_a9) (.ref C_aJ)=some true)
  (x_aa:QXc K C_aa)
  (xg_BadText:QXg K C_aa)
  (sb_aa:W.subIn K (.ref C_aa) (.ref C_aJ)=some true)
  (kt_aa_aM:QKt K C_aa C_aM false)
  (kt_aa_aU:QKt K C_aa C_aU false)
  (kt_aa_ay:QKt K C_aa C_ay false)
  (kt_aa_a5:QKt K C_aa C_a5 false)
  (kt_aa_aT:QKt K C_aa C_aT false)
  (kt_aa_aN:QKt K C_aa C_aN false)
  (kt_aa_aV:QKt K C_aa C_aV false)
  (kt_aa_aa:QKt K C_aa C_aa true)
  (kv_aa:W.kitOne K (.ref C_aa) (.type "ValueError")=some true)
  (bg:W.specialIn K (.ref C_aJ) "__getattribute__"=some (some (.builtin "type.__getattribute__")))
  (br:W.readsIn K C_aJ (.type "type")=true)
  (ba:W.findCls K (.ref C_aJ) (.type "type") "__init__"=some (.val (.builtin "ValueError.__init__")))
  (nx_Clash_ring:QFn K C_ay "ring")
  (xg_Clash:QXg K C_ay)
  (sb_ay:W.subIn K (.ref C_ay) (.ref C_aJ)=some true)
  (v_LONGEST_SIDE:W.nsIn K mainGlobals "LONGEST_SIDE"=some (some (.int 40 tk_LONGEST_SIDE)))
  (v_MOST_FIGURES:W.nsIn K mainGlobals "MOST_FIGURES"=some (some (.int 6 tk_MOST_FIGURES)))
  (z_aY:QNn K "isinstance")
  (z_int:QNn K "int")
  (z_bool:QNn K "bool")
  (z_all:QNn K "all")
  (z_len:QNn K "len")
  (z_bd:QNn K "tuple")
  (z_list:QNn K "list")
  (z_a8:QNn K "range")
  (z_abs:QNn K "abs")
  (z_sum:QNn K "sum")
  (z_min:QNn K "min")
  (z_str:QNn K "str")
  (z_zip:QNn K "zip")
  (z_aS:QNn K "ValueError"):∃ t:Ad,Txt K mg t :=
 ⟨{ a_ab:=C_ab,f_aL:=f_aL,d_aL:=d_aL,f_aE:=f_aE,d_aE:=d_aE,f_av:=f_av,d_av:=d_av,f_ba:=f_ba,d_ba:=d_ba,f_aX:=f_aX,d_aX:=d_aX,f_aQ:=f_aQ,d_aQ:=d_aQ,f_ax:=f_ax,d_ax:=d_ax,f_aw:=f_aw,d_aw:=d_aw,f_ao:=f_ao,d_ao:=d_ao,f_ap:=f_ap,d_ap:=d_ap,f_aq:=f_aq,d_aq:=d_aq,f_ai:=f_ai,d_ai:=d_ai,f_tie:=f_tie,d_tie:=d_tie,f_an:=f_an,d_an:=d_an,f_aD:=f_aD,d_aD:=d_aD,f_aH:=f_aH,d_aH:=d_aH,f_ar:=f_ar,d_ar:=d_ar,f_ak:=f_ak,d_ak:=d_ak,f_aj:=f_aj,d_aj:=d_aj,f_ah:=f_ah,d_ah:=d_ah,f_ag:=f_ag,d_ag:=d_ag,f_am:=f_am,d_am:=d_am,f_ad:=f_ad,d_ad:=d_ad,f_au:=f_au,d_au:=d_au,f_ac:=f_ac,d_ac:=d_ac,f_af:=f_af,d_af:=d_af,f_aB:=f_aB,d_aB:=d_aB,f_as:=f_as,d_as:=d_as,f_aK:=f_aK,d_aK:=d_aK,f_ae:=f_ae,d_ae:=d_ae,f_aI:=f_aI,d_aI:=d_aI,f_aC:=f_aC,d_aC:=d_aC,f_al:=f_al,d_al:=d_al,f_at:=f_at,d_at:=d_at,f_bc:=f_bc,d_bc:=d_bc,f_a2:=f_a2,d_a2:=d_a2,f_aF:=f_aF,d_aF:=d_aF,f_aR:=f_aR,d_aR:=d_aR,f_a7:=f_a7,d_a7:=d_a7,f_bb:=f_bb,d_bb:=d_bb,f_aZ:=f_aZ,d_aZ:=d_aZ,f_a3:=f_a3,d_a3:=d_a3,f_a0:=f_a0,d_a0:=d_a0,f_a4:=f_a4,d_a4:=d_a4,f_aO:=f_aO,d_aO:=d_aO,f_aW:=f_aW,d_aW:=d_aW,f_aG:=f_aG,d_aG:=d_aG,f_a1:=f_a1,d_a1:=d_a1,f_a6:=f_a6,d_a6:=d_a6,f_az:=f_az,d_az:=d_az,f_aP:=f_aP,d_aP:=d_aP,f_aA:=f_aA,d_aA:=d_aA,f_law:=f_law,d_law:=d_law,a_aJ:=C_aJ,a_ay:=C_ay,a_aM:=C_aM,a_aU:=C_aU,a_aT:=C_aT,a_aN:=C_aN,a_aV:=C_aV,a_a5:=C_a5,a_a9:=C_a9,a_aa:=C_aa,tk_LONGEST_SIDE:=tk_LONGEST_SIDE,tk_MOST_FIGURES:=tk_MOST_FIGURES },⟨W.mg_of X G aC_ab,⟨pg_ab,hd_ab,po_ab,sa_ab⟩,⟨mk_ab,a_ar,i_ar,kc_ab⟩,naF_columns_count,naF_rows_count,naF_facts,naF_next_number,naF_groups,F_aL,F_aL.b2 fun _ _ _ _ _ _ _ _=>rfl,⟨⟨ox_ay,os_ay,om_ay⟩,oi_ay,of_ay,ok_ay⟩,F_aE,F_aE.b1 fun _ _ _ _ _ _ _=>rfl,W.mg_of X G a_aE,F_av,F_av.b2 fun _ _ _ _ _ _ _ _=>rfl,W.mg_of X G a_av,F_ba,F_ba.b1 fun _ _ _ _ _ _ _=>rfl,W.mg_of X G a_ba,F_aX,F_aX.b1 fun _ _ _ _ _ _ _=>rfl,W.mg_of X G a_aX,F_aQ,F_aQ.b3 fun _ _ _ _ _ _ _ _ _=>rfl,W.mg_of X G a_aQ,F_ax,F_ax.b2 fun _ _ _ _ _ _ _ _=>rfl,W.mg_of X G a_ax,F_aw,F_aw.b2 fun _ _ _ _ _ _ _ _=>rfl,W.mg_of X G a_aw,F_ao,F_ao.b1 fun _ _ _ _ _ _ _=>rfl,W.mg_of X G a_ao,F_ap,F_ap.b1 fun _ _ _ _ _ _ _=>rfl,W.mg_of X G a_ap,F_aq,F_aq.b2 fun _ _ _ _ _ _ _ _=>rfl,W.mg_of X G a_aq,F_ai,F_ai.b2 fun _ _ _ _ _ _ _ _=>rfl,W.mg_of X G a_ai,F_tie,F_tie.b3 fun _ _ _ _ _ _ _ _ _=>rfl,W.mg_of X G a_tie,F_an,F_an.b1 fun _ _ _ _ _ _ _=>rfl,W.mg_of X G a_an,F_aD,F_aD.b2 fun _ _ _ _ _ _ _ _=>rfl,W.mg_of X G a_aD,F_aH,F_aH.b3 fun _ _ _ _ _ _ _ _ _=>rfl,W.mg_of X G a_aH,F_ar,F_ar.b3 fun _ _ _ _ _ _ _ _ _=>rfl,F_ak,F_ak.b1 fun _ _ _ _ _ _ _=>rfl,⟨a_ak,i_ak,F_ak.kp⟩,F_aj,F_aj.b1 fun _ _ _ _ _ _ _=>rfl,⟨a_aj,i_aj,F_aj.kp⟩,F_ah,F_ah.b3 fun _ _ _ _ _ _ _ _ _=>rfl,⟨a_ah,i_ah,F_ah.kp⟩,F_ag,F_ag.b2 fun _ _ _ _ _ _ _ _=>rfl,⟨a_ag,i_ag,F_ag.kp⟩,F_am,F_am.b2 fun _ _ _ _ _ _ _ _=>rfl,⟨a_am,i_am,F_am.kp⟩,F_ad,F_ad.b2 fun _ _ _ _ _ _ _ _=>rfl,⟨a_ad,i_ad,F_ad.kp⟩,F_au,F_au.b1 fun _ _ _ _ _ _ _=>rfl,⟨a_au,i_au,F_au.kp⟩,F_ac,F_ac.b1 fun _ _ _ _ _ _ _=>rfl,⟨a_ac,i_ac,F_ac.kp⟩,F_af,F_af.b2 fun _ _ _ _ _ _ _ _=>rfl,⟨a_af,i_af,F_af.kp⟩,F_aB,F_aB.b2 fun _ _ _ _ _ _ _ _=>rfl,W.mg_of X G a_aB,F_as,F_as.b1 fun _ _ _ _ _ _ _=>rfl,W.mg_of X G a_as,F_aK,F_aK.b2 fun _ _ _ _ _ _ _ _=>rfl,W.mg_of X G a_aK,F_ae,F_ae.b1 fun _ _ _ _ _ _ _=>rfl,W.mg_of X G a_ae,F_aI,F_aI.b1 fun _ _ _ _ _ _ _=>rfl,W.mg_of X G a_aI,F_aC,F_aC.b1 fun _ _ _ _ _ _ _=>rfl,W.mg_of X G a_aC,F_al,F_al.b2 fun _ _ _ _ _ _ _ _=>rfl,W.mg_of X G a_al,F_at,F_at.b1 fun _ _ _ _ _ _ _=>rfl,W.mg_of X G a_at,F_bc,F_bc.b1 fun _ _ _ _ _ _ _=>rfl,W.mg_of X G a_bc,F_a2,F_a2.b2 fun _ _ _ _ _ _ _ _=>rfl,W.mg_of X G a_a2,F_aF,F_aF.b2 fun _ _ _ _ _ _ _ _=>rfl,W.mg_of X G a_aF,F_aR,F_aR.b2 fun _ _ _ _ _ _ _ _=>rfl,W.mg_of X G a_aR,F_a7,F_a7.b2 fun _ _ _ _ _ _ _ _=>rfl,W.mg_of X G a_a7,F_bb,F_bb.b2 fun _ _ _ _ _ _ _ _=>rfl,W.mg_of X G a_bb,F_aZ,F_aZ.b1 fun _ _ _ _ _ _ _=>rfl,W.mg_of X G a_aZ,F_a3,F_a3.b4 fun _ _ _ _ _ _ _ _ _ _=>rfl,W.mg_of X G a_a3,F_a0,F_a0.b3 fun _ _ _ _ _ _ _ _ _=>rfl,W.mg_of X G a_a0,F_a4,F_a4.b4 fun _ _ _ _ _ _ _ _ _ _=>rfl,W.mg_of X G a_a4,F_aO,F_aO.b4 fun _ _ _ _ _ _ _ _ _ _=>rfl,W.mg_of X G a_aO,F_aW,F_aW.b3 fun _ _ _ _ _ _ _ _ _=>rfl,W.mg_of X G a_aW,F_aG,F_aG.b2 fun _ _ _ _ _ _ _ _=>rfl,W.mg_of X G a_aG,F_a1,F_a1.b2 fun _ _ _ _ _ _ _ _=>rfl,W.mg_of X G a_a1,F_a6,F_a6.b1 fun _ _ _ _ _ _ _=>rfl,W.mg_of X G a_a6,F_az,F_az.b1 fun _ _ _ _ _ _ _=>rfl,W.mg_of X G a_az,F_aP,F_aP.b3 fun _ _ _ _ _ _ _ _ _=>rfl,W.mg_of X G a_aP,F_aA,F_aA.b1 fun _ _ _ _ _ _ _=>rfl,W.mg_of X G a_aA,F_law,F_law.b1 fun _ _ _ _ _ _ _=>rfl,W.mg_of X G a_law,W.mg_of X G aX_aJ,W.mg_of X G aX_ay,W.mg_of X G aX_aM,W.mg_of X G aX_aU,W.mg_of X G aX_aT,W.mg_of X G aX_aN,W.mg_of X G aX_aV,W.mg_of X G aX_a5,W.mg_of X G aX_a9,W.mg_of X G aX_aa,x_aM,⟨xg_BadSize.1,xg_BadSize.2.1,xg_BadSize.2.2.1,ogs,otk,xg_BadSize.2.2.2.1,xg_BadSize.2.2.2.2⟩,gu bb bm bt sb_aM,x_aU,⟨xg_BadBit.1,xg_BadBit.2.1,xg_BadBit.2.2.1,ogs,otk,xg_BadBit.2.2.2.1,xg_BadBit.2.2.2.2⟩,gu bb bm bt sb_aU,x_aT,⟨xg_NoCell.1,xg_NoCell.2.1,xg_NoCell.2.2.1,ogs,otk,xg_NoCell.2.2.2.1,xg_NoCell.2.2.2.2⟩,gu bb bm bt sb_aT,x_aN,⟨xg_NoLine.1,xg_NoLine.2.1,xg_NoLine.2.2.1,ogs,otk,xg_NoLine.2.2.2.1,xg_NoLine.2.2.2.2⟩,gu bb bm bt sb_aN,x_aV,⟨xg_NoStep.1,xg_NoStep.2.1,xg_NoStep.2.2.1,ogs,otk,xg_NoStep.2.2.2.1,xg_NoStep.2.2.2.2⟩,gu bb bm bt sb_aV,x_a5,⟨xg_Known.1,xg_Known.2.1,xg_Known.2.2.1,ogs,otk,xg_Known.2.2.2.1,xg_Known.2.2.2.2⟩,gu bb bm bt sb_a5,x_a9,⟨xg_NoFact.1,xg_NoFact.2.1,xg_NoFact.2.2.1,ogs,otk,xg_NoFact.2.2.2.1,xg_NoFact.2.2.2.2⟩,gu bb bm bt sb_a9,x_aa,⟨xg_BadText.1,xg_BadText.2.1,xg_BadText.2.2.1,ogs,otk,xg_BadText.2.2.2.1,xg_BadText.2.2.2.2⟩,gu bb bm bt sb_aa,kt_aa_aM,kt_aa_aU,kt_aa_ay,kt_aa_a5,kt_aa_aT,kt_aa_aN,kt_aa_aV,kt_aa_aa,kv_aa,⟨bg,br,ba⟩,nx_Clash_ring,⟨xg_Clash.1,xg_Clash.2.1,xg_Clash.2.2.1,ogs,otk,xg_Clash.2.2.2.1,xg_Clash.2.2.2.2⟩,gu bb bm bt sb_ay,W.mg_of X G v_LONGEST_SIDE,W.mg_of X G v_MOST_FIGURES,W.mg_none_of X G z_aY,W.mg_none_of X G z_int,W.mg_none_of X G z_bool,W.mg_none_of X G z_all,W.mg_none_of X G z_len,W.mg_none_of X G z_bd,W.mg_none_of X G z_list,W.mg_none_of X G z_a8,W.mg_none_of X G z_abs,W.mg_none_of X G z_sum,W.mg_none_of X G z_min,W.mg_none_of X G z_str,W.mg_none_of X G z_zip,W.mg_none_of X G z_aS⟩⟩
local macro_rules | `(tactic| walk_at "rd1") => `(tactic| first
  | ((with_reducible refine' Dt (v:=?kv) ?ke ?kh); (case ke=>exact rfl)) | (with_reducible refine Bu fun _ _=>?_) | (with_reducible refine C6 ?_) | (with_reducible refine c8 ?_) | (with_reducible refine Dr ?_) | (with_reducible refine Bs ?_) | (with_reducible refine Bh ?_) | (with_reducible refine Dk ?_) | (with_reducible refine Ef ?_) | (with_reducible refine zm ?_) | (with_reducible refine Bi ?_) | (with_reducible refine EZ ?_) | (with_reducible refine Ec ?_) | (with_reducible refine Eg ?_) | (with_reducible refine Bb ?_) | (with_reducible refine Bq ?_) | (with_reducible refine C5 ?_) | (with_reducible refine Ed ?_) | (with_reducible refine Dp ?_) | (with_reducible refine fF ?_) | (with_reducible refine D9 ?_) | (with_reducible refine EY ?_) | (with_reducible refine Df ?_) | (with_reducible refine tS ?_) | (with_reducible refine Dg ?_) | (with_reducible refine De ?_) | (with_reducible refine Dm ?_) | (with_reducible refine yO ?_) | (with_reducible refine Bc ?_) | (with_reducible refine Dn ?_) | (with_reducible refine Be ?_) | (with_reducible refine D8 ?_) | (with_reducible refine Bx ?_) | (with_reducible refine Bl ?_) | (with_reducible refine Bo ?_) | (with_reducible refine zp ?_) | (with_reducible refine za ?_) | (with_reducible refine vW ?_) | ((with_reducible refine' C7 (x:=?kv) ?ke ?kh); (case ke=>exact rfl)) | (with_reducible refine Dl ?_) | (with_reducible refine eY ?_) | (with_reducible refine lL ?_) | (with_reducible refine Bv ?_) | (with_reducible refine zq ?_) | (with_reducible refine Bd ?_) | (with_reducible refine Di ?_) | (with_reducible refine Bn ?_) | (with_reducible refine Bm ?_) | (with_reducible refine zk ?_) | (with_reducible refine Ds ?_) | (with_reducible refine yN ?_) | (with_reducible refine zg ?_) | (with_reducible refine zf ?_) | (with_reducible refine Ea ?_) | (with_reducible refine C8 ?_) | (with_reducible refine Ee ?_) | (with_reducible refine vX ?_) | (with_reducible refine Br ?_) | (with_reducible refine yX ?_) | (with_reducible refine yY ?_) | (with_reducible refine Eb ?_) | (with_reducible refine Bg ?_) | (with_reducible refine Dd ?_) | (with_reducible refine vV ?_) | (with_reducible refine yV ?_) | (with_reducible refine yU ?_) | (with_reducible refine Dq ?_) | (with_reducible refine Bf ?_) | (with_reducible refine yS ?_) | (with_reducible refine yQ ?_) | (with_reducible refine yW ?_) | (with_reducible refine C4 ?_) | (with_reducible refine Dj ?_) | (with_reducible refine Bt ?_) | (with_reducible refine y6 ?_) | (with_reducible refine zb ?_) | (with_reducible refine mw ?_) | (with_reducible refine EO ?_) | (with_reducible refine DW ?_) | ((with_reducible refine' Dc (r:=?kr) ?ke ?kh); (case ke=>assumption)) | (dsimp only))
local macro_rules | `(tactic| walk_at "") => `(tactic| repeat walk_at "rd1")
local macro_rules | `(tactic| walk_at "l") => `(tactic| ((intro vs H Q E h); (iterate 40 (try (obtain ⟨_, h⟩ := h))); (all_goals (subst_vars; rfl))))
local macro_rules | `(tactic| symm at $h:ident) => `(tactic| simp only [List.mem_cons,List.not_mem_nil,or_false] at $h:ident)
local macro_rules | `(tactic| left) => `(tactic| walk_at "")
local macro_rules | `(tactic| apply $e) => `(tactic| (walk_at ""; refine $e))
section
variable {P:Program} {w:World} {K:W.Frag} {mg:Str→Option Value} {base:Heap} {t:Ad}
noncomputable def ml (i:Int):Bool:=decide (0≤i)&&decide (i<2)
def sp_aE:Sp:=fun vs H Q _=>∃ i,vs=[.int i]∧Q (.bl true) H
theorem ok_aE (T:Txt K mg t):aU P w K mg base CX0 1 t.f_aE t.d_aE ["value"] sp_aE:=by
 refine T.F_aE.ok sc_aE (by walk_at "l") (fun _ _ _ s H vs Q E hr h=>?_)
 ·obtain ⟨i,rfl,k⟩:=h;refine ⟨_,(ak (aJ (kj (aC (bH K rfl) rfl T.no_aY (by rfl) (aa (pv 0) (aa (cz (v:=.ty "int") rfl T.no_int (by rfl:bootBuiltins "int"=some (.type "int")) rfl) ag))) (km (CQ (aC (bH K rfl) rfl T.no_aY (by rfl) (aa (pv 0) (aa (cz (v:=.ty "bool") rfl T.no_bool (by rfl:bootBuiltins "bool"=some (.type "bool")) rfl) ag)))))))),?_⟩;apply de (.int i) CG ?_;apply de (.int i) CF ?_;left;exact k
def sp_av:Sp:=fun vs H Q _=>∃ i b,vs=[.int i,.int b]∧Q (.bl (decide (0≤i)&&decide (i<b))) H
theorem ok_av (T:Txt K mg t):aU P w K mg base CX0 2 t.f_av t.d_av ["value","bound"] sp_av:=by
 refine T.F_av.ok sc_av (by walk_at "l") (fun _ _ _ s H vs Q E hr h=>?_)
 ·obtain ⟨i,b,rfl,k⟩:=h;refine ⟨_,(ak (aJ (kj (aB (ok_aE T) (rmo hr) rfl T.mg_aE T.F_aE.kp T.b_aE .nil bo (aa (pv 0) ag)) (km (yf fW gZ ae (pv 0) (pv 1)))))),?_⟩;apply ⟨i,rfl,?_⟩;apply i8 (fun h0=>?_) (fun h0=>?_)
  ·left;rw [h0] at k;exact k
  ·rw [Bool.not_eq_true] at h0;rw [h0] at k;exact k
def sp_ba:Sp:=fun vs H Q _=>∃ i,vs=[.int i]∧Q (.bl (ml i)) H
theorem ok_ba (T:Txt K mg t):aU P w K mg base CX0 3 t.f_ba t.d_ba ["value"] sp_ba:=by
 refine T.F_ba.ok sc_ba (by walk_at "l") (fun _ _ _ s H vs Q E hr h=>?_)
 ·obtain ⟨i,rfl,k⟩:=h;refine ⟨_,(ak (aJ (aB (ok_av T) (rmo hr) rfl T.mg_av T.F_av.kp T.b_av .nil bo (aa (pv 0) (aa ae ag))))),?_⟩;left;exact ⟨i,2,rfl,k⟩
noncomputable def cu (n:Int):Bool:=decide (0<n)&&decide (n<41)
def sp_aX:Sp:=fun vs H Q _=>∃ i,vs=[.int i]∧Q (.bl (cu i)) H
theorem ok_aX (T:Txt K mg t):aU P w K mg base CX0 3 t.f_aX t.d_aX ["count"] sp_aX:=by
  refine T.F_aX.ok sc_aX (fun vs H Q E h=>?_) (fun cdv A outer s H vs Q E hr h=>?_)
  · obtain ⟨i,rfl,_⟩:=h; rfl
  · obtain ⟨i,rfl,k⟩:=h
    refine ⟨_,(ak (aJ (kj (aB (ok_av T) (rmo hr) rfl T.mg_av T.F_av.kp T.b_av .nil bo (aa (pv 0) (aa (av bf (dC (v:=.int 40) rfl T.mg_LONGEST_SIDE ⟨_,rfl⟩) ae) ag))) (km (iV mJ (pv 0) ae))))),?_⟩;apply ⟨i,_,rfl,?_⟩;apply i8 (fun h0=>?_) (fun h0=>?_)
    · left
      have e:cu i=decide (0<i):=by
        rw [Bool.and_eq_true,decide_eq_true_eq,decide_eq_true_eq] at h0;unfold cu;rw [aM (by omega:i<41),Bool.and_true]
      rw [e] at k;exact k
    · have e:cu i=false:=by
        rw [Bool.and_eq_true,decide_eq_true_eq,decide_eq_true_eq] at h0;unfold cu;by_cases hi:0<i
        · rw [aO (by omega:¬ i<41),Bool.and_false]
        · rw [aO hi,Bool.false_and]
      rw [e] at k;exact k
inductive Fct where
 | cell (x y c:Int)
 | line (col:Bool) (k s:Int) (b:Bool)
 deriving DecidableEq
noncomputable def wyS (col:Bool):Str:=if col=true then "col" else "row"
noncomputable def stS (col:Bool) (k:Int):List Key:=if col=true then sx k else sy k
noncomputable def Fct.vs:Fct→List V
 | .cell x y c=>[.str "cell",.int x,.int y,.int c]
 | .line col k s b=>[.str (wyS col),.int k,.int s,.bl b]
noncomputable def Fct.tie:Fct→Fm.Tie
 | .cell x y c=>(sx x,sy y,(c+x*y)%2)
 | .line col k s b=>(stS col k,stS col (k+1),if b=true then (s+1)%2 else s%2)
def Fct.inW (wd ht:Int):Fct→Prop
 | .cell x y c=>(0≤x∧x<wd)∧(0≤y∧y<ht)∧(c=0∨c=1)
 | .line true k s _=>(0≤k∧k<wd - 1)∧0≤s∧s<ht
 | .line false k s _=>(0≤k∧k<ht - 1)∧0≤s∧s<wd
def iK (H:Hp) (T a b:Addr) (s u:List Key):Prop:=H T=some (.tup [.ref a,.ref b])∧H a=some (.tup (s.map kV))∧H b=some (.tup (u.map kV))
theorem iK.mono {H H':Hp} {T a b:Addr} {s u:List Key} (h:iK H T a b s u) (m:ao H H'):iK H' T a b s u:=⟨m _ _ h.1,m _ _ h.2.1,m _ _ h.2.2⟩
theorem DR:¬ (("col":Str)="cell"):=by decide +kernel
theorem Eh:¬ (("row":Str)="cell"):=by decide +kernel
theorem zu:¬ (("row":Str)="col"):=by decide +kernel
theorem lT (col:Bool):decide (wyS col="cell")=false:=by cases col<;>exact aO (by decide +kernel)
theorem uo (col:Bool):decide (wyS col="col")=col:=by cases col; exact aO zu; exact aM rfl
def sp_ax:Sp:=fun vs H Q _=>∃ x y,vs=[.int x,.int y]∧∀ T a b H',ao H H'→iK H' T a b (sx x) (sy y)→Q (.ref T) H'
theorem ok_ax (T:Txt K mg t):aU P w K mg base CX0 1 t.f_ax t.d_ax ["x","y"] sp_ax:=by
 refine T.F_ax.ok sc_ax (by walk_at "l") (fun _ _ _ s H vs Q E hr h=>?_)
 ·obtain ⟨x,y,rfl,k⟩:=h;refine ⟨_,(ak (aJ (aQ (aa (aQ (aa aj (aa (pv 0) ag))) (aa (aQ (aa aj (aa (pv 1) ag))) ag))))),?_⟩;apply nwT fun a H1 sa na ea=>?_;apply nwT fun b H2 sb nb eb=>?_;apply nwT fun c H3 sc nc ec=>?_;left;exact k c a b H3 ((sa.trans sb).trans sc) ⟨ec,sc _ _ (sb _ _ ea),sc _ _ eb⟩
def sp_aw:Sp:=fun vs H Q _=>∃ col k,vs=[.str (wyS col),.int k]∧∀ T a b H',ao H H'→iK H' T a b (stS col k) (stS col (k+1))→Q (.ref T) H'
theorem ok_aw (T:Txt K mg t):aU P w K mg base CX0 1 t.f_aw t.d_aw ["way","k"] sp_aw:=by
 refine T.F_aw.ok sc_aw (by walk_at "l") (fun _ _ _ s H vs Q E hr h=>?_)
 ·obtain ⟨col,k,rfl,q⟩:=h;refine ⟨_,(aK (aF 2 sc_aw.nd (fX (aT bU (pv 0) aj) aj aj)) (ak (aJ (aQ (aa (aQ (aa (pv 2) (aa (pv 1) ag))) (aa (aQ (aa (pv 2) (aa (av bf (pv 1) ae) ag))) ag)))))),?_⟩;left;rw [uo]
  cases col with
  | true =>
   apply nwT fun a H1 sa na ea=>?_;apply nwT fun b H2 sb nb eb=>?_;apply nwT fun c H3 sc nc ec=>?_;left;exact q c a b H3 ((sa.trans sb).trans sc) ⟨ec,sc _ _ (sb _ _ ea),sc _ _ eb⟩
  | false =>
   apply nwT fun a H1 sa na ea=>?_;apply nwT fun b H2 sb nb eb=>?_;apply nwT fun c H3 sc nc ec=>?_;left;exact q c a b H3 ((sa.trans sb).trans sc) ⟨ec,sc _ _ (sb _ _ ea),sc _ _ eb⟩
def sp_ao:Sp:=fun vs H Q _=>∃ (p:Addr) (f:Fct),vs=[.ref p]∧H p=some (.tup f.vs)∧∀ T a b H',ao H H'→iK H' T a b f.tie.1 f.tie.2.1→Q (.ref T) H'
theorem ok_ao (T:Txt K mg t):aU P w K mg base CX0 2 t.f_ao t.d_ao ["fact"] sp_ao:=by
 refine T.F_ao.ok sc_ao (by walk_at "l") (fun _ _ _ s H vs Q E hr h=>?_)
 ·obtain ⟨p,f,rfl,hp,k⟩:=h;refine ⟨_,(aK (aW (aT bU (au (ay K rfl) (pv 0) ae) aj) (ak (aJ (aB (ok_ax T) (rmo hr) rfl T.mg_ax T.F_ax.kp T.b_ax .nil bo (aa (au (ay K rfl) (pv 0) ae) (aa (au (ay K rfl) (pv 0) ae) ag))))) aI) (ak (aJ (aB (ok_aw T) (rmo hr) rfl T.mg_aw T.F_aw.kp T.b_aw .nil bo (aa (au (ay K rfl) (pv 0) ae) (aa (au (ay K rfl) (pv 0) ae) ag)))))),?_⟩
  cases f with
  | cell x y c =>
   apply aA (SqT.of hp) (v:=.str "cell") rfl ?_;left;rw [aM (rfl:("cell":Str)="cell")];apply aA (SqT.of hp) (v:=.int x) rfl ?_;apply aA (SqT.of hp) (v:=.int y) rfl ?_;left;exact ⟨x,y,rfl,k⟩
  | line col kk s b =>
   apply aA (SqT.of hp) (v:=.str (wyS col)) rfl ?_;left;rw [lT];apply aA (SqT.of hp) (v:=.str (wyS col)) rfl ?_;apply aA (SqT.of hp) (v:=.int kk) rfl ?_;left;exact ⟨col,kk,rfl,k⟩
def sp_ap:Sp:=fun vs H Q _=>∃ (p:Addr) (f:Fct) (wd ht:Int),vs=[.ref p]∧H p=some (.tup f.vs)∧f.inW wd ht∧wd≤40∧ht≤40∧Q (.int f.tie.2.2) H
theorem ok_ap (T:Txt K mg t):aU P w K mg base CX0 1 t.f_ap t.d_ap ["fact"] sp_ap:=by
 refine T.F_ap.ok sc_ap (by walk_at "l") (fun _ _ _ s H vs Q E hr h=>?_)
 ·obtain ⟨p,f,wd,ht,rfl,hp,hi,lw,lh,k⟩:=h;refine ⟨_,(aK (aW (aT bU (au (ay K rfl) (pv 0) ae) aj) (ak (aJ (av aR (av bf (au (ay K rfl) (pv 0) ae) (av dP (au (ay K rfl) (pv 0) ae) (au (ay K rfl) (pv 0) ae))) ae))) aI) (ak (aJ (fX (cF (au (ay K rfl) (pv 0) ae)) (av aR (av bf (au (ay K rfl) (pv 0) ae) ae) ae) (av aR (au (ay K rfl) (pv 0) ae) ae))))),?_⟩
  cases f with
  | cell x y c =>
   obtain ⟨⟨x0,x1⟩,⟨y0,y1⟩,_⟩:=hi;apply aA (SqT.of hp) (v:=.str "cell") rfl ?_;left;rw [aM (rfl:("cell":Str)="cell")];apply aA (SqT.of hp) (v:=.int c) rfl ?_;apply aA (SqT.of hp) (v:=.int x) rfl ?_;apply aA (SqT.of hp) (v:=.int y) rfl ?_;apply bB (.inl ⟨by omega,by omega⟩) ?_;apply bB (by decide) ?_;left;exact k
  | line col kk s b =>
   apply aA (SqT.of hp) (v:=.str (wyS col)) rfl ?_;left;rw [lT];apply aA (SqT.of hp) (v:=.bl b) rfl ?_;left
   cases b with
   | true =>
    apply aA (SqT.of hp) (v:=.int s) rfl ?_;apply bB (by decide) ?_;left;exact k
   | false =>
    apply aA (SqT.of hp) (v:=.int s) rfl ?_;apply bB (by decide) ?_;left;exact k
def NoT (H:Hp) (S:List Addr):Prop:=∀ x∈S,∀ xs,H x≠some (.tup xs)
theorem bu {S:List Addr} {H H':Hp} (m:aV S H H') (n:NoT H S) {b:Addr} {xs:List V} (e:H b=some (.tup xs)):H' b=some (.tup xs):=m b _ e fun z=>n b z xs e
noncomputable def bD (n m:Nat):List (List Key):=(List.range n).map (fun i=>sx ((i:Nat):Int))++(List.range m).map fun i=>sy ((i:Nat):Int)
theorem tu {n m:Nat} {i:Int} (h0:0≤i) (h1:i<n):sx i∈bD n m:=List.mem_append_left _ (List.mem_map.mpr ⟨i.toNat,List.mem_range.mpr (by omega),by rw [show ((i.toNat:Nat):Int)=i by omega]⟩)
theorem tD {n m:Nat} {i:Int} (h0:0≤i) (h1:i<m):sy i∈bD n m:=List.mem_append_right _ (List.mem_map.mpr ⟨i.toNat,List.mem_range.mpr (by omega),by rw [show ((i.toNat:Nat):Int)=i by omega]⟩)
theorem ir {n m:Nat} {s:List Key} (h:s∈bD n m):(∃ i:Nat,i<n∧s=sx i)∨∃ i:Nat,i<m∧s=sy i:=by
 rcases List.mem_append.mp h with h | h<;>obtain ⟨i,hi,rfl⟩:=List.mem_map.mp h<;>have hi:=List.mem_range.mp hi
 ·exact .inl ⟨i,hi,rfl⟩
 ·exact .inr ⟨i,hi,rfl⟩
theorem iZ {n m:Nat} {s:List Key} (h:s∈bD n m):ju s:=by
 rcases ir h with ⟨i,_,e⟩ | ⟨i,_,e⟩
 ·exact ⟨i,.inl e⟩
 ·exact ⟨i,.inr e⟩
theorem mF {f:Nat→List Key} (hf:∀ i j,f i=f j→i=j) (n:Nat):((List.range n).map f).Nodup:=List.pairwise_map.mpr (List.nodup_range.imp fun h z=>h (hf _ _ z))
theorem iY (n m:Nat):(bD n m).Nodup:=by
 refine List.nodup_append.mpr ⟨mF (fun i j h=>by have:=zO h; omega) n,mF (fun i j h=>by have:=zQ h; omega) m,fun a ha b hb e=>?_⟩;obtain ⟨i,_,rfl⟩:=List.mem_map.mp ha;obtain ⟨j,_,rfl⟩:=List.mem_map.mp hb;exact zP e
theorem eB (n m:Nat):(bD n m).length=n+m:=by unfold bD; rw [List.length_append,List.length_map,List.length_map,List.length_range,List.length_range]
theorem Fct.inD {f:Fct} {n m:Nat} (h:f.inW n m):f.tie.1∈bD n m∧f.tie.2.1∈bD n m:=by
 cases f with
 | cell x y c=>obtain ⟨⟨x0,x1⟩,⟨y0,y1⟩,_⟩:=h; exact ⟨tu x0 x1,tD y0 y1⟩
 | line col k s b =>
  cases col with
  | true => obtain ⟨⟨k0, k1⟩, _⟩ := h; exact ⟨tu k0 (by omega), tu (by omega) (by omega)⟩
  | false => obtain ⟨⟨k0, k1⟩, _⟩ := h; exact ⟨tD k0 (by omega), tD (by omega) (by omega)⟩
def GE (H:Hp) (kvs:List (List Key×V)) (G:List Key→List Key×Int) (s:List Key):Prop:=∃ a b,a8 kvs s=some (.ref a)∧H a=some (.tup [.ref b,.int (G s).2])∧H b=some (.tup ((G s).1.map kV))
structure cV (H:Hp) (d:Addr) (D:List (List Key)) (G:List Key→List Key×Int):Prop where
 ob:∃ kvs,H d=some (.dT kvs)∧kvs.map (·.1)=D∧∀ s∈D,GE H kvs G s
 st:∀ s∈D,ju (G s).1
theorem cV.but {S:List Addr} {H H':Hp} {d:Addr} {D:List (List Key)} {G:List Key→List Key×Int} (h:cV H d D G) (m:aV S H H') (n:NoT H S) (hd:d∉S):cV H' d D G:=by
 obtain ⟨⟨kvs,e,hk,hv⟩,st⟩:=h;refine ⟨⟨kvs,m _ _ e hd,hk,fun s hs=>?_⟩,st⟩;obtain ⟨a,b,h1,h2,h3⟩:=hv s hs;exact ⟨a,b,h1,bu m n h2,bu m n h3⟩
theorem cV.mono {H H':Hp} {d:Addr} {D:List (List Key)} {G:List Key→List Key×Int} (h:cV H d D G) (m:ao H H'):cV H' d D G:=h.but (m.butL []) (fun x hx=>nomatch hx) (fun z=>nomatch z)
theorem cV.congr {H:Hp} {d:Addr} {D:List (List Key)} {G G':List Key→List Key×Int} (h:cV H d D G) (e:∀ s∈D,G' s=G s):cV H d D G':=by
 obtain ⟨⟨kvs,e1,hk,hv⟩,st⟩:=h;refine ⟨⟨kvs,e1,hk,fun s hs=>?_⟩,fun s hs=>by rw [e s hs]; exact st s hs⟩;unfold GE;rw [e s hs]; exact hv s hs
theorem pG {H:Hp} {d a b:Addr} {D:List (List Key)} {G:List Key→List Key×Int} {kvs:List (List Key×V)} {s:List Key} (e:H d=some (.dT kvs)) (keys:(bO kvs s (.ref a)).map (·.1)=D) (hv:∀ u∈D,u≠s→GE H kvs G u)
  (ea:H a=some (.tup [.ref b,.int (G s).2])) (eb:H b=some (.tup ((G s).1.map kV))) (st:∀ u∈D,ju (G u).1):cV (upd H d (.dT (bO kvs s (.ref a)))) d D G:=by
 have nt:∀ c xs,H c=some (.tup xs)→upd H d (.dT (bO kvs s (.ref a))) c=some (.tup xs):=fun c xs hc=>by rw [aw (fw hc e (fun z=>nomatch z))]; exact hc
 refine ⟨⟨_,ai,keys,fun u hu=>?_⟩,st⟩;by_cases hus:u=s
 ·subst hus;exact ⟨a,b,by rw [cK,if_pos rfl],nt _ _ ea,nt _ _ eb⟩
 ·obtain ⟨a',b',h1,h2,h3⟩:=hv u hu hus;exact ⟨a',b',by rw [cK,if_neg hus]; exact h1,nt _ _ h2,nt _ _ h3⟩
def sp_aq:Sp:=fun vs H Q _=>∃ n m:Nat,vs=[.int n,.int m]∧n≤40∧m≤40∧∀ d H',ao H H'→H d=none→cV H' d (bD n m) Fm.lone→Q (.ref d) H'
theorem ok_aq (T:Txt K mg t):aU P w K mg base CX0 1 t.f_aq t.d_aq ["wide","tall"] sp_aq:=by
 refine T.F_aq.ok sc_aq (by walk_at "l") (fun _ _ _ s H vs Q E hr h=>?_)
 ·obtain ⟨n,m,rfl,ln,lm,k⟩:=h;refine aH (aF 2 sc_aq.nd rB) fun _ _=>aH (dR PassesOwn.never rfl (dQ rfl T.no_a8 (aa (pv 0) ag)) (aP (i:=3) sc_aq.nd rfl (Or.inl rfl)) (ak (gB (b0 hr) (pv 2) (aQ (aa aj (aa (pv 3) ag))) (aQ (aa (aQ (aa aj (aa (pv 3) ag))) (aa ae ag))) rfl))) fun _ _=>aH (dR PassesOwn.never rfl (dQ rfl T.no_a8 (aa (pv 1) ag)) (aP (i:=4) sc_aq.nd rfl (Or.inl rfl)) (ak (gB (b0 hr) (pv 2) (aQ (aa aj (aa (pv 4) ag))) (aQ (aa (aQ (aa aj (aa (pv 4) ag))) (aa ae ag))) rfl))) fun _ _=>cS (aJ (pv 2)) fun _ _=>?_;apply fun d nd=>?_;have s0:=ao.new (o:=HO.dT []) nd;have e0:cV (upd H d (HO.dT [])) d (bD 0 0) Fm.lone:=⟨⟨[],ai,rfl,fun s hs=>nomatch hs⟩,fun s hs=>nomatch hs⟩
  generalize upd H d (HO.dT [])=H0 at s0 e0 ⊢;apply ⟨n,rfl,by omega,by omega,?_⟩;rw [Int.toNat_natCast];refine eW (fun i σ' H'=>∃ o3:Option V,σ'=[some (.int n),some (.int m),some (.ref d),o3,none]∧ao H H'∧cV H' d (bD i 0) Fm.lone) ⟨none,rfl,s0,e0⟩ ?_ ?_
  ·rintro i σ' H1 hi ⟨o3,rfl,s1,g1⟩;rw [Int.zero_add];apply nwT fun b H2 sb nb eb=>?_;apply nwT fun a H3 sa na ea=>?_;apply nwT fun c H4 sc nc ec=>?_;left;have g4:=((g1.mono sb).mono sa).mono sc;have s4:=((s1.trans sb).trans sa).trans sc;obtain ⟨⟨kvs,e4,hk,hv⟩,st⟩:=id g4;have lk:kvs.length=i:=by have:=congrArg List.length hk; rwa [List.length_map,eB,Nat.add_zero] at this
   have nn:sx ((i:Nat):Int)∉bD i 0:=fun z=>by
    rcases ir z with ⟨j,hj,e⟩ | ⟨j,hj,e⟩
    ·have:=zO e; omega
    ·omega
   have ek:bD (i+1) 0=bD i 0++[sx ((i:Nat):Int)]:=by unfold bD; rw [List.range_succ,List.map_append,List.range_zero,List.map_nil,List.append_nil,List.append_nil]; rfl
   refine ⟨d,_,rfl,jt.t (k:=sx ((i:Nat):Int)) e4 ec (by rw [lk]; exact aZ (by omega)),?_⟩;refine ⟨_,rfl,s4.later nd,pG e4 ?_ (fun u hu hne=>?_) (sc _ _ ea) (sc _ _ (sa _ _ eb)) fun u hu=>?_⟩
   ·rw [fY _ (iG (by rw [hk]; exact nn)),List.map_append,hk,ek]; rfl
   ·rw [ek] at hu;rcases List.mem_append.mp hu with hu | hu
    ·exact hv u hu
    ·exact absurd (List.mem_singleton.mp hu) hne
   ·exact iZ hu
  ·rintro σ' H1 ⟨o3,rfl,s1,g1⟩;apply ⟨m,rfl,by omega,by omega,?_⟩;rw [Int.toNat_natCast];refine eW (fun i σ' H'=>∃ o4:Option V,σ'=[some (.int n),some (.int m),some (.ref d),o3,o4]∧ao H H'∧cV H' d (bD n i) Fm.lone) ⟨none,rfl,s1,g1⟩ ?_ ?_
   ·rintro i σ' H1 hi ⟨o4,rfl,s1,g1⟩;rw [Int.zero_add];apply nwT fun b H2 sb nb eb=>?_;apply nwT fun a H3 sa na ea=>?_;apply nwT fun c H4 sc nc ec=>?_;left;have g4:=((g1.mono sb).mono sa).mono sc;have s4:=((s1.trans sb).trans sa).trans sc;obtain ⟨⟨kvs,e4,hk,hv⟩,st⟩:=id g4;have lk:kvs.length=n+i:=by have:=congrArg List.length hk; rwa [List.length_map,eB] at this
    have nn:sy ((i:Nat):Int)∉bD n i:=fun z=>by
     rcases ir z with ⟨j,hj,e⟩ | ⟨j,hj,e⟩
     ·exact zP e.symm
     ·have:=zQ e; omega
    have ek:bD n (i+1)=bD n i++[sy ((i:Nat):Int)]:=by unfold bD; rw [List.range_succ,List.map_append,← List.append_assoc]; rfl
    refine ⟨d,_,rfl,jt.t (k:=sy ((i:Nat):Int)) e4 ec (by rw [lk]; exact aZ (by omega)),?_⟩;refine ⟨_,rfl,s4.later nd,pG e4 ?_ (fun u hu hne=>?_) (sc _ _ ea) (sc _ _ (sa _ _ eb)) fun u hu=>?_⟩
    ·rw [fY _ (iG (by rw [hk]; exact nn)),List.map_append,hk,ek]; rfl
    ·rw [ek] at hu;rcases List.mem_append.mp hu with hu | hu
     ·exact hv u hu
     ·exact absurd (List.mem_singleton.mp hu) hne
    ·exact iZ hu
   ·rintro σ' H1 ⟨o4,rfl,s1,g1⟩;left;exact k d H1 s1 nd g1
noncomputable def wtB (G:List Key→List Key×Int) (s u:List Key):V:=if (G s).1=(G u).1 then .int (((G s).2+(G u).2)%2) else .non
def sp_ai:Sp:=fun vs H Q _=>∃ (d T a b:Addr) (D:List (List Key)) (G:List Key→List Key×Int) (s u:List Key),vs=[.ref d,.ref T]∧cV H d D G∧iK H T a b s u∧s∈D∧u∈D∧Q (wtB G s u) H
theorem ok_ai (T:Txt K mg t):aU P w K mg base CX0 1 t.f_ai t.d_ai ["groups","strips"] sp_ai:=by
 refine T.F_ai.ok sc_ai (by walk_at "l") (fun _ _ _ s H vs Q E hr h=>?_)
 ·obtain ⟨d,T,a,b,D,G,s,u,rfl,⟨⟨kvs,ed,hk,hv⟩,st⟩,⟨eT,ea,eb⟩,hs,hu,k⟩:=h;obtain ⟨a1,b1,h1,h2,h3⟩:=hv s hs;obtain ⟨a2,b2,g1,g2,g3⟩:=hv u hu;refine aH (aF 2 sc_ai.nd (dB (b0 hr) (pv 0) (au (ay K rfl) (pv 1) ae) (fun _ _=>rfl))) fun _ _=>aH (aF 3 sc_ai.nd (dB (b0 hr) (pv 0) (au (ay K rfl) (pv 1) ae) (fun _ _=>rfl))) fun _ _=>cS (aJ (fX (aT (pQ hr.units) (au (ay K rfl) (pv 2) ae) (au (ay K rfl) (pv 3) ae)) (av aR (av bf (au (ay K rfl) (pv 2) ae) (au (ay K rfl) (pv 3) ae)) ae) ja)) fun _ _=>?_;apply aA (SqT.of eT) (v:=.ref a) rfl ?_;apply cX ed ea h1 ?_;apply aA (SqT.of eT) (v:=.ref b) rfl ?_;apply cX ed eb g1 ?_;apply aA (SqT.of h2) (v:=.ref b1) rfl ?_;apply aA (SqT.of g2) (v:=.ref b2) rfl ?_;apply tR (st s hs).ok (st u hu).ok h3 g3 ?_;unfold wtB at k;by_cases c:(G s).1=(G u).1
  ·rw [if_pos c] at k;rw [aM c];apply aA (SqT.of h2) (v:=.int (G s).2) rfl ?_;apply aA (SqT.of g2) (v:=.int (G u).2) rfl ?_;apply bB (by decide) ?_;left;exact k
  ·rw [if_neg c] at k;rw [aO c];left;exact k
instance memDec (a:List Key) (l:List (List Key)):Decidable (a∈l):=decidable_of_iff ((l.any fun x=>decide (x=a))=true) (by
 rw [List.any_eq_true];exact ⟨fun ⟨x,hx,e⟩=>of_decide_eq_true e ▸ hx,fun h=>⟨a,h,aM rfl⟩⟩)
theorem Ag {D:List (List Key)} {i:Nat} (hi:i<D.length) {v:List Key}:v∈D.take (i+1)↔v∈D.take i∨v=D[i]:=by
 rw [List.take_add_one,List.getElem?_eq_getElem hi,List.mem_append];simp
theorem Ah {D:List (List Key)} (nd:D.Nodup) {i:Nat} (hi:i<D.length):D[i]∉D.take i:=fun h=>by
 obtain ⟨j,hj,e⟩:=List.mem_iff_getElem.mp h;rw [List.length_take] at hj;rw [List.getElem_take] at e;have:=(List.getElem_inj nd).mp e
 omega
def Dw:Sp:=fun vs H Q _=>∃ (d T a b:Addr) (D:List (List Key)) (G:List Key→List Key×Int) (s u:List Key) (wt:Int),vs=[.ref d,.ref T,.int wt]∧cV H d D G∧D.Nodup∧D.length≤80∧iK H T a b s u∧s∈D∧u∈D ∧
 ∀ H',aV [d] H H'→cV H' d D (Fm.gN G (s,u,wt))→Q .non H'
theorem x6 (T:Txt K mg t):aU P w K mg base CX0 1 t.f_tie t.d_tie ["groups","strips","weight"] Dw:=by
 refine T.F_tie.ok kK (by walk_at "l") (fun _ _ _ s H vs Q E hr h=>?_)
 ·obtain ⟨d,TT,a,b,D,G,s,u,wt,rfl,gr,nd,ld,⟨eT,ea,eb⟩,hs,hu,k⟩:=h;obtain ⟨⟨kvs,ed,hk,hv⟩,st⟩:=id gr;obtain ⟨a1,b1,h1,h2,h3⟩:=hv s hs;obtain ⟨a2,b2,g1,g2,g3⟩:=hv u hu;refine aH (aF 3 kK.nd (dB (b0 hr) (pv 0) (au (ay K rfl) (pv 1) ae) (fun _ _=>rfl))) fun _ _=>aH (aF 4 kK.nd (dB (b0 hr) (pv 0) (au (ay K rfl) (pv 1) ae) (fun _ _=>rfl))) fun _ _=>aH (aW (aT (pQ hr.units) (au (ay K rfl) (pv 3) ae) (au (ay K rfl) (pv 4) ae)) (ak uR) aI) fun _ _=>aH (aF 5 kK.nd (av aR (av bf (av bf (au (ay K rfl) (pv 3) ae) (au (ay K rfl) (pv 4) ae)) (pv 2)) ae)) fun _ _=>cS (dR PassesOwn.never rfl (cO (dn (wL rfl) rfl T.no_list (by rfl) (aa (pv 0) ag))) (aP (i:=6) kK.nd rfl (Or.inl rfl)) (aK (aF 7 kK.nd (dB (b0 hr) (pv 0) (pv 6) (fun _ _=>rfl))) (ak (aW (aT (pQ hr.units) (au (ay K rfl) (pv 7) ae) (au (ay K rfl) (pv 4) ae)) (ak (gB (b0 hr) (pv 0) (pv 6) (aQ (aa (au (ay K rfl) (pv 3) ae) (aa (av aR (av bf (au (ay K rfl) (pv 7) ae) (pv 5)) ae) ag))) rfl)) aI)))) fun _ _=>?_;apply aA (SqT.of eT) (v:=.ref a) rfl ?_;apply cX ed ea h1 ?_;apply aA (SqT.of eT) (v:=.ref b) rfl ?_;apply cX ed eb g1 ?_;apply aA (SqT.of h2) (v:=.ref b1) rfl ?_;apply aA (SqT.of g2) (v:=.ref b2) rfl ?_;apply tR (st s hs).ok (st u hu).ok h3 g3 ?_;by_cases c:(G s).1=(G u).1
  ·rw [aM c];left;exact k H (aV.refl _ _) (gr.congr fun v _=>if_pos c)
  ·rw [aO c];have tg:∀ v,Fm.gN G (s,u,wt) v=if (G v).1=(G u).1 then ((G s).1,((G v).2+((G s).2+(G u).2+wt)%2)%2) else G v:=fun v=>if_neg c
   apply aA (SqT.of h2) (v:=.int (G s).2) rfl ?_;apply aA (SqT.of g2) (v:=.int (G u).2) rfl ?_;apply bB (by decide) ?_;generalize hch:((G s).2+(G u).2+wt)%2=ch at tg ⊢;apply zc ed fun l ys nl pw=>?_;rw [hk] at pw;have s1:=ao.new (o:=HO.lst ys) nl;have el:=ai (H:=H) (a:=l) (o:=HO.lst ys);generalize upd H l (HO.lst ys)=H1 at s1 el ⊢;have ldn:l≠d:=fw el (s1 _ _ ed) (fun z=>nomatch z);have noT:NoT H1 [d]:=fun x hx xs=>by rw [List.mem_singleton.mp hx,s1 _ _ ed]; intro z; cases z
   apply ⟨⟨_,SqL.of el⟩,?_⟩;refine dN (K:=K) (a:=l) (xs:=ys) (fun i σ' H'=>∃ (o6 o7:Option V),σ'=[some (.ref d),some (.ref TT),some (.int wt),some (.ref a1),some (.ref a2),some (.int ch),o6,o7]∧aV [d] H1 H'∧cV H' d D (fun v=>if v∈D.take i then Fm.gN G (s,u,wt) v else G v))
    ⟨none,none,rfl,aV.refl _ _,(gr.mono s1).congr fun v _=>by rw [List.take_zero,if_neg (fun z=>nomatch z)]⟩ (fun i σ' H' _ ⟨_,_,_,m,_⟩=>SqL.of (m _ _ el (by rw [List.mem_singleton]; exact ldn))) ?_ ?_
   ·rintro i v σ' H2 hvi ⟨o6,o7,rfl,m2,gi⟩;have hi:i<D.length:=by rw [← pw.1]; exact (List.getElem?_eq_some_iff.mp hvi).1
    obtain ⟨bk,rfl,ebk⟩:=pw.2 i v _ hvi (List.getElem?_eq_getElem hi);have tk:=Ah nd hi;have dm:D[i]∈D:=List.getElem_mem hi;have tm:∀ v,v∈D.take (i+1)↔v∈D.take i∨v=D[i]:=fun v=>Ag hi;generalize D[i]=x at tk dm tm ebk;have up:∀ b xs,H b=some (.tup xs)→H2 b=some (.tup xs):=fun b xs e=>bu m2 noT (s1 _ _ e);obtain ⟨⟨kv2,ed2,hk2,hv2⟩,st2⟩:=id gi;obtain ⟨ax,bx,x1,x2,x3⟩:=hv2 x dm;have sx2:=st2 x dm;dsimp only at x2 x3 sx2;rw [if_neg tk] at x2 x3 sx2;apply cX ed2 (up _ _ ebk) x1 ?_;apply aA (SqT.of x2) (v:=.ref bx) rfl ?_;apply aA (SqT.of (up _ _ g2)) (v:=.ref b2) rfl ?_;apply tR sx2.ok (st u hu).ok x3 (up _ _ g3) ?_;by_cases cx:(G x).1=(G u).1
    ·rw [aM cx];apply aA (SqT.of (up _ _ h2)) (v:=.ref b1) rfl ?_;apply aA (SqT.of x2) (v:=.int (G x).2) rfl ?_;apply bB (by decide) ?_;apply nwT fun y H3 sy ny ey=>?_;left;have tx:Fm.gN G (s,u,wt) x=((G s).1,((G x).2+ch)%2):=by rw [tg,if_pos cx]
     refine ⟨d,_,rfl,jt.t (k:=x) (sy _ _ ed2) (sy _ _ (up _ _ ebk)) (by have:=congrArg List.length hk2; rw [List.length_map] at this; exact aZ (by omega)),?_⟩;refine ⟨_,_,rfl,(m2.trans (sy.butL _)).upd (List.mem_singleton.mpr rfl),pG (b:=b1) (sy _ _ ed2) ?_ (fun v hv hne=>?_) ?_ ?_ fun v hv=>?_⟩
     ·rw [vT (by rw [hk2]; exact dm)]; exact hk2
     ·obtain ⟨a',b',q1,q2,q3⟩:=hv2 v hv;have em:(v∈D.take (i+1))=(v∈D.take i):=propext ((tm v).trans ⟨fun z=>z.elim id fun z=>absurd z hne,.inl⟩);unfold GE;dsimp only at q2 q3 ⊢;simp only [em];exact ⟨a',b',q1,sy _ _ q2,sy _ _ q3⟩
     ·show _=_
      rw [if_pos ((tm x).mpr (.inr rfl)),tx]; exact ey
     ·show _=_
      rw [if_pos ((tm x).mpr (.inr rfl)),tx]; exact sy _ _ (up _ _ h3)
     ·by_cases hvx:v=x
      ·subst hvx;rw [if_pos ((tm _).mpr (.inr rfl)),tx]; exact st s hs
      ·have em:(v∈D.take (i+1))=(v∈D.take i):=propext ((tm v).trans ⟨fun z=>z.elim id fun z=>absurd z hvx,.inl⟩);simp only [em];exact st2 v hv
    ·rw [aO cx];apply ⟨_,_,rfl,m2,gi.congr fun v hv=>?_⟩;by_cases hvx:v=x
     ·subst hvx;rw [if_pos ((tm _).mpr (.inr rfl)),if_neg tk,tg,if_neg cx]
     ·have em:(v∈D.take (i+1))=(v∈D.take i):=propext ((tm v).trans ⟨fun z=>z.elim id fun z=>absurd z hvx,.inl⟩);simp only [em]
   ·rintro σ' H2 ⟨o6,o7,rfl,m2,gi⟩;have ly:ys.length=D.length:=pw.1;rw [ly,List.take_length] at gi;refine k H2 (fun b o e n=>m2 b o (s1 _ _ e) n) (gi.congr fun v hv=>?_);rw [if_pos hv]
def PwF (H:Hp) (xs:List V) (fs:List Fct):Prop:=xs.length=fs.length∧∀ (i:Nat) v f,xs[i]?=some v→fs[i]?=some f→∃ a,v=.ref a∧H a=some (.tup f.vs)
theorem PwF.mono {H H':Hp} {xs:List V} {fs:List Fct} (m:ao H H') (h:PwF H xs fs):PwF H' xs fs:=⟨h.1,fun i v f h1 h2=>let ⟨a,e,q⟩:=h.2 i v f h1 h2; ⟨a,e,m _ _ q⟩⟩
theorem ao.of_but {H H' H1:Hp} {d:Addr} (s:ao H H1) (n:H d=none) (m:aV [d] H1 H'):ao H H':=fun b o e=>m b o (s b o e) fun z=>by rw [List.mem_singleton.mp z,n] at e; cases e
def sp_aH:Sp:=fun vs H Q _=>∃ (n m:Nat) (lf:Addr) (xs:List V) (fs:List Fct),vs=[.int n,.int m,.ref lf]∧n≤40∧m≤40∧H lf=some (.lst xs)∧PwF H xs fs∧(∀ f∈fs,f.inW n m) ∧
 ∀ d H',ao H H'→H d=none→cV H' d (bD n m) (Fm.j0 (fs.map Fct.tie) Fm.lone)→Q (.ref d) H'
theorem ok_aH (T:Txt K mg t):aU P w K mg base CX0 3 t.f_aH t.d_aH ["wide","tall","facts"] sp_aH:=by
 refine T.F_aH.ok sc_aH (by walk_at "l") (fun _ _ _ s H vs Q E hr h=>?_)
 ·obtain ⟨n,m,lf,xs,fs,rfl,ln,lm,hl,pf,hin,k⟩:=h;refine aH (aF 3 sc_aH.nd (aB (ok_aq T) (rmo hr) rfl T.mg_aq T.F_aq.kp T.b_aq .nil bo (aa (pv 0) (aa (pv 1) ag)))) fun _ _=>aH (dR PassesOwn.never rfl (cO (pv 2)) (aP (i:=4) sc_aH.nd rfl (Or.inl rfl)) (ak (bG (aB (x6 T) (rmo hr) rfl T.mg_tie T.F_tie.kp T.b_tie .nil bo (aa (pv 3) (aa (aB (ok_ao T) (rmo hr) rfl T.mg_ao T.F_ao.kp T.b_ao .nil bo (aa (pv 4) ag)) (aa (aB (ok_ap T) (rmo hr) rfl T.mg_ap T.F_ap.kp T.b_ap .nil bo (aa (pv 4) ag)) ag))))))) fun _ _=>cS (aJ (pv 3)) fun _ _=>?_;apply ⟨n,m,rfl,ln,lm,fun d H1 s1 nd g1=>?_⟩;apply ⟨⟨_,SqL.of (s1 _ _ hl)⟩,?_⟩;refine dN (K:=K) (a:=lf) (xs:=xs) (fun i σ' H'=>∃ o4:Option V,σ'=[some (.int n),some (.int m),some (.ref lf),some (.ref d),o4]∧ao H H'∧cV H' d (bD n m) (Fm.j0 ((fs.take i).map Fct.tie) Fm.lone))
   ⟨none,rfl,s1,g1⟩ (fun i σ' H' _ ⟨_,_,z,_⟩=>SqL.of (z _ _ hl)) ?_ ?_
  ·rintro i v σ' H2 hv ⟨o4,rfl,s2,g2⟩;have hi:i<fs.length:=by rw [← pf.1]; exact (List.getElem?_eq_some_iff.mp hv).1
   obtain ⟨p,rfl,hp⟩:=pf.2 i v _ hv (List.getElem?_eq_getElem hi);have fi:=hin _ (List.getElem_mem hi);have ft:(fs.take (i+1)).map Fct.tie=(fs.take i).map Fct.tie++[fs[i].tie]:=by rw [List.take_add_one,List.getElem?_eq_getElem hi,List.map_append]; rfl
   have tg:∀ G,Fm.j0 ((fs.take i).map Fct.tie++[fs[i].tie]) G=Fm.gN (Fm.j0 ((fs.take i).map Fct.tie) G) fs[i].tie:=fun G=>by unfold Fm.j0; rw [List.foldl_append]; rfl
   rw [ft,tg];generalize fs[i]=f at hp fi;have fd:=Fct.inD fi;generalize Fm.j0 ((fs.take i).map Fct.tie) Fm.lone=G at g2;apply ⟨p,f,rfl,s2 _ _ hp,fun T1 a b H3 s3 pr=>?_⟩;apply ⟨p,f,n,m,rfl,s3 _ _ (s2 _ _ hp),fi,by omega,by omega,?_⟩;apply ⟨d,T1,a,b,_,G,_,_,_,rfl,g2.mono s3,iY n m,by rw [eB]; omega,pr,fd.1,fd.2,fun H4 m4 g4=>?_⟩;left;exact ⟨_,rfl,ao.of_but (s2.trans s3) nd m4,g4⟩
  ·rintro σ' H2 ⟨o4,rfl,s2,g2⟩;rw [List.take_of_length_le (by rw [pf.1]; exact Nat.le_refl _)] at g2;left;exact k d H2 s2 nd g2
theorem mO {f:Str} {v:V}:∀ {fs:List (Str×V)},(fs.lookup f).isSome=true→(bL f v fs).length=fs.length
 | [],h=>by cases h
 | (g,x)::r,h=>by
  unfold bL;by_cases e:g=f
  ·rw [if_pos e]; rfl
  ·rw [if_neg e,List.length_cons,List.length_cons,mO (fs:=r) ?_];have hb:(f==g)=false:=beq_eq_false_iff_ne.mpr fun z=>e z.symm
   simpa only [List.lookup,hb] using h
abbrev DL (m:Str):Prop:=((¬ m="columns_count")∧¬ m="rows_count")∧(¬ m="facts")∧(¬ m="next_number")∧¬ m="groups"
structure FL (fs:List (Str×V)) (wd ht:Int) (df:Addr) (n:Int) (dg:Addr):Prop where
 w:fs.lookup ("columns_count":Str)=some (.int wd)
 h:fs.lookup ("rows_count":Str)=some (.int ht)
 f:fs.lookup ("facts":Str)=some (.ref df)
 n:fs.lookup ("next_number":Str)=some (.int n)
 g:fs.lookup ("groups":Str)=some (.ref dg)
 no:∀ m,DL m→fs.lookup m=none
 len:fs.length≤5
theorem FL.next {fs:List (Str×V)} {wd ht n n':Int} {df dg:Addr} (h:FL fs wd ht df n dg):FL (bL "next_number" (.int n') fs) wd ht df n' dg where
 w:=by rw [aD,if_neg (by decide +kernel)]; exact h.w
 h:=by rw [aD,if_neg (by decide +kernel)]; exact h.h
 f:=by rw [aD,if_neg (by decide +kernel)]; exact h.f
 n:=by rw [aD,if_pos rfl]
 g:=by rw [aD,if_neg (by decide +kernel)]; exact h.g
 no:=fun m z=>by rw [aD,if_neg z.2.2.1]; exact h.no m z
 len:=by rw [mO (by rw [h.n]; rfl)]; exact h.len
theorem FL.grp {fs:List (Str×V)} {wd ht n:Int} {df dg dg':Addr} (h:FL fs wd ht df n dg):FL (bL "groups" (.ref dg') fs) wd ht df n dg' where
 w:=by rw [aD,if_neg (by decide +kernel)]; exact h.w
 h:=by rw [aD,if_neg (by decide +kernel)]; exact h.h
 f:=by rw [aD,if_neg (by decide +kernel)]; exact h.f
 n:=by rw [aD,if_neg (by decide +kernel)]; exact h.n
 g:=by rw [aD,if_pos rfl]
 no:=fun m z=>by rw [aD,if_neg z.2.2.2]; exact h.no m z
 len:=by rw [mO (by rw [h.g]; rfl)]; exact h.len
def PwN (H:Hp) (kf:List (Key×V)) (F:List (Int×Fct)):Prop:=kf.length=F.length∧∀ (i:Nat) k v nf,kf[i]?=some (k,v)→F[i]?=some nf→k=.inl nf.1∧∃ a,v=.ref a∧H a=some (.tup nf.2.vs)
structure cv (C:Addr) (H:Hp) (p df dg:Addr) (wd ht:Nat) (F:List (Int×Fct)) (n:Int) (G:List Key→List Key×Int):Prop where
 ob:∃ dx fs,H p=some (.ins C dx fs)∧FL fs wd ht df n dg
 fa:∃ kf,H df=some (.dK kf)∧PwN H kf F
 gr:cV H dg (bD wd ht) G
theorem PwN.but {S:List Addr} {H H':Hp} {kf:List (Key×V)} {F:List (Int×Fct)} (h:PwN H kf F) (m:aV S H H') (n:NoT H S):PwN H' kf F :=
 ⟨h.1,fun i k v nf h1 h2=>let ⟨e,a,q,r⟩:=h.2 i k v nf h1 h2; ⟨e,a,q,bu m n r⟩⟩
theorem PwN.keys {H:Hp} {kf:List (Key×V)} {F:List (Int×Fct)} (h:PwN H kf F):kf.map (·.1)=F.map fun nf=>Sum.inl nf.1:=by
 refine List.ext_getElem? fun i=>?_;rw [List.getElem?_map,List.getElem?_map]
 cases e1:kf[i]? with
 | none =>
  have:F[i]?=none:=List.getElem?_eq_none (by rw [← h.1]; exact List.getElem?_eq_none_iff.mp e1)
  rw [this]; rfl
 | some kv =>
  have hl:i<F.length:=by rw [← h.1]; exact (List.getElem?_eq_some_iff.mp e1).1
  rw [List.getElem?_eq_getElem hl];obtain ⟨k,v⟩:=kv;have:=(h.2 i k v _ e1 (List.getElem?_eq_getElem hl)).1
  simp [this]
theorem PwN.vals {H:Hp} {kf:List (Key×V)} {F:List (Int×Fct)} (h:PwN H kf F):PwF H (kf.map (·.2)) (F.map (·.2)):=by
 refine ⟨by rw [List.length_map,List.length_map,h.1],fun i v f h1 h2=>?_⟩;rw [List.getElem?_map] at h1 h2;obtain ⟨⟨k,v'⟩,e1,rfl⟩:=Option.map_eq_some_iff.mp h1;obtain ⟨nf,e2,rfl⟩:=Option.map_eq_some_iff.mp h2;exact (h.2 i k v' nf e1 e2).2
theorem cv.not {C:Addr} {H:Hp} {p df dg:Addr} {wd ht:Nat} {F:List (Int×Fct)} {n:Int} {G:List Key→List Key×Int} (h:cv C H p df dg wd ht F n G):NoT H [p,df,dg]:=fun x hx xs=>by
 obtain ⟨dx,fs,h1,_⟩:=h.ob;obtain ⟨kf,h2,_⟩:=h.fa;obtain ⟨kg,h3,_⟩:=h.gr.ob;symm at hx;rcases hx with rfl | rfl | rfl
 ·rw [h1]; intro z; cases z
 ·rw [h2]; intro z; cases z
 ·rw [h3]; intro z; cases z
theorem cv.lst {C:Addr} {H:Hp} {p df dg:Addr} {wd ht:Nat} {F:List (Int×Fct)} {n:Int} {G:List Key→List Key×Int} (h:cv C H p df dg wd ht F n G) {b:Addr} {xs:List V} (e:H b=some (.lst xs)):b∉[p,df,dg]:=fun hx=>by
 obtain ⟨dx,fs,h1,_⟩:=h.ob;obtain ⟨kf,h2,_⟩:=h.fa;obtain ⟨kg,h3,_⟩:=h.gr.ob;symm at hx;rcases hx with rfl | rfl | rfl
 ·rw [h1] at e; cases e
 ·rw [h2] at e; cases e
 ·rw [h3] at e; cases e
theorem cv.but {C:Addr} {S:List Addr} {H H':Hp} {p df dg:Addr} {wd ht:Nat} {F:List (Int×Fct)} {n:Int} {G:List Key→List Key×Int} (h:cv C H p df dg wd ht F n G) (m:aV S H H') (nt:NoT H S) (hp:p∉S) (hf:df∉S) (hg:dg∉S):cv C H' p df dg wd ht F n G:=by
 obtain ⟨dx,fs,h1,fl⟩:=h.ob;obtain ⟨kf,h2,pf⟩:=h.fa;exact ⟨⟨dx,fs,m _ _ h1 hp,fl⟩,⟨kf,m _ _ h2 hf,pf.but m nt⟩,h.gr.but m nt hg⟩
theorem cv.mono {C:Addr} {H H':Hp} {p df dg:Addr} {wd ht:Nat} {F:List (Int×Fct)} {n:Int} {G:List Key→List Key×Int} (h:cv C H p df dg wd ht F n G) (m:ao H H'):cv C H' p df dg wd ht F n G :=
 h.but (m.butL []) (fun x hx=>nomatch hx) (fun z=>nomatch z) (fun z=>nomatch z) (fun z=>nomatch z)
def nA (C:Addr) (H:Hp) (p:Addr) (wd ht:Int):Prop:=∃ dx fs,H p=some (.ins C dx fs)∧fs.lookup ("columns_count":Str)=some (.int wd)∧fs.lookup ("rows_count":Str)=some (.int ht)∧∀ m,DL m→fs.lookup m=none
theorem cv.sz {C:Addr} {H:Hp} {p df dg:Addr} {wd ht:Nat} {F:List (Int×Fct)} {n:Int} {G:List Key→List Key×Int} (h:cv C H p df dg wd ht F n G):nA C H p wd ht:=by
 obtain ⟨dx,fs,h1,fl⟩:=h.ob;exact ⟨dx,fs,h1,fl.w,fl.h,fl.no⟩
theorem nA.mono {C:Addr} {H H':Hp} {p:Addr} {wd ht:Int} (h:nA C H p wd ht) (m:ao H H'):nA C H' p wd ht:=by
 obtain ⟨dx,fs,h1,r⟩:=h;exact ⟨dx,fs,m _ _ h1,r⟩
def sp_ak (C:Addr):Sp:=fun vs H Q _=>∃ (p:Addr) (wd ht:Int),vs=[.ref p]∧nA C H p wd ht∧Q (.int wd) H
theorem ok_ak (T:Txt K mg t):aU P w K mg base CX0 1 t.f_ak t.d_ak ["self"] (sp_ak t.a_ab):=by
 refine T.F_ak.ok sc_ak (by walk_at "l") (fun _ _ _ s H vs Q E hr h=>?_)
 ·obtain ⟨p,wd,ht,rfl,⟨dx,fs,h1,h2,h3,_⟩,k⟩:=h;refine ⟨_,(ak (aJ (cN K rfl (pv 0) rfl))),?_⟩;apply cP h1 T.cl_ab T.naF_columns_count h2 ?_;left;exact k
def sp_aj (C:Addr):Sp:=fun vs H Q _=>∃ (p:Addr) (wd ht:Int),vs=[.ref p]∧nA C H p wd ht∧Q (.int ht) H
theorem ok_aj (T:Txt K mg t):aU P w K mg base CX0 1 t.f_aj t.d_aj ["self"] (sp_aj t.a_ab):=by
 refine T.F_aj.ok sc_aj (by walk_at "l") (fun _ _ _ s H vs Q E hr h=>?_)
 ·obtain ⟨p,wd,ht,rfl,⟨dx,fs,h1,h2,h3,_⟩,k⟩:=h;refine ⟨_,(ak (aJ (cN K rfl (pv 0) rfl))),?_⟩;apply cP h1 T.cl_ab T.naF_rows_count h3 ?_;left;exact k
theorem blw {x b:Int}:(decide (0≤x)&&decide (x<b))=decide (0≤x∧x<b):=by
 by_cases h1:0≤x<;>by_cases h2:x<b<;>simp [h1,h2]
def nY (C NC:Addr):Sp:=fun vs H Q E=>∃ (p:Addr) (wd ht x y:Int),vs=[.ref p,.int x,.int y]∧nA C H p wd ht∧((0≤x∧x<wd)∧(0≤y∧y<ht)→Q .non H)∧(¬ ((0≤x∧x<wd)∧(0≤y∧y<ht))→E (.ref NC) none H)
theorem nG (T:Txt K mg t):aU P w K mg base (CX2 P w) 3 t.f_aQ t.d_aQ ["board","x","y"] (nY t.a_ab t.a_aT):=by
 refine T.F_aQ.ok2 sc_aQ (by walk_at "l") (fun _ _ _ s H vs Q E hr h=>?_)
 ·obtain ⟨p,wd,ht,x,y,rfl,hz,k1,k2⟩:=h;obtain ⟨dx,fs,h1,_,_,no⟩:=id hz;refine ⟨_,(ak (aW (PW.pt (fC (dD (cF (aB (ok_av T).up2 (rmo hr) rfl T.mg_av T.F_av.kp T.b_av .nil cE (aa (pv 1) (aa (bQ (pv 0) T.cl_ab T.m_ak (ok_ak T).up2 (rmo hr) T.b_ak .nil cE) ag))))) (eX (dD (cF (aB (ok_av T).up2 (rmo hr) rfl T.mg_av T.F_av.kp T.b_av .nil cE (aa (pv 2) (aa (bQ (pv 0) T.cl_ab T.m_aj (ok_aj T).up2 (rmo hr) T.b_aj .nil cE) ag)))))))) (ak (bS T.mg_aT T.x_aT PySem.F.excBase_ValueError rfl rfl (fun _ _ _ _ _ _ _ _ I m q=>gJ I m q) (aa aj ag))) aI)),?_⟩;apply bp h1 (no _ (by decide +kernel)) ?_;apply ⟨p,wd,ht,rfl,hz,?_⟩;apply ⟨x,wd,rfl,?_⟩;rw [blw];by_cases c1:0≤x∧x<wd
  ·rw [aM c1];apply bp h1 (no _ (by decide +kernel)) ?_;apply ⟨p,wd,ht,rfl,hz,?_⟩;apply ⟨y,ht,rfl,?_⟩;rw [blw];by_cases c2:0≤y∧y<ht
   ·rw [aM c2];left;exact k1 ⟨c1,c2⟩
   ·rw [aO c2];left;exact ⟨by show 1≤sizeLine; decide,k2 fun z=>c2 z.2⟩
  ·rw [aO c1];left;exact ⟨by show 1≤sizeLine; decide,k2 fun z=>c1 z.1⟩
noncomputable def sdW (col:Bool) (wd ht:Int):Int:=if col=true then wd else ht
def jX (C NL:Addr):Sp:=fun vs H Q E=>∃ (p:Addr) (wd ht k:Int) (wy:Str),vs=[.ref p,.str wy,.int k]∧nA C H p wd ht ∧
 ((∃ col,wy=wyS col∧(0≤k∧k<sdW col wd ht - 1)∧∀ H',ao H H'→Q .non H')∨(((¬ wy="col"∧¬ wy="row")∨∃ col,wy=wyS col∧¬ (0≤k∧k<sdW col wd ht - 1))∧∀ H',ao H H'→E (.ref NL) none H'))
theorem okx_ah (T:Txt K mg t):aU P w K mg base (CX2 P w) 3 t.f_ah t.d_ah ["self","way","k"] (jX t.a_ab t.a_aN):=by
 refine T.F_ah.ok2 sc_ah (by walk_at "l") (fun _ _ _ s H vs Q E hr h=>?_)
 ·obtain ⟨p,wd,ht,k,wy,rfl,hz,h⟩:=h;refine ⟨_,(aK (aW (dY pR (pv 1) (aQ (aa aj (aa aj ag))) rfl) (ak (bS T.mg_aN T.x_aN PySem.F.excBase_ValueError rfl rfl (fun _ _ _ _ _ _ _ _ I m q=>gJ I m q) (aa aj ag))) aI) (ak (aW (dD (cF (aB (ok_av T).up2 (rmo hr) rfl T.mg_av T.F_av.kp T.b_av .nil cE (aa (pv 2) (aa (av i9 (fX (aT bU (pv 1) aj) (bQ (pv 0) T.cl_ab T.m_ak (ok_ak T).up2 (rmo hr) T.b_ak .nil cE) (bQ (pv 0) T.cl_ab T.m_aj (ok_aj T).up2 (rmo hr) T.b_aj .nil cE)) ae) ag))))) (ak (bS T.mg_aN T.x_aN PySem.F.excBase_ValueError rfl rfl (fun _ _ _ _ _ _ _ _ I m q=>gJ I m q) (aa aj ag))) aI))),?_⟩;apply nwT fun tt H1 stt ntt ett=>?_;left;obtain ⟨dx,fs,h1,_,_,no⟩:=id hz;have h11:=stt _ _ h1;have hz1:=hz.mono stt;refine ⟨tt,_,rfl,.inr (SqT.of ett),rfl,rfl,?_⟩
  have hin:inV (.str wy) [V.str (Str.ofString "col"),V.str (Str.ofString "row")]=(decide (wy="col")||decide (wy="row")):=by
   unfold inV;rw [List.any_cons,List.any_cons,List.any_nil,Bool.or_false]
   show (decide (Str.ofString "col"=wy)||decide (Str.ofString "row"=wy))=_
   rw [decide_eq_decide.mpr (eq_comm (a:=Str.ofString "col")),decide_eq_decide.mpr (eq_comm (a:=Str.ofString "row"))]
  rw [hin,if_pos rfl];have fin:∀ (col:Bool),wy=wyS col→(0≤k∧k<sdW col wd ht - 1→Q .non H1)→(¬ (0≤k∧k<sdW col wd ht - 1)→E (.ref t.a_aN) none H1)→(decide (wy="col")||decide (wy="row"))=true∧((0≤k∧k<sdW col wd ht - 1→Q .non H1)∧(¬ (0≤k∧k<sdW col wd ht - 1)→E (.ref t.a_aN) none H1)):=fun col e a b=>by
   refine ⟨?_,a,b⟩;rw [e]; cases col<;>decide +kernel
  have cs:(∃ col,wy=wyS col∧(0≤k∧k<sdW col wd ht - 1→Q .non H1)∧(¬ (0≤k∧k<sdW col wd ht - 1)→E (.ref t.a_aN) none H1))∨(¬ wy="col"∧¬ wy="row")∧E (.ref t.a_aN) none H1:=by
   rcases h with ⟨col,e,hk,q⟩ | ⟨n | ⟨col,e,hk⟩,q⟩
   ·exact .inl ⟨col,e,fun _=>q _ stt,fun z=>absurd hk z⟩
   ·exact .inr ⟨n,q _ stt⟩
   ·exact .inl ⟨col,e,fun z=>absurd z hk,fun _=>q _ stt⟩
  rcases cs with ⟨col,e,q1,q2⟩ | ⟨⟨n1,n2⟩,q⟩
  ·rw [(fin col e q1 q2).1];subst e;left;rw [uo]
   cases col with
   | true =>
    apply bp h11 (no _ (by decide +kernel)) ?_;apply ⟨p,wd,ht,rfl,hz1,?_⟩;apply ⟨k,wd - 1,rfl,?_⟩;rw [blw];by_cases c:0≤k∧k<wd - 1
    ·rw [aM c];left;exact q1 c
    ·rw [aO c];left;exact ⟨by show 1≤sizeLine; decide,q2 c⟩
   | false =>
    apply bp h11 (no _ (by decide +kernel)) ?_;apply ⟨p,wd,ht,rfl,hz1,?_⟩;apply ⟨k,ht - 1,rfl,?_⟩;rw [blw];by_cases c:0≤k∧k<ht - 1
    ·rw [aM c];left;exact q1 c
    ·rw [aO c];left;exact ⟨by show 1≤sizeLine; decide,q2 c⟩
  ·rw [aO n1,aO n2];left;exact ⟨by show 1≤sizeLine; decide,q⟩
noncomputable def Fct.no (NC BB NL NS:Addr) (wd ht:Int):Fct→Option Addr
 | .cell x y c=>if (0≤x∧x<wd)∧(0≤y∧y<ht) then (if ml c=true then none else some BB) else some NC
 | .line col k s _=>if 0≤k∧k<sdW col wd ht - 1 then (if 0≤s∧s<sdW col ht wd then none else some NS) else some NL
theorem oA {c:Int}:ml c=true↔c=0∨c=1:=by
 unfold ml;rw [Bool.and_eq_true,decide_eq_true_eq,decide_eq_true_eq]; omega
theorem Fct.no_iff {NC BB NL NS:Addr} {wd ht:Int} {f:Fct}:f.no NC BB NL NS wd ht=none↔f.inW wd ht:=by
 cases f with
 | cell x y c =>
  show (if (0≤x∧x<wd)∧(0≤y∧y<ht) then (if ml c=true then none else some BB) else some NC)=none↔(0≤x∧x<wd)∧(0≤y∧y<ht)∧(c=0∨c=1)
  by_cases h:(0≤x∧x<wd)∧(0≤y∧y<ht)
  ·rw [if_pos h];by_cases hb:ml c=true
   ·rw [if_pos hb]; exact ⟨fun _=>⟨h.1,h.2,oA.mp hb⟩,fun _=>rfl⟩
   ·rw [if_neg hb]; exact ⟨(fun z=>nomatch z),fun z=>absurd (oA.mpr z.2.2) hb⟩
  ·rw [if_neg h]; exact ⟨(fun z=>nomatch z),fun z=>absurd ⟨z.1,z.2.1⟩ h⟩
 | line col k s b =>
  cases col<;>simp only [Fct.no,Fct.inW,sdW,if_true,if_false,Bool.false_eq_true]
  ·by_cases h:0≤k∧k<ht - 1
   ·rw [if_pos h];by_cases g:0≤s∧s<wd
    ·rw [if_pos g]; exact ⟨fun _=>⟨h,g⟩,fun _=>rfl⟩
    ·rw [if_neg g]; exact ⟨(fun z=>nomatch z),fun z=>absurd z.2 g⟩
   ·rw [if_neg h]; exact ⟨(fun z=>nomatch z),fun z=>absurd z.1 h⟩
  ·by_cases h:0≤k∧k<wd - 1
   ·rw [if_pos h];by_cases g:0≤s∧s<ht
    ·rw [if_pos g]; exact ⟨fun _=>⟨h,g⟩,fun _=>rfl⟩
    ·rw [if_neg g]; exact ⟨(fun z=>nomatch z),fun z=>absurd z.2 g⟩
   ·rw [if_neg h]; exact ⟨(fun z=>nomatch z),fun z=>absurd z.1 h⟩
def jW (C NC BB NL NS:Addr):Sp:=fun vs H Q E=>∃ (p a:Addr) (wd ht:Int) (f:Fct),vs=[.ref p,.ref a]∧nA C H p wd ht∧H a=some (.tup f.vs) ∧
 (f.no NC BB NL NS wd ht=none→∀ H',ao H H'→Q .non H')∧∀ X,f.no NC BB NL NS wd ht=some X→∀ H',ao H H'→E (.ref X) none H'
theorem okx_ag (T:Txt K mg t):aU P w K mg base (CX2 P w) 4 t.f_ag t.d_ag ["self","fact"] (jW t.a_ab t.a_aT t.a_aU t.a_aN t.a_aV):=by
 refine T.F_ag.ok2 sc_ag (by walk_at "l") (fun _ _ _ s H vs Q E hr h=>?_)
 ·obtain ⟨p,a,wd,ht,f,rfl,hz,ha,k1,k2⟩:=h;obtain ⟨dx,fs,h1,_,_,no⟩:=id hz;refine aH (aW (aT bU (au (ay K rfl) (pv 1) ae) aj) (aK (bG (aB (nG T) (rmo hr) rfl T.mg_aQ T.F_aQ.kp T.b_aQ .nil cE (aa (pv 0) (aa (au (ay K rfl) (pv 1) ae) (aa (au (ay K rfl) (pv 1) ae) ag))))) (aK (aW (dD (cF (aB (ok_ba T).up2 (rmo hr) rfl T.mg_ba T.F_ba.kp T.b_ba .nil cE (aa (au (ay K rfl) (pv 1) ae) ag)))) (ak (bS T.mg_aU T.x_aU PySem.F.excBase_ValueError rfl rfl (fun _ _ _ _ _ _ _ _ I m q=>gJ I m q) (aa aj ag))) aI) (ak uR))) aI) fun _ _=>aH (bG (iE (pv 0) T.cl_ab T.m_ah (okx_ah T) (rmo hr) T.b_ah .nil cE (aa (au (ay K rfl) (pv 1) ae) (aa (au (ay K rfl) (pv 1) ae) ag)))) fun _ _=>cS (aW (dD (cF (aB (ok_av T).up2 (rmo hr) rfl T.mg_av T.F_av.kp T.b_av .nil cE (aa (au (ay K rfl) (pv 1) ae) (aa (fX (aT bU (au (ay K rfl) (pv 1) ae) aj) (bQ (pv 0) T.cl_ab T.m_aj (ok_aj T).up2 (rmo hr) T.b_aj .nil cE) (bQ (pv 0) T.cl_ab T.m_ak (ok_ak T).up2 (rmo hr) T.b_ak .nil cE)) ag))))) (ak (bS T.mg_aV T.x_aV PySem.F.excBase_ValueError rfl rfl (fun _ _ _ _ _ _ _ _ I m q=>gJ I m q) (aa aj ag))) aI) fun _ _=>?_
  cases f with
  | cell x y c =>
   dsimp only [Fct.no] at k1 k2;apply aA (SqT.of ha) (v:=.str "cell") rfl ?_;left;rw [aM (rfl:("cell":Str)="cell")];apply aA (SqT.of ha) (v:=.int x) rfl ?_;apply aA (SqT.of ha) (v:=.int y) rfl ?_;apply ⟨p,wd,ht,x,y,rfl,hz,fun hin=>?_,fun hin=>k2 _ (if_neg hin) _ (ao.refl _)⟩;rw [if_pos hin] at k1 k2;apply aA (SqT.of ha) (v:=.int c) rfl ?_;apply ⟨c,rfl,?_⟩
   cases hb:ml c with
   | true =>
    rw [if_pos hb] at k1;left;exact k1 rfl _ (ao.refl _)
   | false =>
    left;exact ⟨by show 1≤sizeLine; decide,k2 _ (if_neg (by rw [hb]; decide)) _ (ao.refl _)⟩
  | line col kk s b =>
   dsimp only [Fct.no] at k1 k2;apply aA (SqT.of ha) (v:=.str (wyS col)) rfl ?_;left;rw [lT];apply bp h1 (no _ (by decide +kernel)) ?_;apply aA (SqT.of ha) (v:=.str (wyS col)) rfl ?_;apply aA (SqT.of ha) (v:=.int kk) rfl ?_;apply ⟨p,wd,ht,kk,wyS col,rfl,hz,?_⟩;by_cases hk:0≤kk∧kk<sdW col wd ht - 1
   ·rw [if_pos hk] at k1 k2;refine .inl ⟨col,rfl,hk,fun H1 s1=>?_⟩;have ha1:=s1 _ _ ha;have h11:=s1 _ _ h1;apply aA (SqT.of ha1) (v:=.int s) rfl ?_;apply aA (SqT.of ha1) (v:=.str (wyS col)) rfl ?_;left;rw [uo]
    cases col with
    | true =>
     apply bp h11 (no _ (by decide +kernel)) ?_;apply ⟨p,wd,ht,rfl,hz.mono s1,?_⟩;apply ⟨s,ht,rfl,?_⟩;rw [blw];by_cases c:0≤s∧s<ht
     ·rw [aM c];left;exact k1 (if_pos c) _ s1
     ·rw [aO c];left;exact ⟨by show 1≤sizeLine; decide,k2 _ (if_neg c) _ s1⟩
    | false =>
     apply bp h11 (no _ (by decide +kernel)) ?_;apply ⟨p,wd,ht,rfl,hz.mono s1,?_⟩;apply ⟨s,wd,rfl,?_⟩;rw [blw];by_cases c:0≤s∧s<wd
     ·rw [aM c];left;exact k1 (if_pos c) _ s1
     ·rw [aO c];left;exact ⟨by show 1≤sizeLine; decide,k2 _ (if_neg c) _ s1⟩
   ·refine .inr ⟨.inr ⟨col,rfl,hk⟩,fun H1 s1=>k2 _ (if_neg hk) _ s1⟩
theorem FL.mk0 {wd ht n:Int} {df dg:Addr}:FL (bL "groups" (.ref dg) (bL "next_number" (.int n) (bL "facts" (.ref df) (bL "rows_count" (.int ht) (bL "columns_count" (.int wd) []))))) wd ht df n dg where
 w:=by rw [aD,if_neg (by decide +kernel),aD,if_neg (by decide +kernel),aD,if_neg (by decide +kernel),aD,if_neg (by decide +kernel),aD,if_pos rfl]
 h:=by rw [aD,if_neg (by decide +kernel),aD,if_neg (by decide +kernel),aD,if_neg (by decide +kernel),aD,if_pos rfl]
 f:=by rw [aD,if_neg (by decide +kernel),aD,if_neg (by decide +kernel),aD,if_pos rfl]
 n:=by rw [aD,if_neg (by decide +kernel),aD,if_pos rfl]
 g:=by rw [aD,if_pos rfl]
 no:=fun m z=>by
  obtain ⟨⟨z1,z2⟩,z3,z4,z5⟩:=z;rw [aD,if_neg z5,aD,if_neg z4,aD,if_neg z3,aD,if_neg z2,aD,if_neg z1]; rfl
 len:=by
  have h1:=bK "groups" (.ref dg) (bL "next_number" (.int n) (bL "facts" (.ref df) (bL "rows_count" (.int ht) (bL "columns_count" (.int wd) []))));have h2:=bK "next_number" (.int n) (bL "facts" (.ref df) (bL "rows_count" (.int ht) (bL "columns_count" (.int wd) [])));have h3:=bK "facts" (.ref df) (bL "rows_count" (.int ht) (bL "columns_count" (.int wd) []));have h4:=bK "rows_count" (.int ht) (bL "columns_count" (.int wd) []);have h5:=bK "columns_count" (.int wd) [];rw [List.length_nil] at h5;omega
def nW (C BS:Addr):Sp:=fun vs H Q E=>∃ (p dx:Addr) (wd ht:Int),vs=[.ref p,.int wd,.int ht]∧H p=some (.ins C dx [])∧((cu wd&&cu ht)=false→E (.ref BS) none H) ∧
 ((cu wd&&cu ht)=true→∀ df dg H',aV [p] H H'→H df=none→H dg=none→cv C H' p df dg wd.toNat ht.toNat [] 0 Fm.lone→Q .non H')
theorem okx_ar (T:Txt K mg t):aU P w K mg base (CX2 P w) 4 t.f_ar t.d_ar ["self","wide","tall"] (nW t.a_ab t.a_aM):=by
 refine T.F_ar.ok2 sc_ar (by walk_at "l") (fun _ _ _ s H vs Q E hr h=>?_)
 ·obtain ⟨p,dx,wd,ht,rfl,hp,k1,k2⟩:=h;refine aH (aW (dD (PW.pt (cG (cF (aB (ok_aX T).up2 (rmo hr) rfl T.mg_aX T.F_aX.kp T.b_aX .nil cE (aa (pv 1) ag))) (dE (cF (aB (ok_aX T).up2 (rmo hr) rfl T.mg_aX T.F_aX.kp T.b_aX .nil cE (aa (pv 2) ag))))))) (ak (bS T.mg_aM T.x_aM PySem.F.excBase_ValueError rfl rfl (fun _ _ _ _ _ _ _ _ I m q=>gJ I m q) (aa aj ag))) aI) fun _ _=>aH (hG (pv 0) (pv 1) rfl) fun _ _=>aH (hG (pv 0) (pv 2) rfl) fun _ _=>aH (hG (pv 0) yj rfl) fun _ _=>aH (hG (pv 0) ae rfl) fun _ _=>cS (hG (pv 0) (aB (ok_aq T).up2 (rmo hr) rfl T.mg_aq T.F_aq.kp T.b_aq .nil cE (aa (pv 1) (aa (pv 2) ag))) rfl) fun _ _=>?_;apply ⟨wd,rfl,?_⟩
  cases c1:cu wd with
  | false =>
   left;exact ⟨by show 1≤sizeLine; decide,k1 (by rw [c1]; rfl)⟩
  | true =>
   apply ⟨ht,rfl,?_⟩
   cases c2:cu ht with
   | false =>
    left;exact ⟨by show 1≤sizeLine; decide,k1 (by rw [c1,c2]; rfl)⟩
   | true =>
    have k2:=k2 (by rw [c1,c2]; rfl);have b1:0<wd∧wd<41:=by unfold cu at c1; rw [Bool.and_eq_true,decide_eq_true_eq,decide_eq_true_eq] at c1; exact c1
    have b2:0<ht∧ht<41:=by unfold cu at c2; rw [Bool.and_eq_true,decide_eq_true_eq,decide_eq_true_eq] at c2; exact c2
    have ew:((wd.toNat:Nat):Int)=wd:=by omega
    have eh:((ht.toNat:Nat):Int)=ht:=by omega
    apply ef hp T.cl_ab T.naF_columns_count (by show 0<1000; decide) ?_;have m1:aV [p] H (upd H p (.ins t.a_ab dx (bL (Str.ofString "columns_count") (.int wd) []))):=(aV.refl _ _).upd List.mem_cons_self;have e1:=ai (H:=H) (a:=p) (o:=.ins t.a_ab dx (bL (Str.ofString "columns_count") (.int wd) []));generalize upd H p (.ins t.a_ab dx (bL (Str.ofString "columns_count") (.int wd) []))=H1 at m1 e1 ⊢;apply ef e1 T.cl_ab T.naF_rows_count (Nat.lt_of_le_of_lt (bK _ _ _) (by show 1<1000; decide)) ?_;generalize hfs2:bL (Str.ofString "rows_count") (.int ht) (bL (Str.ofString "columns_count") (.int wd) [])=fs2;have l2:fs2.length≤2:=by rw [← hfs2]; exact Nat.le_trans (bK _ _ _) (Nat.succ_le_succ (bK _ _ _))
    have m2:aV [p] H (upd H1 p (.ins t.a_ab dx fs2)):=m1.upd List.mem_cons_self;have e2:=ai (H:=H1) (a:=p) (o:=.ins t.a_ab dx fs2);generalize upd H1 p (.ins t.a_ab dx fs2)=H2 at m2 e2 ⊢;apply fun df nf=>?_
    have nf0:H df=none:=by
     cases z:H df with
     | none=>rfl
     | some o =>
      by_cases hq:df=p
      ·subst hq; rw [e2] at nf; cases nf
      ·have:=m2 df o z (by rw [List.mem_singleton]; exact hq); rw [nf] at this; cases this
    have m3:aV [p] H (upd H2 df (.dK [])):=m2.new nf;have e3:=ao.new (o:=HO.dK []) nf _ _ e2;have f3:=ai (H:=H2) (a:=df) (o:=HO.dK []);generalize upd H2 df (HO.dK [])=H3 at m3 e3 f3 ⊢;have npf:df≠p:=fw f3 e3 (fun z=>nomatch z);apply ef e3 T.cl_ab T.naF_facts (by omega) ?_;have m4:aV [p] H (upd H3 p (.ins t.a_ab dx (bL (Str.ofString "facts") (.ref df) fs2))):=m3.upd List.mem_cons_self;have f4:upd H3 p (.ins t.a_ab dx (bL (Str.ofString "facts") (.ref df) fs2)) df=some (.dK []):=by rw [aw npf]; exact f3
    have e4:=ai (H:=H3) (a:=p) (o:=.ins t.a_ab dx (bL (Str.ofString "facts") (.ref df) fs2));generalize upd H3 p (.ins t.a_ab dx (bL (Str.ofString "facts") (.ref df) fs2))=H4 at m4 e4 f4 ⊢;have l4:(bL (Str.ofString "facts") (.ref df) fs2).length≤3:=Nat.le_trans (bK _ _ _) (Nat.succ_le_succ l2);apply ef e4 T.cl_ab T.naF_next_number (by omega) ?_;generalize hfs5:bL (Str.ofString "next_number") (.int 0) (bL (Str.ofString "facts") (.ref df) fs2)=fs5;have l5:fs5.length≤4:=by rw [← hfs5]; exact Nat.le_trans (bK _ _ _) (Nat.succ_le_succ l4)
    have m5:aV [p] H (upd H4 p (.ins t.a_ab dx fs5)):=m4.upd List.mem_cons_self;have f5:upd H4 p (.ins t.a_ab dx fs5) df=some (.dK []):=by rw [aw npf]; exact f4
    have e5:=ai (H:=H4) (a:=p) (o:=.ins t.a_ab dx fs5);generalize upd H4 p (.ins t.a_ab dx fs5)=H5 at m5 e5 f5 ⊢;apply ⟨wd.toNat,ht.toNat,(by rw [ew,eh]; rfl),by omega,by omega,fun dg H6 s6 ng g6=>?_⟩
    have ng0:H dg=none:=by
     cases z:H dg with
     | none=>rfl
     | some o =>
      by_cases hq:dg=p
      ·subst hq; rw [e5] at ng; cases ng
      ·have:=m5 dg o z (by rw [List.mem_singleton]; exact hq); rw [ng] at this; cases this
    have e6:=s6 _ _ e5;apply ef e6 T.cl_ab T.naF_groups (by omega) ?_;left;obtain ⟨⟨kg,hg,_⟩,_⟩:=id g6;have npg:dg≠p:=fw hg e6 (fun z=>nomatch z);have mb:aV [p] H6 (upd H6 p (.ins t.a_ab dx (bL (Str.ofString "groups") (.ref dg) fs5))):=(aV.refl _ _).upd List.mem_cons_self;have nt:NoT H6 [p]:=fun x hx xs=>by rw [List.mem_singleton.mp hx,e6]; intro z; cases z
    refine k2 df dg _ ((m5.trans (s6.butL _)).trans mb) nf0 ng0 ⟨⟨dx,_,ai,?_⟩,⟨[],?_,⟨rfl,fun i k v nf h1=>by simp at h1⟩⟩,g6.but mb nt (by rw [List.mem_singleton]; exact npg)⟩
    ·rw [← hfs5,← hfs2,ew,eh]; exact FL.mk0
    ·rw [aw npf]; exact s6 _ _ f5
noncomputable def Fct.dat:Fct→PyData
 | .cell x y c=>.tuple [.str "cell",.int x,.int y,.int c]
 | .line col k s b=>.tuple [.str (wyS col),.int k,.int s,.bool b]
theorem Fct.rep {H:Hp} {a:Addr} {f:Fct} (h:H a=some (.tup f.vs)):Rep H f.dat (.ref a):=by
 cases f with
 | cell x y c=>simp only [Fct.dat,Rep,RepL]; exact ⟨a,_,rfl,h,_,_,rfl,rfl,_,_,rfl,rfl,_,_,rfl,rfl,_,_,rfl,rfl,rfl⟩
 | line col k s b=>simp only [Fct.dat,Rep,RepL]; exact ⟨a,_,rfl,h,_,_,rfl,rfl,_,_,rfl,rfl,_,_,rfl,rfl,_,_,rfl,rfl,rfl⟩
theorem Ck (col:Bool):PyData.strOk (wyS col)=true:=by cases col<;>decide +kernel
theorem Fct.lay (f:Fct):f.dat.canLay0=true∧f.dat.depth≤60:=by
 cases f with
 | cell x y c=>exact ⟨by simp only [Fct.dat,PyData.canLay0,PyData.canLayAll0]; decide +kernel,by simp only [Fct.dat,PyData.depth,PyData.depthAll]; decide⟩
 | line col k s b=>exact ⟨by simp only [Fct.dat,PyData.canLay0,PyData.canLayAll0,Ck]; decide,by simp only [Fct.dat,PyData.depth,PyData.depthAll]; decide⟩
theorem Fct.eqv (f g:Fct):PyData.eqv f.dat g.dat=decide (f=g):=by
 have hw:∀ a b:Bool,(wyS a==wyS b)=(a==b):=by intro a b; cases a<;>cases b<;>decide +kernel
 cases f with
 | cell x y c =>
  cases g with
  | cell x' y' c' =>
   simp only [Fct.dat,PyData.eqv,PyData.eqvAll,Bool.and_true,beq_self_eq_true,Bool.true_and];by_cases h1:x=x'<;>by_cases h2:y=y'<;>by_cases h3:c=c'<;>simp [h1,h2,h3]
  | line col' k' s' b' =>
   simp only [Fct.dat,PyData.eqv,PyData.eqvAll];rw [aO (by intro z; cases z)];have:(("cell":Str)==wyS col')=false:=by cases col'<;>decide +kernel
   rw [this]; rfl
 | line col k s b =>
  cases g with
  | cell x' y' c' =>
   simp only [Fct.dat,PyData.eqv,PyData.eqvAll];rw [aO (by intro z; cases z)];have:(wyS col==("cell":Str))=false:=by cases col<;>decide +kernel
   rw [this]; rfl
  | line col' k' s' b' =>
   simp only [Fct.dat,PyData.eqv,PyData.eqvAll,Bool.and_true,hw];by_cases h1:col=col'<;>by_cases h2:k=k'<;>by_cases h3:s=s'<;>by_cases h4:b=b'<;>simp [h1,h2,h3,h4]
theorem jd {H:Hp}:∀ {xs:List V} {fs:List Fct},PwF H xs fs→RepL H (fs.map Fct.dat) xs
 | [],[],_=>by simp only [List.map_nil,RepL]
 | [],_::_,h=>by have:=h.1; simp at this
 | _::_,[],h=>by have:=h.1; simp at this
 | x::xs,f::fs,h=>by
  simp only [List.map_cons,RepL];obtain ⟨a,rfl,ha⟩:=h.2 0 x f rfl rfl;refine ⟨_,_,rfl,Fct.rep ha,jd ⟨?_,fun i v g h1 h2=>h.2 (i+1) v g (by simpa using h1) (by simpa using h2)⟩⟩;have:=h.1
  simpa using this
theorem j7:∀ fs:List Fct,PyData.canLayAll0 (fs.map Fct.dat)=true
 | []=>rfl
 | f::fs=>by rw [List.map_cons,PyData.canLayAll0,f.lay.1,j7 fs]; rfl
theorem og (fs:List Fct) (f:Fct):((fs.map Fct.dat).any fun y=>PyData.eqv y f.dat)=decide (f∈fs):=by
 rw [List.any_map]
 induction fs with
 | nil=>rfl
 | cons g fs ih =>
  rw [List.any_cons,ih]
  show (PyData.eqv g.dat f.dat||_)=_
  rw [Fct.eqv];rw [show decide (g=f)=decide (f=g) from decide_eq_decide.mpr eq_comm];by_cases h1:f=g<;>by_cases h2:f∈fs<;>simp [h1,h2]
theorem y7 {H:Hp} {Q:VK} {l a:Addr} {xs:List V} {fs:List Fct} {f:Fct} (hl:H l=some (.lst xs)) (pf:PwF H xs fs) (ha:H a=some (.tup f.vs)) (q:Q (.bl (decide (f∈fs))) H):D3 (.ref a) (.ref l) H Q :=
 ⟨_,_,by simp only [Rep]; exact ⟨l,xs,rfl,hl,jd pf⟩,Fct.rep ha,j7 fs,f.lay.1,f.lay.2,by rw [og]; exact q⟩
theorem Bp {H:Hp} {Q:VK} {l a:Addr} {xs:List V} {fs:List Fct} {f:Fct} (hl:H l=some (.lst xs)) (pf:PwF H xs fs) (ha:H a=some (.tup f.vs)) (q:Q (.bl (!decide (f∈fs))) H):BX (.ref a) (.ref l) H Q :=
 ⟨_,_,by simp only [Rep]; exact ⟨l,xs,rfl,hl,jd pf⟩,Fct.rep ha,j7 fs,f.lay.1,f.lay.2,by rw [og]; exact q⟩
theorem PwN.snoc {H:Hp} {kf:List (Key×V)} {F:List (Int×Fct)} {n:Int} {f:Fct} {a:Addr} (h:PwN H kf F) (ha:H a=some (.tup f.vs)):PwN H (kf++[(.inl n,.ref a)]) (F++[(n,f)]):=by
 refine ⟨by rw [List.length_append,List.length_append,h.1]; rfl,fun i k v nf h1 h2=>?_⟩;by_cases hi:i<kf.length
 ·rw [List.getElem?_append_left hi] at h1;rw [List.getElem?_append_left (by rw [← h.1]; exact hi)] at h2;exact h.2 i k v nf h1 h2
 ·rw [List.getElem?_append_right (by omega)] at h1;rw [List.getElem?_append_right (by rw [← h.1]; omega),← h.1] at h2
  cases hk:i - kf.length with
  | zero =>
   rw [hk] at h1 h2;simp only [List.getElem?_cons_zero,Option.some.injEq,Prod.mk.injEq] at h1 h2;obtain ⟨rfl,rfl⟩:=h1;subst h2;exact ⟨rfl,a,rfl,ha⟩
  | succ k' => rw [hk] at h1; simp at h1
theorem PwN.tail {H:Hp} {k:Key} {v:V} {kf:List (Key×V)} {nf:Int×Fct} {F:List (Int×Fct)} (h:PwN H ((k,v)::kf) (nf::F)):(k=.inl nf.1∧∃ a,v=.ref a∧H a=some (.tup nf.2.vs))∧PwN H kf F :=
 ⟨h.2 0 k v nf rfl rfl,by have:=h.1; simpa using this,fun i k' v' nf' h1 h2=>h.2 (i+1) k' v' nf' (by simpa using h1) (by simpa using h2)⟩
theorem PwN.cons {H:Hp} {k:Key} {v:V} {kf:List (Key×V)} {nf:Int×Fct} {F:List (Int×Fct)} (h1:k=.inl nf.1∧∃ a,v=.ref a∧H a=some (.tup nf.2.vs)) (h:PwN H kf F):PwN H ((k,v)::kf) (nf::F):=by
 refine ⟨by rw [List.length_cons,List.length_cons,h.1],fun i k' v' nf' e1 e2=>?_⟩
 cases i with
 | zero =>
  simp only [List.getElem?_cons_zero,Option.some.injEq,Prod.mk.injEq] at e1 e2;obtain ⟨rfl,rfl⟩:=e1;subst e2;exact h1
 | succ i=>simp only [List.getElem?_cons_succ] at e1 e2; exact h.2 i k' v' nf' e1 e2
theorem PwN.drop {H:Hp} {j:Int}:∀ {kf:List (Key×V)} {F:List (Int×Fct)},PwN H kf F→PwN H (eL kf (.inl j)) (F.filter fun nf=>decide (nf.1≠j))
 | [],[],_=>⟨rfl,fun i k v nf h1=>by simp [eL] at h1⟩
 | [],_::_,h=>by have:=h.1; simp at this
 | _::_,[],h=>by have:=h.1; simp at this
 | (k,v)::kf,nf::F,h=>by
  obtain ⟨h1,h2⟩:=h.tail;have ih:=PwN.drop (j:=j) h2;unfold eL at ih ⊢;rw [List.filter_cons,List.filter_cons]
  have e:decide (k≠Sum.inl j)=decide (nf.1≠j):=by
   rw [h1.1];exact decide_eq_decide.mpr (not_congr ⟨fun z=>by injection z,fun z=>by rw [z]⟩)
  simp only [e];by_cases c:nf.1≠j
  ·rw [if_pos (aM c),if_pos (aM c)]; exact PwN.cons h1 ih
  ·rw [if_neg (by rw [aO c]; decide),if_neg (by rw [aO c]; decide)]; exact ih
noncomputable def iN (F:List (Int×Fct)) (j:Int):List (Int×Fct):=F.filter fun nf=>decide (nf.1≠j)
noncomputable def Cz (F:List (Int×Fct)):List Key→List Key×Int:=Fm.j0 ((F.map (·.2)).map Fct.tie) Fm.lone
def jY (C NF:Addr):Sp:=fun vs H Q E=>∃ (p df dg:Addr) (wd ht:Nat) (F:List (Int×Fct)) (n j:Int) (G:List Key→List Key×Int),vs=[.ref p,.int j]∧cv C H p df dg wd ht F n G∧wd≤40∧ht≤40∧(∀ nf∈F,nf.2.inW wd ht) ∧
 (j∉F.map (·.1)→E (.ref NF) none H)∧(j∈F.map (·.1)→∀ dg' H',aV [p,df,dg] H H'→H dg'=none→cv C H' p df dg' wd ht (iN F j) n (Cz (iN F j))→Q .non H')
theorem okx_ad (T:Txt K mg t):aU P w K mg base (CX1 P w) 5 t.f_ad t.d_ad ["self","number"] (jY t.a_ab t.a_a9):=by
 refine T.F_ad.ok1 sc_ad (by walk_at "l") (fun _ _ _ s H vs Q E hr h=>?_)
 ·obtain ⟨p,df,dg,wd,ht,F,n,j,G,rfl,fd,lw,lh,hin,k1,k2⟩:=h;obtain ⟨dx,fs,hp,fl⟩:=fd.ob;obtain ⟨kf,hdf,pf⟩:=fd.fa;have fp:df≠p:=fw hdf hp (fun z=>nomatch z);refine aH (aW (PW.pt (fC (dD (cF (aB (ok_aE T).up (rmo hr) rfl T.mg_aE T.F_aE.kp T.b_aE .nil dk (aa (pv 1) ag)))) (eX (pT (ki (b0 hr) (pv 1) (cN K rfl (pv 0) rfl)))))) (ak (bS T.mg_a9 T.x_a9 PySem.F.excBase_ValueError rfl rfl (fun _ _ _ _ _ _ _ _ I m q=>jr I m q) (aa aj ag))) aI) fun _ _=>aH (bG (yk (cN K rfl (pv 0) rfl) (pv 1) ⟨rfl,rfl,rfl,rfl⟩)) fun _ _=>cS (hG (pv 0) (aB (ok_aH T).up (rmo hr) rfl T.mg_aH T.F_aH.kp T.b_aH .nil dk (aa (bQ (pv 0) T.cl_ab T.m_ak (ok_ak T).up (rmo hr) T.b_ak .nil dk) (aa (bQ (pv 0) T.cl_ab T.m_aj (ok_aj T).up (rmo hr) T.b_aj .nil dk) (aa (dn (qE rfl) rfl T.no_list (by rfl) (aa (pS PySem.F.plainAttrs_dict PySem.F.slot_dict_values PySem.F.type_dict_values oK (cN K rfl (pv 0) rfl)) ag)) ag)))) rfl) fun _ _=>?_;apply ⟨j,rfl,?_⟩;apply cP hp T.cl_ab T.naF_facts fl.f ?_;apply ⟨df,_,rfl,dM.k (k:=.inl j) hdf,?_⟩
  have hmem:(a8 kf (.inl j)).isSome=true↔j∈F.map (·.1):=by
   rw [fh,pf.keys];constructor
   ·intro z;obtain ⟨nf,hm,e⟩:=List.mem_map.mp z;injection e with e;exact List.mem_map.mpr ⟨nf,hm,e⟩
   ·intro z;obtain ⟨nf,hm,e⟩:=List.mem_map.mp z;exact List.mem_map.mpr ⟨nf,hm,by rw [e]⟩
  cases hv:a8 kf (.inl j) with
  | none =>
   left;exact ⟨by show 1≤sizeLine; decide,k1 fun z=>by have:=hmem.mpr z; rw [hv] at this; cases this⟩
  | some v =>
   have k2:=k2 (hmem.mp (by rw [hv]; rfl));rw [Option.isSome_some];apply cP hp T.cl_ab T.naF_facts fl.f ?_;refine Bj hdf ?_;apply ⟨kf,.inl j,v,hdf,rfl,hv,?_⟩;have e1:=ai (H:=H) (a:=df) (o:=HO.dK (eL kf (.inl j)));have hp1:upd H df (HO.dK (eL kf (.inl j))) p=some (.ins t.a_ab dx fs):=by rw [aw fp.symm]; exact hp
   have m1:aV [p,df] H (upd H df (HO.dK (eL kf (.inl j)))):=(aV.refl _ _).upd (by simp);generalize upd H df (HO.dK (eL kf (.inl j)))=H1 at e1 hp1 m1 ⊢;have nt0:NoT H [p,df]:=fun x hx=>fd.not x (by simp only [List.mem_cons,List.not_mem_nil,or_false] at hx ⊢; rcases hx with z | z<;>simp [z]);have pf1:=(pf.drop (j:=j)).but m1 nt0;have sz1:nA t.a_ab H1 p wd ht:=⟨dx,fs,hp1,fl.w,fl.h,fl.no⟩
   apply bp hp1 (fl.no _ (by decide +kernel)) ?_;apply ⟨p,wd,ht,rfl,sz1,?_⟩;apply bp hp1 (fl.no _ (by decide +kernel)) ?_;apply ⟨p,wd,ht,rfl,sz1,?_⟩;apply cP hp1 T.cl_ab T.naF_facts fl.f ?_;apply pU e1 ?_;refine jO e1 fun v nv=>?_;have sv:=ao.new (o:=cC "dict_values" v df) nv;have ev:=ai (H:=H1) (a:=v) (o:=cC "dict_values" v df);generalize upd H1 v (cC "dict_values" v df)=H2 at sv ev ⊢;apply rJ ev (sv _ _ e1) fun l nl=>?_;have sl:=ao.new (o:=HO.lst ((eL kf (.inl j)).map (·.2))) nl;have el:=ai (H:=H2) (a:=l) (o:=HO.lst ((eL kf (.inl j)).map (·.2)));generalize upd H2 l (HO.lst ((eL kf (.inl j)).map (·.2)))=H3 at sl el ⊢;have s3:=sv.trans sl;apply ⟨wd,ht,l,_,(iN F j).map (·.2),rfl,lw,lh,el,pf1.vals.mono s3,fun f hf=>?_,fun dg' H4 s4 ng g4=>?_⟩
   ·obtain ⟨nf,hm,rfl⟩:=List.mem_map.mp hf;exact hin nf (List.mem_filter.mp hm).1
   ·have s4:=s3.trans s4;have hp4:=s4 _ _ hp1
    have ng1:H dg'=none:=by
     have z1:=(sv.trans sl).free ng
     cases z:H dg' with
     | none=>rfl
     | some o =>
      by_cases hq:dg'∈[p,df]
      ·symm at hq;rcases hq with rfl | rfl
       ·rw [hp1] at z1; cases z1
       ·rw [e1] at z1; cases z1
      ·have:=m1 dg' o z hq; rw [z1] at this; cases this
    apply ef hp4 T.cl_ab T.naF_groups (by have:=fl.len; omega) ?_;left;obtain ⟨⟨kg,hkg,_⟩,_⟩:=id g4;have pdg:dg'≠p:=fw hkg hp4 (fun z=>nomatch z);have m5:aV [p] H4 (upd H4 p (.ins t.a_ab dx (bL (Str.ofString "groups") (.ref dg') fs))):=(aV.refl _ _).upd (by simp);have nt4:NoT H4 [p]:=fun x hx xs=>by rw [List.mem_singleton.mp hx,hp4]; intro z; cases z
    refine k2 dg' _ (fun b o e nb=>m5 b o (s4 _ _ (m1 b o e (fun z=>nb (by simp only [List.mem_cons,List.not_mem_nil,or_false] at z ⊢; rcases z with z | z<;>simp [z])))) (fun z=>nb (by rw [List.mem_singleton.mp z]; simp))) ng1 ⟨⟨dx,_,ai,fl.grp⟩,⟨_,(by rw [aw fp]; exact s4 _ _ e1),(pf1.but (s4.butL []) (fun x hx=>nomatch hx)).but m5 nt4⟩,g4.but m5 nt4 (by rw [List.mem_singleton]; exact pdg)⟩
noncomputable def oy (nf:Int×Fct) (s:List Key):List (List Key×Int):=(if nf.2.tie.1=s then [(nf.2.tie.2.1,nf.1)] else [])++(if nf.2.tie.2.1=s then [(nf.2.tie.1,nf.1)] else [])
noncomputable def cJ (F:List (Int×Fct)) (s:List Key):List (List Key×Int):=F.flatMap fun nf=>oy nf s
def PrN (H:Hp) (v:V) (q:List Key×Int):Prop:=∃ b a,v=.ref b∧H b=some (.tup [.ref a,.int q.2])∧H a=some (.tup (q.1.map kV))
theorem PrN.but {S:List Addr} {H H':Hp} {v:V} {q:List Key×Int} (h:PrN H v q) (m:aV S H H') (n:NoT H S):PrN H' v q:=by
 obtain ⟨b,a,e,h1,h2⟩:=h;exact ⟨b,a,e,bu m n h1,bu m n h2⟩
def sG (H:Hp) (xs:List V) (ps:List (List Key×Int)):Prop:=xs.length=ps.length∧∀ (i:Nat) v q,xs[i]?=some v→ps[i]?=some q→PrN H v q
theorem sG.but {S:List Addr} {H H':Hp} {xs:List V} {ps:List (List Key×Int)} (h:sG H xs ps) (m:aV S H H') (n:NoT H S):sG H' xs ps:=⟨h.1,fun i v q e1 e2=>(h.2 i v q e1 e2).but m n⟩
theorem sG.snoc {H:Hp} {xs:List V} {ps:List (List Key×Int)} {v:V} {q:List Key×Int} (h:sG H xs ps) (hv:PrN H v q):sG H (xs++[v]) (ps++[q]):=by
 refine ⟨by rw [List.length_append,List.length_append,h.1]; rfl,fun i u r h1 h2=>?_⟩;by_cases hi:i<xs.length
 ·rw [List.getElem?_append_left hi] at h1;rw [List.getElem?_append_left (by rw [← h.1]; exact hi)] at h2;exact h.2 i u r h1 h2
 ·rw [List.getElem?_append_right (by omega)] at h1;rw [List.getElem?_append_right (by rw [← h.1]; omega),← h.1] at h2
  cases hk:i - xs.length with
  | zero =>
   rw [hk] at h1 h2;simp only [List.getElem?_cons_zero,Option.some.injEq] at h1 h2;subst h1 h2;exact hv
  | succ k' => rw [hk] at h1; simp at h1
structure fJ (H0 H:Hp) (d:Addr) (M:List Key→List (List Key×Int)) (n:Nat):Prop where
 nd:H0 d=none
 ob:∃ kvs:List (List Key×V),H d=some (.dT kvs)∧kvs.length≤n∧(∀ s,a8 kvs s=none→M s=[])∧(∀ s v,a8 kvs s=some v→∃ l xs,v=.ref l∧l≠d∧H0 l=none∧H l=some (.lst xs)∧sG H xs (M s))∧∀ s s' v,a8 kvs s=some v→a8 kvs s'=some v→s=s'
theorem fJ.new {H0 H:Hp} {d:Addr} (n:H0 d=none) (e:H d=some (.dT [])):fJ H0 H d (fun _=>[]) 0 :=
 ⟨n,[],e,Nat.le_refl _,fun _ _=>rfl,fun s v h=>(by cases h),fun s s' v h=>(by cases h)⟩
theorem fJ.but {H0 H H':Hp} {S:List Addr} {d:Addr} {M:List Key→List (List Key×Int)} {n:Nat} (h:fJ H0 H d M n) (m:aV S H H') (nt:NoT H S) (hS:∀ x∈S,∃ o,H0 x=some o):fJ H0 H' d M n:=by
 obtain ⟨kvs,h1,h2,h3,h4,h5⟩:=h.ob;have out:∀ {x:Addr},H0 x=none→x∉S:=fun {x} hx hm=>by
  obtain ⟨o,ho⟩:=hS x hm;rw [hx] at ho; cases ho
 refine ⟨h.nd,kvs,m _ _ h1 (out h.nd),h2,h3,fun s v hv=>?_,h5⟩;obtain ⟨l,xs,e,q1,q2,q3,q5⟩:=h4 s v hv;exact ⟨l,xs,e,q1,q2,m _ _ q3 (out q2),q5.but m nt⟩
theorem fJ.mono {H0 H H':Hp} {d:Addr} {M:List Key→List (List Key×Int)} {n:Nat} (h:fJ H0 H d M n) (m:ao H H'):fJ H0 H' d M n :=
 h.but (m.butL []) (fun x hx=>nomatch hx) (fun x hx=>nomatch hx)
theorem fJ.le {H0 H:Hp} {d:Addr} {M:List Key→List (List Key×Int)} {n m:Nat} (h:fJ H0 H d M n) (hm:n≤m):fJ H0 H d M m :=
 let ⟨kvs,h1,h2,h3⟩:=h.ob; ⟨h.nd,kvs,h1,Nat.le_trans h2 hm,h3⟩
noncomputable def pe (M:List Key→List (List Key×Int)) (k:List Key) (q:List Key×Int):List Key→List (List Key×Int):=fun s=>if s=k then M s++[q] else M s
theorem fJ.add {H0 H:Hp} {d l b:Addr} {M:List Key→List (List Key×Int)} {n:Nat} {kvs:List (List Key×V)} {k:List Key} {q:List Key×Int} {xs:List V} (h:fJ H0 H d M n) (e:H d=some (.dT kvs)) (hv:a8 kvs k=some (.ref l)) (hl:H l=some (.lst xs)) (hb:PrN H (.ref b) q):fJ H0 (L2.upd H l (.lst (xs++[.ref b]))) d (pe M k q) n:=by
 obtain ⟨kvs',h1,h2,h3,h4,h5⟩:=h.ob;rw [e] at h1
 cases h1;have mb:aV [l] H (L2.upd H l (.lst (xs++[.ref b]))):=(aV.refl _ _).upd (by simp);have nt:NoT H [l]:=fun x hx ys=>by rw [List.mem_singleton.mp hx,hl]; intro z; cases z
 obtain ⟨l',xs',e',q1,q2,q3,q5⟩:=h4 k _ hv
 cases e';rw [hl] at q3
 cases q3;refine ⟨h.nd,kvs,by rw [aw q1.symm]; exact e,h2,fun s hs=>?_,fun s v hs=>?_,h5⟩
 ·unfold pe;rw [if_neg (fun z=>by rw [z,hv] at hs; cases hs)];exact h3 s hs
 ·unfold pe;by_cases hk:s=k
  ·subst hk;rw [hv] at hs
   cases hs;rw [if_pos rfl];exact ⟨l,_,rfl,q1,q2,ai,(q5.but mb nt).snoc (hb.but mb nt)⟩
  ·rw [if_neg hk];obtain ⟨l2,xs2,e2,r1,r2,r3,r5⟩:=h4 s v hs;have:l2≠l:=fun z=>hk (h5 s k v hs (by rw [hv,e2,z]))
   exact ⟨l2,xs2,e2,r1,r2,by rw [aw this]; exact r3,r5.but mb nt⟩
theorem fJ.put {H0 H:Hp} {d l:Addr} {M:List Key→List (List Key×Int)} {n:Nat} {kvs:List (List Key×V)} {k:List Key} (h:fJ H0 H d M n) (e:H d=some (.dT kvs)) (hv:a8 kvs k=none) (hl:H l=some (.lst [])) (n0:H0 l=none) (nd:l≠d) (fr:∀ s v,a8 kvs s=some v→v≠.ref l):fJ H0 (L2.upd H d (.dT (bO kvs k (.ref l)))) d M (n+1):=by
 obtain ⟨kvs',h1,h2,h3,h4,h5⟩:=h.ob;rw [e] at h1
 cases h1;have mb:aV [d] H (L2.upd H d (.dT (bO kvs k (.ref l)))):=(aV.refl _ _).upd (by simp);have nt:NoT H [d]:=fun x hx ys=>by rw [List.mem_singleton.mp hx,e]; intro z; cases z
 refine ⟨h.nd,_,ai,by have:=dj kvs k (.ref l); omega,fun s hs=>?_,fun s v hs=>?_,fun s s' v h1 h2=>?_⟩
 ·rw [cK] at hs;by_cases hk:s=k
  ·rw [if_pos hk] at hs; cases hs
  ·rw [if_neg hk] at hs; exact h3 s hs
 ·rw [cK] at hs;by_cases hk:s=k
  ·rw [if_pos hk] at hs
   cases hs;subst hk;exact ⟨l,[],rfl,nd,n0,by rw [aw nd]; exact hl,by rw [h3 _ hv]; exact ⟨rfl,fun i v q z=>by simp at z⟩⟩
  ·rw [if_neg hk] at hs;obtain ⟨l2,xs2,e2,r1,r2,r3,r5⟩:=h4 s v hs;exact ⟨l2,xs2,e2,r1,r2,by rw [aw r1]; exact r3,r5.but mb nt⟩
 ·rw [cK] at h1 h2;by_cases hk:s=k
  ·by_cases hk':s'=k
   ·rw [hk,hk']
   ·rw [if_pos hk] at h1;rw [if_neg hk'] at h2
    cases h1;exact absurd rfl (fr s' _ h2)
  ·by_cases hk':s'=k
   ·rw [if_neg hk] at h1;rw [if_pos hk'] at h2
    cases h2;exact absurd rfl (fr s _ h1)
   ·rw [if_neg hk] at h1;rw [if_neg hk'] at h2;exact h5 s s' v h1 h2
theorem nq {F:List (Int×Fct)} {nf:Int×Fct}:cJ (F++[nf])=pe (pe (cJ F) nf.2.tie.1 (nf.2.tie.2.1,nf.1)) nf.2.tie.2.1 (nf.2.tie.1,nf.1):=by
 funext s
 unfold pe cJ oy;rw [List.flatMap_append];have e:[nf].flatMap (fun nf:Int×Fct=>(if nf.2.tie.1=s then [(nf.2.tie.2.1,nf.1)] else [])++(if nf.2.tie.2.1=s then [(nf.2.tie.1,nf.1)] else []))=(if nf.2.tie.1=s then [(nf.2.tie.2.1,nf.1)] else [])++(if nf.2.tie.2.1=s then [(nf.2.tie.1,nf.1)] else []):=by simp
 rw [e];by_cases h1:s=nf.2.tie.1<;>by_cases h2:s=nf.2.tie.2.1
 ·rw [if_pos h1,if_pos h2,if_pos h1.symm,if_pos h2.symm,List.append_assoc]
 ·rw [if_pos h1,if_neg h2,if_pos h1.symm,if_neg (fun z=>h2 z.symm),List.append_nil]
 ·rw [if_neg h1,if_pos h2,if_neg (fun z=>h1 z.symm),if_pos h2.symm,List.nil_append]
 ·rw [if_neg h1,if_neg h2,if_neg (fun z=>h1 z.symm),if_neg (fun z=>h2 z.symm),List.append_nil,List.append_nil]
theorem oW (F:List (Int×Fct)) (s:List Key):(cJ F s).length≤2*F.length:=by
 unfold cJ
 induction F with
 | nil=>exact Nat.zero_le _
 | cons nf F ih =>
  rw [List.flatMap_cons,List.length_append,List.length_cons];have:(oy nf s).length≤2:=by
   unfold oy;rw [List.length_append]
   split<;>split<;>simp
  omega
def sp_an:Sp:=fun vs H Q _=>∃ (df:Addr) (kf:List (Key×V)) (F:List (Int×Fct)),vs=[.ref df]∧H df=some (.dK kf)∧PwN H kf F∧F.length≤400∧∀ d H',ao H H'→fJ H H' d (cJ F) (2*F.length)→Q (.ref d) H'
theorem ok_an (T:Txt K mg t):aU P w K mg base CX0 3 t.f_an t.d_an ["facts"] sp_an:=by
  refine T.F_an.ok sc_an (fun vs H Q E h=>?_) (fun cdv A outer s H vs Q E hr h=>?_)
  · obtain ⟨df,kf,F,rfl,_⟩:=h; rfl
  · obtain ⟨df,kf,F,rfl,hdf,pn,lF,k⟩:=h
    refine aH (aF 1 sc_an.nd rB) fun _ _=>aH (A1 (dR PassesOwn.never rfl (yp (pS PySem.F.plainAttrs_dict PySem.F.slot_dict_items PySem.F.type_dict_items rj (pv 0))) (gA (n:=2) K rfl rfl (bJ (aP (i:=2) sc_an.nd rfl (Or.inl rfl)) (bJ (aP (i:=3) sc_an.nd rfl (Or.inl rfl)) fB))) (aK (aF 4 sc_an.nd (aB (ok_ao T) (rmo hr) rfl T.mg_ao T.F_ao.kp T.b_ao .nil bo (aa (pv 3) ag))) (aK (eR (bG (cy PySem.F.plainAttrs_list PySem.F.slot_list_append PySem.F.type_list_append cf (rC (b0 hr) (pv 1) (au (ay K rfl) (pv 4) ae) (bP ag) ⟨rfl,rfl,rfl,rfl⟩) (aa (aQ (aa (au (ay K rfl) (pv 4) ae) (aa (pv 2) ag))) ag)))) (ak (bG (cy PySem.F.plainAttrs_list PySem.F.slot_list_append PySem.F.type_list_append cf (rC (b0 hr) (pv 1) (au (ay K rfl) (pv 4) ae) (bP ag) ⟨rfl,rfl,rfl,rfl⟩) (aa (aQ (aa (au (ay K rfl) (pv 4) ae) (aa (pv 2) ag))) ag)))))))) fun _ _=>cS (aJ (pv 1)) fun _ _=>?_;left;intro d nd;have s1:=ao.new (o:=HO.dT []) nd;have e1:=ai (H:=H) (a:=d) (o:=HO.dT []);generalize upd H d (HO.dT [])=H1 at s1 e1 ⊢;apply pU (s1 _ _ hdf) ?_;refine jO (s1 _ _ hdf) fun v nv=>?_;have sv:=ao.new (o:=cC "dict_items" v df) nv;have ev:=ai (H:=H1) (a:=v) (o:=cC "dict_items" v df);generalize upd H1 v (cC "dict_items" v df)=H2 at sv ev ⊢;have hd2:=sv _ _ (s1 _ _ hdf);refine ⟨v,df,kf,rfl,ev,hd2,fun FF hFF=>?_⟩;have ndf:d≠df:=(aE hdf nd).symm;have b3:aV [df] H (upd H2 df FF):=fun b o e hb=>by rw [aw (fun z=>hb (by rw [z]; exact List.mem_singleton.mpr rfl))]; exact sv _ _ (s1 _ _ e)
    have e3:=ai (H:=H2) (a:=df) (o:=FF);have d3:upd H2 df FF d=some (.dT []):=by rw [aw ndf]; exact sv _ _ e1
    have nt:NoT H [df]:=fun x hx ys=>by rw [List.mem_singleton.mp hx,hdf]; intro z; cases z
    generalize upd H2 df FF=H3 at b3 e3 d3 ⊢;refine sV (fun i σ' H'=>∃ (o2 o3 o4:Option V),σ'=[some (.ref df),some (.ref d),o2,o3,o4]∧aV [df] H H'∧H' df=some FF∧fJ H H' d (cJ (F.take i)) (2*i)) ⟨none,none,none,rfl,b3,e3,fJ.new nd d3⟩ ?_ ?_ ?_
    · rintro i σ' H' _ ⟨_,_,_,rfl,_,e,_⟩
      exact e
    · rintro i kk x b σ' H4 hk ⟨o2,o3,o4,rfl,b4,e4,ty4⟩ nb
      have hi:i<F.length:=by rw [← pn.1]; exact (List.getElem?_eq_some_iff.mp hk).1
      have hnf:=List.getElem?_eq_getElem hi;have htk:F.take (i+1)=F.take i++[F[i]]:=(List.take_append_getElem hi).symm;generalize F[i]=nf at hnf htk;obtain ⟨rfl,a,rfl,ha⟩:=pn.2 i kk x nf hk hnf;rw [show kV (Sum.inl nf.1)=V.int nf.1 from rfl];have s5:=ao.new (o:=HO.tup [V.int nf.1,V.ref a]) nb;have e5:=ai (H:=H4) (a:=b) (o:=HO.tup [V.int nf.1,V.ref a]);generalize upd H4 b (HO.tup [V.int nf.1,V.ref a])=H5 at s5 e5 ⊢;have ha5:=s5 _ _ (bu b4 nt ha);refine fD e5 rfl ?_;apply ⟨a,nf.2,rfl,ha5,fun Ts c0 c1 H6 s6 pr=>?_⟩;have s46:=s5.trans s6;have b6:=b4.trans (s46.butL _);have ty6:=ty4.mono s46;have e6:=s46 _ _ e4;left;have ml6:∀ s,(cJ (F.take i) s).length≤801:=fun s=>by have:=oW (F.take i) s; rw [List.length_take] at this; omega
      refine eS (fun σ' H'=>σ'=[some (.ref df),some (.ref d),some (.int nf.1),some (.ref a),some (.ref Ts)]∧aV [df] H H'∧H' df=some FF∧fJ H H' d (pe (cJ (F.take i)) nf.2.tie.1 (nf.2.tie.2.1,nf.1)) (2*i+1)∧iK H' Ts c0 c1 nf.2.tie.1 nf.2.tie.2.1) ?_ ?_
      · left
        obtain ⟨kvs,g1,g2,g3,g4,g5⟩:=ty6.ob;refine rH ?_;apply ⟨.inr ⟨kvs,.inl g1⟩,?_⟩;apply aA (SqT.of pr.1) (v:=.ref c0) rfl ?_;apply nwL fun l0 H7 sl0 nl0 el0=>?_;have ty7:=ty6.mono sl0;have pr7:=pr.mono sl0;have b7:=b6.trans (sl0.butL _);have e7:=sl0 _ _ e6;refine ⟨kvs,nf.2.tie.1,c0,rfl,sl0 _ _ g1,sl0 _ _ pr.2.1,aZ (by omega),fun v hv=>?_,fun hv=>?_⟩
        · obtain ⟨l,xs,rfl,r1,r2,r3,r4⟩:=g4 _ _ hv
          have lx:xs.length≤801:=by rw [r4.1]; exact ml6 _
          apply dF (sl0 _ _ r3) ?_;apply aA (SqT.of pr7.1) (v:=.ref c1) rfl ?_;apply nwT fun b2 H8 sb2 nb2 eb2=>?_;apply bX (sb2 _ _ (sl0 _ _ r3)) (aZ (by omega)) ?_;have tyF:=(ty7.mono sb2).add (k:=nf.2.tie.1) (q:=(nf.2.tie.2.1,nf.1)) (sb2 _ _ (sl0 _ _ g1)) hv (sb2 _ _ (sl0 _ _ r3)) ⟨b2,c1,rfl,eb2,sb2 _ _ (sl0 _ _ pr.2.2)⟩;have bF:aV [df] H (upd H8 l (.lst (xs++[.ref b2]))):=fun c o e hc=>by rw [aw (aE e r2)]; exact sb2 _ _ (b7 _ _ e hc)
          have eF:upd H8 l (.lst (xs++[.ref b2])) df=some FF:=by rw [aw (aE hdf r2)]; exact sb2 _ _ e7
          have prF:iK (upd H8 l (.lst (xs++[.ref b2]))) Ts c0 c1 nf.2.tie.1 nf.2.tie.2.1:=by
            have q:=pr7.mono sb2;have nn:∀ {x:Addr} {ys:List V},H8 x=some (.tup ys)→upd H8 l (.lst (xs++[.ref b2])) x=some (.tup ys):=fun {x ys} h=>by rw [aw (fun z=>by rw [z,sb2 _ _ (sl0 _ _ r3)] at h; cases h)]; exact h
            exact ⟨nn q.1,nn q.2.1,nn q.2.2⟩
          left;exact ⟨rfl,bF,eF,tyF.le (by omega),prF⟩
        · have nl0H:H l0=none:=by
            cases z:H l0 with
            | none=>rfl
            | some o =>
              by_cases hz:l0=df
              · rw [hz,e6] at nl0; cases nl0
              · rw [b6 _ _ z (by rw [List.mem_singleton]; exact hz)] at nl0; cases nl0
          have l0d:l0≠d:=(aE g1 nl0).symm;have ty8:=ty7.put (k:=nf.2.tie.1) (l:=l0) (sl0 _ _ g1) hv el0 nl0H l0d fun s v hs z=>by
            obtain ⟨l2,xs2,e2,r1,r2,r3,_⟩:=g4 s v hs;rw [e2] at z
            cases z;rw [r3] at nl0; cases nl0
          have nT:∀ {x:Addr} {ys:List V},H7 x=some (.tup ys)→upd H7 d (.dT (bO kvs nf.2.tie.1 (.ref l0))) x=some (.tup ys):=fun {x ys} h=>by rw [aw (fun z=>by rw [z,sl0 _ _ g1] at h; cases h)]; exact h
          have pr8:iK (upd H7 d (.dT (bO kvs nf.2.tie.1 (.ref l0)))) Ts c0 c1 nf.2.tie.1 nf.2.tie.2.1:=⟨nT pr7.1,nT pr7.2.1,nT pr7.2.2⟩
          have b8:aV [df] H (upd H7 d (.dT (bO kvs nf.2.tie.1 (.ref l0)))):=fun c o e hc=>by rw [aw (aE e nd)]; exact b7 _ _ e hc
          have e8:upd H7 d (.dT (bO kvs nf.2.tie.1 (.ref l0))) df=some FF:=by rw [aw ndf.symm]; exact e7
          have el8:upd H7 d (.dT (bO kvs nf.2.tie.1 (.ref l0))) l0=some (.lst []):=by rw [aw l0d]; exact el0
          have ed8:=ai (H:=H7) (a:=d) (o:=HO.dT (bO kvs nf.2.tie.1 (.ref l0)));generalize upd H7 d (.dT (bO kvs nf.2.tie.1 (.ref l0)))=H8 at ty8 pr8 b8 e8 el8 ed8 ⊢;apply dF el8 ?_;apply aA (SqT.of pr8.1) (v:=.ref c1) rfl ?_;apply nwT fun b2 H9 sb2 nb2 eb2=>?_;apply bX (sb2 _ _ el8) (by decide) ?_;have tyF:=(ty8.mono sb2).add (k:=nf.2.tie.1) (q:=(nf.2.tie.2.1,nf.1)) (sb2 _ _ ed8) (by rw [cK,if_pos rfl]) (sb2 _ _ el8) ⟨b2,c1,rfl,eb2,sb2 _ _ pr8.2.2⟩;have bF:aV [df] H (upd H9 l0 (.lst ([]++[.ref b2]))):=fun c o e hc=>by rw [aw (aE e nl0H)]; exact sb2 _ _ (b8 _ _ e hc)
          have eF:upd H9 l0 (.lst ([]++[.ref b2])) df=some FF:=by rw [aw (aE hdf nl0H)]; exact sb2 _ _ e8
          have prF:iK (upd H9 l0 (.lst ([]++[.ref b2]))) Ts c0 c1 nf.2.tie.1 nf.2.tie.2.1:=by
            have q:=pr8.mono sb2;have nn:∀ {x:Addr} {ys:List V},H9 x=some (.tup ys)→upd H9 l0 (.lst ([]++[.ref b2])) x=some (.tup ys):=fun {x ys} h=>by rw [aw (fun z=>by rw [z,sb2 _ _ el8] at h; cases h)]; exact h
            exact ⟨nn q.1,nn q.2.1,nn q.2.2⟩
          left;exact ⟨rfl,bF,eF,tyF.le (by omega),prF⟩
      · clear pr ty6 e6 b6 s46 s6 s5 e5 ha5 ty4 e4 b4
        rintro σ' H6 ⟨rfl,b6,e6,ty6,pr⟩;have ml6:∀ s,(pe (cJ (F.take i)) nf.2.tie.1 (nf.2.tie.2.1,nf.1) s).length≤801:=fun s=>by
          have:=ml6 s
          have h2:=oW (F.take i) s;rw [List.length_take] at h2;unfold pe
          split
          · rw [List.length_append]; show _+1≤_; omega
          · exact this
        left;obtain ⟨kvs,g1,g2,g3,g4,g5⟩:=ty6.ob;refine rH ?_;apply ⟨.inr ⟨kvs,.inl g1⟩,?_⟩;apply aA (SqT.of pr.1) (v:=.ref c1) rfl ?_;apply nwL fun l0 H7 sl0 nl0 el0=>?_;have ty7:=ty6.mono sl0;have pr7:=pr.mono sl0;have b7:=b6.trans (sl0.butL _);have e7:=sl0 _ _ e6;refine ⟨kvs,nf.2.tie.2.1,c1,rfl,sl0 _ _ g1,sl0 _ _ pr.2.2,aZ (by omega),fun v hv=>?_,fun hv=>?_⟩
        · obtain ⟨l,xs,rfl,r1,r2,r3,r4⟩:=g4 _ _ hv
          have lx:xs.length≤801:=by rw [r4.1]; exact ml6 _
          apply dF (sl0 _ _ r3) ?_;apply aA (SqT.of pr7.1) (v:=.ref c0) rfl ?_;apply nwT fun b2 H8 sb2 nb2 eb2=>?_;apply bX (sb2 _ _ (sl0 _ _ r3)) (aZ (by omega)) ?_;have tyF:=(ty7.mono sb2).add (k:=nf.2.tie.2.1) (q:=(nf.2.tie.1,nf.1)) (sb2 _ _ (sl0 _ _ g1)) hv (sb2 _ _ (sl0 _ _ r3)) ⟨b2,c0,rfl,eb2,sb2 _ _ (sl0 _ _ pr.2.1)⟩;have bF:aV [df] H (upd H8 l (.lst (xs++[.ref b2]))):=fun c o e hc=>by rw [aw (aE e r2)]; exact sb2 _ _ (b7 _ _ e hc)
          have eF:upd H8 l (.lst (xs++[.ref b2])) df=some FF:=by rw [aw (aE hdf r2)]; exact sb2 _ _ e7
          have prF:iK (upd H8 l (.lst (xs++[.ref b2]))) Ts c0 c1 nf.2.tie.1 nf.2.tie.2.1:=by
            have q:=pr7.mono sb2;have nn:∀ {x:Addr} {ys:List V},H8 x=some (.tup ys)→upd H8 l (.lst (xs++[.ref b2])) x=some (.tup ys):=fun {x ys} h=>by rw [aw (fun z=>by rw [z,sb2 _ _ (sl0 _ _ r3)] at h; cases h)]; exact h
            exact ⟨nn q.1,nn q.2.1,nn q.2.2⟩
          left;exact ⟨_,_,_,rfl,bF,eF,by rw [htk,nq]; exact tyF.le (by omega)⟩
        · have nl0H:H l0=none:=by
            cases z:H l0 with
            | none=>rfl
            | some o =>
              by_cases hz:l0=df
              · rw [hz,e6] at nl0; cases nl0
              · rw [b6 _ _ z (by rw [List.mem_singleton]; exact hz)] at nl0; cases nl0
          have l0d:l0≠d:=(aE g1 nl0).symm;have ty8:=ty7.put (k:=nf.2.tie.2.1) (l:=l0) (sl0 _ _ g1) hv el0 nl0H l0d fun s v hs z=>by
            obtain ⟨l2,xs2,e2,r1,r2,r3,_⟩:=g4 s v hs;rw [e2] at z
            cases z;rw [r3] at nl0; cases nl0
          have nT:∀ {x:Addr} {ys:List V},H7 x=some (.tup ys)→upd H7 d (.dT (bO kvs nf.2.tie.2.1 (.ref l0))) x=some (.tup ys):=fun {x ys} h=>by rw [aw (fun z=>by rw [z,sl0 _ _ g1] at h; cases h)]; exact h
          have pr8:iK (upd H7 d (.dT (bO kvs nf.2.tie.2.1 (.ref l0)))) Ts c0 c1 nf.2.tie.1 nf.2.tie.2.1:=⟨nT pr7.1,nT pr7.2.1,nT pr7.2.2⟩
          have b8:aV [df] H (upd H7 d (.dT (bO kvs nf.2.tie.2.1 (.ref l0)))):=fun c o e hc=>by rw [aw (aE e nd)]; exact b7 _ _ e hc
          have e8:upd H7 d (.dT (bO kvs nf.2.tie.2.1 (.ref l0))) df=some FF:=by rw [aw ndf.symm]; exact e7
          have el8:upd H7 d (.dT (bO kvs nf.2.tie.2.1 (.ref l0))) l0=some (.lst []):=by rw [aw l0d]; exact el0
          have ed8:=ai (H:=H7) (a:=d) (o:=HO.dT (bO kvs nf.2.tie.2.1 (.ref l0)));generalize upd H7 d (.dT (bO kvs nf.2.tie.2.1 (.ref l0)))=H8 at ty8 pr8 b8 e8 el8 ed8 ⊢;apply dF el8 ?_;apply aA (SqT.of pr8.1) (v:=.ref c0) rfl ?_;apply nwT fun b2 H9 sb2 nb2 eb2=>?_;apply bX (sb2 _ _ el8) (by decide) ?_;have tyF:=(ty8.mono sb2).add (k:=nf.2.tie.2.1) (q:=(nf.2.tie.1,nf.1)) (sb2 _ _ ed8) (by rw [cK,if_pos rfl]) (sb2 _ _ el8) ⟨b2,c0,rfl,eb2,sb2 _ _ pr8.2.1⟩;have bF:aV [df] H (upd H9 l0 (.lst ([]++[.ref b2]))):=fun c o e hc=>by rw [aw (aE e nl0H)]; exact sb2 _ _ (b8 _ _ e hc)
          have eF:upd H9 l0 (.lst ([]++[.ref b2])) df=some FF:=by rw [aw (aE hdf nl0H)]; exact sb2 _ _ e8
          have prF:iK (upd H9 l0 (.lst ([]++[.ref b2]))) Ts c0 c1 nf.2.tie.1 nf.2.tie.2.1:=by
            have q:=pr8.mono sb2;have nn:∀ {x:Addr} {ys:List V},H9 x=some (.tup ys)→upd H9 l0 (.lst ([]++[.ref b2])) x=some (.tup ys):=fun {x ys} h=>by rw [aw (fun z=>by rw [z,sb2 _ _ el8] at h; cases h)]; exact h
            exact ⟨nn q.1,nn q.2.1,nn q.2.2⟩
          left;exact ⟨_,_,_,rfl,bF,eF,by rw [htk,nq]; exact tyF.le (by omega)⟩
    · rintro σ' H4 ⟨o2,o3,o4,rfl,b4,e4,ty4⟩
      have hl:kf.length=F.length:=pn.1;rw [hl,List.take_of_length_le (Nat.le_refl _)] at ty4;have fin:ao H (upd H4 df (.dK kf)):=fun c o e=>by
        by_cases hc:c=df
        · subst hc; rw [ai,← hdf,e]
        · rw [aw hc]; exact b4 _ _ e (by rw [List.mem_singleton]; exact hc)
      refine ⟨_,⟨df,kf,FF,hFF,e4,rfl⟩,?_⟩;obtain ⟨φ,rfl⟩:=hFF.ext;have mb:aV [df] H4 (upd H4 df (.dK kf)):=(aV.refl _ _).upd (by simp);have ty5:=ty4.but mb (fun x hx ys=>by rw [List.mem_singleton.mp hx,e4]; intro z; cases z) (fun x hx=>⟨.dK kf,by rw [List.mem_singleton.mp hx]; exact hdf⟩);left;exact k d _ fin ty5
def jD (F:List (Int×Fct)):List Key→List Key→Int→Prop:=fun s s' n=>∃ f,(n,f)∈F∧((f.tie.1=s∧f.tie.2.1=s')∨(f.tie.2.1=s∧f.tie.1=s'))
theorem vH {F:List (Int×Fct)} {s:List Key} {q:List Key×Int} (h:q∈cJ F s):jD F q.1 s q.2:=by
 unfold cJ at h;obtain ⟨nf,hm,h⟩:=List.mem_flatMap.mp h;unfold oy at h;rcases List.mem_append.mp h with h | h
 ·split at h
  ·rename_i e;rw [List.mem_singleton.mp h];exact ⟨nf.2,hm,.inr ⟨rfl,e⟩⟩
  ·cases h
 ·split at h
  ·rename_i e;rw [List.mem_singleton.mp h];exact ⟨nf.2,hm,.inl ⟨rfl,e⟩⟩
  ·cases h
theorem i6 {F:List (Int×Fct)} {s s':List Key} {n:Int} (h:jD F s s' n):(s',n)∈cJ F s:=by
 obtain ⟨f,hm,h⟩:=h;refine List.mem_flatMap.mpr ⟨(n,f),hm,?_⟩;unfold oy;rcases h with ⟨h1,h2⟩ | ⟨h1,h2⟩
 ·exact List.mem_append_left _ (by rw [if_pos h1,← h2]; exact List.mem_singleton.mpr rfl)
 ·exact List.mem_append_right _ (by rw [if_pos h1,← h2]; exact List.mem_singleton.mpr rfl)
theorem w4 {F:List (Int×Fct)} (nd:(F.map (·.1)).Nodup):Fm.uq (jD F):=fun s s' u u' n ⟨f,hf,h1⟩ ⟨g,hg,h2⟩=>by
 have e:f=g:=by
  obtain ⟨i,hi⟩:=List.mem_iff_getElem?.mp hf;obtain ⟨j,hj⟩:=List.mem_iff_getElem?.mp hg;obtain ⟨il,ei⟩:=List.getElem?_eq_some_iff.mp hi;obtain ⟨jl,ej⟩:=List.getElem?_eq_some_iff.mp hj;have:i=j:=(List.getElem_inj (h₀:=by rw [List.length_map]; exact il) (h₁:=by rw [List.length_map]; exact jl) nd).mp (by rw [List.getElem_map,List.getElem_map,ei,ej])
  subst this;rw [ei] at ej;injection ej
 subst e;rcases h1 with ⟨a,b⟩ | ⟨a,b⟩<;>rcases h2 with ⟨c,d⟩ | ⟨c,d⟩
 ·exact .inl (a.symm.trans c)
 ·exact .inr (a.symm.trans d)
 ·exact .inr (a.symm.trans d)
 ·exact .inl (a.symm.trans c)
def nz (H:Hp) (xs:List V) (ms:List (List Key)):Prop:=xs.length=ms.length∧∀ (j:Nat) v s,xs[j]?=some v→ms[j]?=some s→∃ a,v=.ref a∧H a=some (.tup (s.map kV))
theorem nz.but {S:List Addr} {H H':Hp} {xs:List V} {ms:List (List Key)} (h:nz H xs ms) (m:aV S H H') (n:NoT H S):nz H' xs ms:=⟨h.1,fun j v s e1 e2=>let ⟨a,e,q⟩:=h.2 j v s e1 e2; ⟨a,e,bu m n q⟩⟩
theorem nz.snoc {H:Hp} {xs:List V} {ms:List (List Key)} {a:Addr} {s:List Key} (h:nz H xs ms) (ha:H a=some (.tup (s.map kV))):nz H (xs++[.ref a]) (ms++[s]):=by
 refine ⟨by rw [List.length_append,List.length_append,h.1]; rfl,fun j v u e1 e2=>?_⟩;by_cases hi:j<xs.length
 ·rw [List.getElem?_append_left hi] at e1;rw [List.getElem?_append_left (by rw [← h.1]; exact hi)] at e2;exact h.2 j v u e1 e2
 ·rw [List.getElem?_append_right (by omega)] at e1;rw [List.getElem?_append_right (by rw [← h.1]; omega),← h.1] at e2;have:j - xs.length=0:=by
   have hh:=(List.getElem?_eq_some_iff.mp e1).1;rw [List.length_singleton] at hh;omega
  rw [this] at e1 e2
  cases e1; cases e2
  exact ⟨a,rfl,ha⟩
structure iJ (H:Hp) (on:Addr) (root:List Key) (ms:List (List Key)) (ps:List (Nat×Int)):Prop where
 ob:∃ kvs:List (List Key×V),H on=some (.dT kvs)∧kvs.length≤ms.length∧(∀ s,s∉ms→a8 kvs s=none)∧a8 kvs root=some .non ∧
  ∀ (j:Nat) s p n,0<j→ms[j]?=some s→ps[j]?=some (p,n)→∃ b a s',a8 kvs s=some (.ref b)∧H b=some (.tup [.ref a,.int n])∧ms[p]?=some s'∧H a=some (.tup (s'.map kV))
theorem iJ.but {S:List Addr} {H H':Hp} {on:Addr} {root:List Key} {ms:List (List Key)} {ps:List (Nat×Int)} (h:iJ H on root ms ps) (m:aV S H H') (n:NoT H S) (ho:on∉S):iJ H' on root ms ps:=by
 obtain ⟨kvs,h1,h2,h3,h4,h5⟩:=h.ob;exact ⟨kvs,m _ _ h1 ho,h2,h3,h4,fun j s p q a b c=>let ⟨b',a',s',e1,e2,e3,e4⟩:=h5 j s p q a b c; ⟨b',a',s',e1,bu m n e2,e3,bu m n e4⟩⟩
theorem iJ.put {E:List Key→List Key→Int→Prop} {H:Hp} {on b a:Addr} {root s s':List Key} {ms:List (List Key)} {ps:List (Nat×Int)} {kvs:List (List Key×V)} {p:Nat} {n:Int} (tr:Fm.iL E root ms ps) (h:iJ H on root ms ps) (e:H on=some (.dT kvs)) (hs:s∉ms) (hb:H b=some (.tup [.ref a,.int n])) (hp:ms[p]?=some s') (ha:H a=some (.tup (s'.map kV))):iJ (L2.upd H on (.dT (bO kvs s (.ref b)))) on root (ms++[s]) (ps++[(p,n)]):=by
 obtain ⟨kvs',h1,h2,h3,h4,h5⟩:=h.ob;rw [e] at h1
 cases h1;have mb:aV [on] H (L2.upd H on (.dT (bO kvs s (.ref b)))):=(aV.refl _ _).upd (by simp);have nt:NoT H [on]:=fun x hx ys=>by rw [List.mem_singleton.mp hx,e]; intro z; cases z
 have lp:p<ms.length:=(List.getElem?_eq_some_iff.mp hp).1;refine ⟨_,ai,by have:=dj kvs s (.ref b); rw [List.length_append]; show _≤_+1; omega,fun u hu=>?_,?_,fun j u q m h0 e1 e2=>?_⟩
 ·rw [cK,if_neg (fun z=>hu (by rw [z]; exact List.mem_append_right _ (List.mem_singleton.mpr rfl)))];exact h3 u fun z=>hu (List.mem_append_left _ z)
 ·rw [cK,if_neg (fun z=>hs (by rw [← z]; exact List.mem_of_getElem? tr.hd))];exact h4
 ·by_cases hj:j<ms.length
  ·rw [List.getElem?_append_left hj] at e1;rw [List.getElem?_append_left (by rw [tr.len]; exact hj)] at e2;obtain ⟨b',a',s2,q1,q2,q3,q4⟩:=h5 j u q m h0 e1 e2;obtain ⟨lq,_⟩:=tr.par j u q m h0 e1 e2;exact ⟨b',a',s2,by rw [cK,if_neg (fun z=>hs (by rw [← z]; exact List.mem_of_getElem? e1))]; exact q1,bu mb nt q2,by rw [List.getElem?_append_left (by omega)]; exact q3,bu mb nt q4⟩
  ·rw [List.getElem?_append_right (by omega)] at e1;rw [List.getElem?_append_right (by rw [tr.len]; omega),tr.len] at e2;have:j - ms.length=0:=by
    have hh:=(List.getElem?_eq_some_iff.mp e1).1;rw [List.length_singleton] at hh;omega
   rw [this] at e1 e2
   cases e1; cases e2
   exact ⟨b,a,s',by rw [cK,if_pos rfl],bu mb nt hb,by rw [List.getElem?_append_left lp]; exact hp,bu mb nt ha⟩
theorem iJ.isIn {E:List Key→List Key→Int→Prop} {H:Hp} {on:Addr} {root s:List Key} {ms:List (List Key)} {ps:List (Nat×Int)} {kvs:List (List Key×V)} (tr:Fm.iL E root ms ps) (h:iJ H on root ms ps) (e:H on=some (.dT kvs)):(a8 kvs s).isSome=decide (s∈ms):=by
 obtain ⟨kvs',h1,h2,h3,h4,h5⟩:=h.ob;rw [e] at h1
 cases h1;by_cases hs:s∈ms
 ·rw [aM hs];obtain ⟨j,hj⟩:=List.mem_iff_getElem?.mp hs;by_cases h0:j=0
  ·subst h0;rw [tr.hd] at hj
   cases hj;rw [h4]; rfl
  ·have jl:=(List.getElem?_eq_some_iff.mp hj).1;obtain ⟨b,_,_,q,_⟩:=h5 j s _ _ (by omega) hj (List.getElem?_eq_getElem (by rw [tr.len]; exact jl));rw [q]; rfl
 ·rw [aO hs,h3 s hs]; rfl
theorem iC {α:Type} [DecidableEq α]:∀ (a b:List α),a.Nodup→(∀ x∈a,x∈b)→a.length≤b.length
 | [],_,_,_=>Nat.zero_le _
 | x::a,b,nd,h=>by
  have hx:=h x List.mem_cons_self;obtain ⟨hn,nd⟩:=List.nodup_cons.mp nd;have:=iC a (b.erase x) nd fun y hy=>(List.mem_erase_of_ne fun e=>hn (by rw [← e]; exact hy)).mpr (h y (List.mem_cons_of_mem _ hy))
  rw [List.length_erase_of_mem hx] at this;have:=List.length_pos_of_mem hx
  rw [List.length_cons];omega
noncomputable def Cj (F:List (Int×Fct)):List Fm.Tie:=F.map fun nf=>nf.2.tie
theorem uH {F:List (Int×Fct)} {ms:List (List Key)} {s0 s1:List Key} (h1:s1∈ms) (cl:∀ s∈ms,∀ q∈cJ F s,q.1∈ms) (hc:Fm.Con (Cj F) s1 s0):s0∈ms:=by
 refine Fm.lX h1 (fun e he=>?_) hc;obtain ⟨nf,hm,rfl⟩:=List.mem_map.mp he;exact ⟨fun z=>cl _ z (nf.2.tie.2.1,nf.1) (i6 ⟨nf.2,hm,.inl ⟨rfl,rfl⟩⟩),fun z=>cl _ z (nf.2.tie.1,nf.1) (i6 ⟨nf.2,hm,.inr ⟨rfl,rfl⟩⟩)⟩
def sD (H:Hp) (ms:List (List Key)) (ps:List (Nat×Int)) (j:Nat) (v:V):Prop:=(j=0∧v=.non)∨(0<j∧∃ b a p n s',ps[j]?=some (p,n)∧v=.ref b∧H b=some (.tup [.ref a,.int n])∧ms[p]?=some s'∧H a=some (.tup (List.map kV s')))
theorem iJ.link {E:List Key→List Key→Int→Prop} {H:Hp} {on:Addr} {root s:List Key} {ms:List (List Key)} {ps:List (Nat×Int)} {kvs:List (List Key×V)} (tr:Fm.iL E root ms ps) (h:iJ H on root ms ps) (e:H on=some (.dT kvs)) {j:Nat} (hj:ms[j]?=some s):∃ v,a8 kvs s=some v∧sD H ms ps j v:=by
 obtain ⟨kvs',h1,h2,h3,h4,h5⟩:=h.ob;rw [e] at h1
 cases h1;by_cases h0:j=0
 ·subst h0;rw [tr.hd] at hj
  cases hj;exact ⟨_,h4,.inl ⟨rfl,rfl⟩⟩
 ·have jl:=(List.getElem?_eq_some_iff.mp hj).1;have hp:=List.getElem?_eq_getElem (show j<ps.length by rw [tr.len]; exact jl);obtain ⟨b,a,s',q1,q2,q3,q4⟩:=h5 j s _ _ (by omega) hj hp;exact ⟨_,q1,.inr ⟨by omega,b,a,_,_,s',hp,rfl,q2,q3,q4⟩⟩
def sp_aD:Sp:=fun vs H Q _=>∃ (df T a b:Addr) (kf:List (Key×V)) (F:List (Int×Fct)) (D:List (List Key)) (s0 s1:List Key),vs=[.ref df,.ref T]∧H df=some (.dK kf)∧PwN H kf F∧F.length≤400∧(F.map (·.1)).Nodup∧iK H T a b s0 s1∧s0≠s1∧s1∈D∧D.length≤80∧(∀ nf∈F,nf.2.tie.1∈D∧nf.2.tie.2.1∈D)∧Fm.Con (Cj F) s1 s0 ∧
 ∀ l ns H',ao H H'→H l=none→H' l=some (.lst (List.map V.int ns))→Fm.Way (jD F) s1 s0 ns→ns.Nodup→Q (.ref l) H'
theorem ok_aD (T:Txt K mg t):aU P w K mg base CX0 4 t.f_aD t.d_aD ["facts","strips"] sp_aD:=by
  refine T.F_aD.ok sc_aD (fun vs H Q E h=>?_) (fun cdv A outer s H vs Q E hr h=>?_)
  · obtain ⟨df,Ts,a,b,kf,F,D,s0,s1,rfl,_⟩:=h; rfl
  · obtain ⟨df,Ts,a,b,kf,F,D,s0,s1,rfl,hdf,pn,lF,ndF,pr,hne,hs1,lD,hD,hcon,k⟩:=h
    refine aH (aF 2 sc_aD.nd (aB (ok_an T) (rmo hr) rfl T.mg_an T.F_an.kp T.b_an .nil bo (aa (pv 0) ag))) fun _ _=>aH (aF 3 sc_aD.nd (rA (b0 hr) (au (ay K rfl) (pv 1) ae) ja)) fun _ _=>aH (aF 4 sc_aD.nd (bP (aa (au (ay K rfl) (pv 1) ae) ag))) fun _ _=>aH (aF 5 sc_aD.nd ae) fun _ _=>aH (hJ PassesOwn.never (pT (ki (b0 hr) (au (ay K rfl) (pv 1) ae) (pv 3))) (aK (aF 6 sc_aD.nd (au (az K rfl) (pv 4) (pv 5))) (aK (dR PassesOwn.never rfl (cO (dB (b0 hr) (pv 2) (pv 6) (fun _ _=>rfl))) (gA (n:=2) K rfl rfl (bJ (aP (i:=7) sc_aD.nd rfl (Or.inl rfl)) (bJ (aP (i:=8) sc_aD.nd rfl (Or.inl rfl)) fB))) (ak (aW (pT (ki (b0 hr) (pv 7) (pv 3))) (aK (gB (b0 hr) (pv 3) (pv 7) (aQ (aa (pv 6) (aa (pv 8) ag))) rfl) (ak (bG (cy PySem.F.plainAttrs_list PySem.F.slot_list_append PySem.F.type_list_append cf (pv 4) (aa (pv 7) ag))))) aI))) (ak (yu (i:=5) sc_aD.nd rfl (Or.inl rfl) ae xC))))) fun _ _=>aH (aF 9 sc_aD.nd (bP ag)) fun _ _=>aH (aF 10 sc_aD.nd (dB (b0 hr) (pv 3) (au (ay K rfl) (pv 1) ae) (fun _ _=>rfl))) fun _ _=>aH (hJ PassesOwn.never (aT uM (pv 10) ja) (aK (bG (cy PySem.F.plainAttrs_list PySem.F.slot_list_append PySem.F.type_list_append cf (pv 9) (aa (au (ay K rfl) (pv 10) ae) ag))) (ak (aF 10 sc_aD.nd (dB (b0 hr) (pv 3) (au (ay K rfl) (pv 10) ae) (fun _ _=>rfl)))))) fun _ _=>cS (aJ (pv 9)) fun _ _=>?_;apply ⟨df,kf,F,rfl,hdf,pn,lF,fun dt H1 s1' ty1=>?_⟩;have pr1:=pr.mono s1';obtain ⟨tkv,t1,t2,t3,t4,t5⟩:=ty1.ob;left;intro on non;have s2:=ao.new (o:=HO.dT []) non;have e2:=ai (H:=H1) (a:=on) (o:=HO.dT []);generalize upd H1 on (HO.dT [])=H2 at s2 e2 ⊢;apply aA (SqT.of (s2 _ _ pr1.1)) (v:=.ref b) rfl ?_;apply ⟨b,s1,.non,rfl,s2 _ _ pr1.2.2,e2,?_⟩;have s3:ao H1 (upd H2 on (.dT [(s1,V.non)])):=fun c o e=>by rw [aw (aE e non)]; exact s2 _ _ e
    have e3:=ai (H:=H2) (a:=on) (o:=HO.dT [(s1,V.non)]);generalize upd H2 on (HO.dT [(s1,V.non)])=H3 at s3 e3 ⊢;apply aA (SqT.of (s3 _ _ pr1.1)) (v:=.ref b) rfl ?_;apply nwL fun lm H4 slm nlm elm=>?_;have s4:=s3.trans slm;have nlm1:H1 lm=none:=s3.free nlm;have lmo:lm≠on:=(aE e3 nlm).symm;have on4:iJ H4 on s1 [s1] [(0,0)]:=⟨[(s1,V.non)],slm _ _ e3,Nat.le_refl _,fun s hs=>by rw [iG (by simpa using fun z=>hs (List.mem_singleton.mpr z))],by simp [a8],fun j s p n h0 e=>by
      cases j with
      | zero=>exact absurd h0 (Nat.lt_irrefl _)
      | succ j=>simp at e⟩
    have mt4:nz H4 [V.ref b] [s1]:=⟨rfl,fun j v s e1 e2=>by
      cases j with
      | zero =>
        simp only [List.getElem?_cons_zero,Option.some.injEq] at e1 e2;subst e1 e2;exact ⟨b,rfl,s4 _ _ pr1.2.2⟩
      | succ j=>simp at e1⟩
    apply ⟨fun m σ' H'=>∃ (ms:List (List Key)) (ps:List (Nat×Int)) (xs:List V) (place:Nat) (o6 o7 o8:Option V),m=D.length - place∧σ'=[some (.ref df),some (.ref Ts),some (.ref dt),some (.ref on),some (.ref lm),some (.int place),o6,o7,o8,none,none]∧ao H1 H'∧Fm.iL (jD F) s1 ms ps∧H' lm=some (.lst xs)∧nz H' xs ms∧iJ H' on s1 ms ps∧place≤ms.length∧(place=0→ms=[s1]) ∧
        (∀ (j:Nat) s,j<place→ms[j]?=some s→∀ q∈cJ F s,q.1∈ms)∧(∀ s∈ms,s∈D),⟨_,[s1],[(0,0)],[V.ref b],0,none,none,none,rfl,rfl,s4,Fm.iL.one,elm,mt4,on4,Nat.zero_le _,fun _=>rfl,fun j s h=>absurd h (Nat.not_lt_zero _),fun s hs=>by rw [List.mem_singleton.mp hs]; exact hs1⟩,?_⟩
    rintro m σ' H5 ⟨ms,ps,xs,place,o6,o7,o8,rfl,rfl,s5,tr,e5,mt,oa,hpl,hp0,hdone,hsub⟩;have pr5:=pr1.mono s5;obtain ⟨kvs,ok1,ok2,ok3,ok4,ok5⟩:=oa.ob;have lms:ms.length≤D.length:=iC ms D tr.nd hsub;apply aA (SqT.of pr5.1) (v:=.ref a) rfl ?_;apply ⟨on,_,rfl,dM.t ok1 pr5.2.1,?_⟩;rw [oa.isIn tr ok1];by_cases hm:s0∈ms
    · rw [aM hm]
      apply nwL fun ln H6 sln nln eln=>?_;have s6:=s5.trans sln;have oa6:=oa.but (sln.butL []) (fun x hx=>nomatch hx) (fun z=>nomatch z);have ok6:=sln _ _ ok1;have lno:ln≠on:=(aE ok1 nln).symm;have nlnH:H ln=none:=s1'.free (s5.free nln);obtain ⟨j,hj⟩:=List.mem_iff_getElem?.mp hm;have jl:=(List.getElem?_eq_some_iff.mp hj).1;obtain ⟨ns,bk⟩:=tr.back j jl;have way:=bk.way tr hj;have nsd:=(bk.nodup (w4 ndF) tr jl).1;obtain ⟨v,hv,lk⟩:=oa6.link tr ok6 hj;apply aA (SqT.of (sln _ _ pr5.1)) (v:=.ref a) rfl ?_;apply cX ok6 (sln _ _ pr5.2.1) hv ?_;apply ⟨fun m σ' H'=>∃ (j:Nat) (acc dw:List Int) (v:V),m=j∧σ'=[some (.ref df),some (.ref Ts),some (.ref dt),some (.ref on),some (.ref lm),some (.int place),o6,o7,o8,some (.ref ln),some v]∧ao H H'∧H' on=some (.dT kvs)∧iJ H' on s1 ms ps∧H' ln=some (.lst (acc.map V.int))∧j<ms.length∧acc.length+j≤80∧sD H' ms ps j v∧Fm.oZ ps j dw∧acc++dw=ns,⟨_,j,[],ns,v,rfl,rfl,s1'.trans s6,ok6,oa6,eln,jl,by show 0+j≤80; omega,lk,bk,rfl⟩,?_⟩;rintro m σ' H7 ⟨j,acc,dw,v,rfl,rfl,s7,ok7,oa7,e7,jl7,la,lk7,bk7,hns⟩;rcases lk7 with ⟨rfl,rfl⟩ | ⟨h0,b',a',p,n,s',hp,rfl,hb',hs',ha'⟩
      · cases bk7 with
        | zero =>
          rw [List.append_nil] at hns;subst hns;apply ⟨rfl,_,rfl,?_⟩;rw [aM (rfl:V.non=V.non)];left;exact k ln acc H7 s7 nlnH e7 way nsd
        | succ h0 _ _ _=>exact absurd h0 (Nat.lt_irrefl _)
      · cases bk7 with
        | zero=>exact absurd h0 (Nat.lt_irrefl _)
        | @succ _ p2 n2 rest2 _ hp2 lt bk8 =>
          rw [hp] at hp2
          cases hp2;apply ⟨rfl,_,rfl,?_⟩;rw [aO (show ¬ V.ref b'=V.non from fun z=>by cases z)];refine mw ?_;refine ⟨fun σ' H'=>∃ v,σ'=[some (.ref df),some (.ref Ts),some (.ref dt),some (.ref on),some (.ref lm),some (.int place),o6,o7,o8,some (.ref ln),some v]∧ao H H'∧H' on=some (.dT kvs)∧iJ H' on s1 ms ps∧H' ln=some (.lst ((acc++[n]).map V.int))∧sD H' ms ps p v,?_,?_⟩
          · rintro σ' H' ⟨v,rfl,q1,q2,q3,q4,q5⟩
            exact ⟨p,lt,p,acc++[n],rest2,v,rfl,rfl,q1,q2,q3,q4,by omega,by rw [List.length_append]; show acc.length+1+p≤80; omega,q5,bk8,by rw [List.append_assoc]; exact hns⟩
          · apply dF e7 ?_;apply aA (SqT.of hb') (v:=.int n) rfl ?_;apply bX e7 (by rw [List.length_map]; exact aZ (by omega)) ?_;have mb:aV [ln] H7 (upd H7 ln (.lst (acc.map V.int++[V.int n]))):=(aV.refl _ _).upd (by simp);have nt:NoT H7 [ln]:=fun x hx ys=>by rw [List.mem_singleton.mp hx,e7]; intro z; cases z
            have oa8:=oa7.but mb nt (by rw [List.mem_singleton]; exact lno.symm);have ok8:=mb _ _ ok7 (by rw [List.mem_singleton]; exact lno.symm);have hb8:=bu mb nt hb';have ha8:=bu mb nt ha';have s8:ao H (upd H7 ln (.lst (acc.map V.int++[V.int n]))):=fun c o e=>by rw [aw (aE e nlnH)]; exact s7 _ _ e
            have e8:upd H7 ln (.lst (acc.map V.int++[V.int n])) ln=some (.lst ((acc++[n]).map V.int)):=by rw [ai,List.map_append]; rfl
            generalize upd H7 ln (.lst (acc.map V.int++[V.int n]))=H8 at oa8 ok8 hb8 ha8 s8 e8 ⊢;obtain ⟨v',hv',lk'⟩:=oa8.link tr ok8 hs';apply aA (SqT.of hb8) (v:=.ref a') rfl ?_;apply cX ok8 ha8 hv' ?_;left;exact ⟨v',rfl,s8,ok8,oa8,e8,lk'⟩
    · rw [aO hm]
      have hlt:place<ms.length:=by
        rcases Nat.lt_or_ge place ms.length with h | h
        · exact h
        · exact absurd (uH (List.mem_of_getElem? tr.hd) (fun s hs q hq=>by
            obtain ⟨j,hj⟩:=List.mem_iff_getElem?.mp hs;exact hdone j s (Nat.lt_of_lt_of_le (List.getElem?_eq_some_iff.mp hj).1 h) hj q hq) hcon) hm
      have hsh:=List.getElem?_eq_getElem hlt;generalize ms[place]=sh at hsh;obtain ⟨xv,hx⟩:∃ xv,xs[place]?=some xv:=⟨_,List.getElem?_eq_getElem (by rw [mt.1]; exact hlt)⟩
      obtain ⟨ah,rfl,hah⟩:=mt.2 place xv sh hx hsh;have hne':cJ F sh≠[]:=fun z=>by
        by_cases h0:place=0
        · have hms:=hp0 h0
          subst h0;rw [hms] at hsh hm
          cases hsh;exact hm (uH List.mem_cons_self (fun s hs q hq=>by rw [List.mem_singleton.mp hs,z] at hq; cases hq) hcon)
        · have hp:=List.getElem?_eq_getElem (show place<ps.length by rw [tr.len]; exact hlt)
          obtain ⟨_,s',_,e⟩:=tr.par place sh _ _ (by omega) hsh hp;have:=i6 e
          rw [z] at this
          cases this
      obtain ⟨v,hv⟩:∃ v,a8 tkv sh=some v:=by
        cases hv:a8 tkv sh with
        | none=>exact absurd (t3 sh hv) hne'
        | some v=>exact ⟨v,rfl⟩
      obtain ⟨l,ys,rfl,r1,r2,r3,r4⟩:=t4 sh v hv;apply ⟨fun σ' H'=>∃ (ms':List (List Key)) (ps':List (Nat×Int)) (xs':List V) (o6 o7 o8:Option V),σ'=[some (.ref df),some (.ref Ts),some (.ref dt),some (.ref on),some (.ref lm),some (.int ((place:Int)+1)),o6,o7,o8,none,none]∧ao H1 H'∧Fm.iL (jD F) s1 ms' ps'∧H' lm=some (.lst xs')∧nz H' xs' ms'∧iJ H' on s1 ms' ps'∧place+1≤ms'.length ∧
        (∀ (j:Nat) s,j<place+1→ms'[j]?=some s→∀ q∈cJ F s,q.1∈ms')∧(∀ s∈ms',s∈D),?_,?_⟩
      · rintro σ' H' ⟨ms',ps',xs',o6,o7,o8,rfl,q1,q2,q3,q4,q5,q6,q7,q8⟩
        exact ⟨D.length - (place+1),by omega,ms',ps',xs',place+1,o6,o7,o8,rfl,rfl,q1,q2,q3,q4,q5,q6,fun z=>absurd z (Nat.succ_ne_zero _),q7,q8⟩
      · apply aL (SqL.of e5) (cZ hx) ?_;apply cX (s5 _ _ t1) hah hv ?_;apply ⟨⟨_,SqL.of (s5 _ _ r3)⟩,?_⟩;refine dN (K:=K) (a:=l) (xs:=ys) (fun i σ' H'=>∃ (ms':List (List Key)) (ps':List (Nat×Int)) (xs':List V) (o7 o8:Option V),σ'=[some (.ref df),some (.ref Ts),some (.ref dt),some (.ref on),some (.ref lm),some (.int place),some (.ref ah),o7,o8,none,none]∧ao H1 H'∧Fm.iL (jD F) s1 ms' ps'∧H' lm=some (.lst xs')∧nz H' xs' ms'∧iJ H' on s1 ms' ps'∧H' ah=some (.tup (sh.map kV)) ∧
            (∀ (j:Nat) s,ms[j]?=some s→ms'[j]?=some s)∧(∀ s∈ms,s∈ms')∧(∀ q∈(cJ F sh).take i,q.1∈ms')∧(∀ s∈ms',s∈D))
          ⟨ms,ps,xs,o7,o8,rfl,s5,tr,e5,mt,oa,hah,fun _ _ h=>h,fun _ h=>h,(fun q hq=>by rw [List.take_zero] at hq; cases hq),hsub⟩ ?_ ?_ ?_
        · rintro i σ' H' _ ⟨_,_,_,_,_,rfl,z,_⟩
          exact SqL.of (z _ _ r3)
        · rintro i y σ' H6 hy ⟨ms',ps',xs',o7,o8,rfl,s6,tr6,e6,mt6,oa6,hah6,pre,sub,don,hsub6⟩
          have hi:i<(cJ F sh).length:=by rw [← r4.1]; exact (List.getElem?_eq_some_iff.mp hy).1
          have hq:=List.getElem?_eq_getElem hi;have tk:(cJ F sh).take (i+1)=(cJ F sh).take i++[(cJ F sh)[i]]:=(List.take_append_getElem hi).symm;have hqm:=List.getElem_mem hi;generalize (cJ F sh)[i]=q at hq tk hqm;obtain ⟨b2,as,rfl,hb2,has⟩:=r4.2 i y q hy hq;have hed:=vH hqm
          have hqD:q.1∈D:=by
            obtain ⟨f,hf,h | h⟩:=hed
            · rw [← h.1]; exact (hD _ hf).1
            · rw [← h.1]; exact (hD _ hf).2
          obtain ⟨kv6,ok6,lk6,_⟩:=oa6.ob;have l6:ms'.length≤D.length:=iC ms' D tr6.nd hsub6;refine fD (s6 _ _ hb2) rfl ?_;apply ⟨on,_,rfl,dM.t ok6 (s6 _ _ has),?_⟩;rw [oa6.isIn tr6 ok6];by_cases hu:q.1∈ms'
          · rw [aM hu]
            apply ⟨ms',ps',xs',_,_,rfl,s6,tr6,e6,mt6,oa6,hah6,pre,sub,fun r hr=>?_,hsub6⟩;rw [tk] at hr;rcases List.mem_append.mp hr with hr | hr
            · exact don r hr
            · rw [List.mem_singleton.mp hr]; exact hu
          · rw [aO hu]
            apply nwT fun b3 H7 sb3 nb3 eb3=>?_;have s7:=s6.trans sb3;have oa7:=oa6.but (sb3.butL []) (fun x hx=>nomatch hx) (fun z=>nomatch z);have mt7:=mt6.but (sb3.butL []) (fun x hx=>nomatch hx);have e7:=sb3 _ _ e6;apply ⟨on,_,rfl,jt.t (k:=q.1) (sb3 _ _ ok6) (s7 _ _ has) (aZ (by omega)),?_⟩;have lmo':lm≠on:=lmo;have oa8:=oa7.put (p:=place) (s':=sh) (a:=ah) (b:=b3) tr6 (sb3 _ _ ok6) hu eb3 (pre _ _ hsh) (sb3 _ _ hah6);have mb:aV [on] H7 (upd H7 on (.dT (bO kv6 q.1 (.ref b3)))):=(aV.refl _ _).upd (by simp);have nt:NoT H7 [on]:=fun x hx ys=>by rw [List.mem_singleton.mp hx,sb3 _ _ ok6]; intro z; cases z
            have mt8:=mt7.but mb nt;have e8:=mb _ _ e7 (by rw [List.mem_singleton]; exact lmo);have hah8:=bu mb nt (sb3 _ _ hah6);have s8:ao H1 (upd H7 on (.dT (bO kv6 q.1 (.ref b3)))):=fun c o e=>by rw [aw (aE e non)]; exact s7 _ _ e
            generalize upd H7 on (.dT (bO kv6 q.1 (.ref b3)))=H8 at oa8 mt8 e8 hah8 s8 ⊢;apply dF e8 ?_;apply bX e8 (by rw [mt6.1]; exact aZ (by omega)) ?_;have mb2:aV [lm] H8 (upd H8 lm (.lst (xs'++[.ref as]))):=(aV.refl _ _).upd (by simp);have nt2:NoT H8 [lm]:=fun x hx ys=>by rw [List.mem_singleton.mp hx,e8]; intro z; cases z
            apply ⟨ms'++[q.1],ps'++[(place,q.2)],xs'++[.ref as],_,_,rfl,fun c o e=>by rw [aw (aE e nlm1)]; exact s8 _ _ e,tr6.snoc hu (pre _ _ hsh) hed,ai,(mt8.snoc (s8 _ _ has)).but mb2 nt2,oa8.but mb2 nt2 (by rw [List.mem_singleton]; exact lmo.symm),bu mb2 nt2 hah8,fun j s h=>?_,fun s h=>List.mem_append_left _ (sub s h),fun r hr=>?_,fun s h=>?_⟩
            · have:=pre j s h
              rw [List.getElem?_append_left (List.getElem?_eq_some_iff.mp this).1];exact this
            · rw [tk] at hr
              rcases List.mem_append.mp hr with hr | hr
              · exact List.mem_append_left _ (don r hr)
              · rw [List.mem_singleton.mp hr]; exact List.mem_append_right _ (List.mem_singleton.mpr rfl)
            · rcases List.mem_append.mp h with h | h
              · exact hsub6 s h
              · rw [List.mem_singleton.mp h]; exact hqD
        · rintro σ' H6 ⟨ms',ps',xs',o7,o8,rfl,s6,tr6,e6,mt6,oa6,hah6,pre,sub,don,hsub6⟩
          rw [r4.1,List.take_of_length_le (Nat.le_refl _)] at don;have hpl':=(List.getElem?_eq_some_iff.mp (pre _ _ hsh)).1;apply ⟨ms',ps',xs',_,_,_,rfl,s6,tr6,e6,mt6,oa6,hpl',fun j s hj hjs q hq=>?_,hsub6⟩;by_cases hjp:j=place
          · subst hjp
            rw [pre _ _ hsh] at hjs
            cases hjs;exact don q hq
          · have hjm:=List.getElem?_eq_getElem (show j<ms.length by omega)
            have:=pre _ _ hjm
            rw [hjs] at this
            cases this;exact sub _ (hdone j _ (by omega) hjm q hq)
def Sm (z:Int):Prop:=-1000000000000000000<z∧z<1000000000000000000
theorem lQ {zs:List Int} {z:Int} (h:∀ y∈zs,Sm y) (hz:Sm z):∀ y∈zs++[z],Sm y:=fun y hy=>by
 rcases List.mem_append.mp hy with q | q
 ·exact h y q
 ·rw [List.mem_singleton.mp q]; exact hz
theorem tZ (r:Int) {m:Int} (h0:0<m) (h1:m≤1000003):Sm (r%m):=by
 have:=Int.emod_nonneg r (by omega:m≠0)
 have:=Int.emod_lt_of_pos r h0
 unfold Sm; omega
def sp_aR (K:W.Frag):Sp:=fun vs H Q _=>∃ (a:Addr) (m:Nat) (ns:List Int),vs=[.ref a,.int m]∧SqL K H a (ns.map V.int)∧ns.length≤63∧m≤200 ∧
 ∀ (l:Addr) (zs:List Int) (H':Hp),ao H H'→H' l=some (.lst (zs.map V.int))→m≤zs.length→zs.length≤300→(∀ z∈zs,Sm z)→Q (.ref l) H'
theorem gV (zs:List Int) (z:Int):zs.map V.int++[V.int z]=(zs++[z]).map V.int:=by simp
theorem ok_aR (T:Txt K mg t):aU P w K mg base CX0 1 t.f_aR t.d_aR ["_law_script","_law_many"] (sp_aR K):=by
 refine T.F_aR.ok sc_aR (by walk_at "l") (fun _ _ _ s H vs Q E hr h=>?_)
 ·obtain ⟨a,m,ns,rfl,hS,hl,hm,k⟩:=h;refine aH (aF 2 sc_aR.nd (bP ag)) fun _ _=>aH (aF 3 sc_aR.nd ae) fun _ _=>aH (dR PassesOwn.never rfl (cO (pv 0)) (aP (i:=4) sc_aR.nd rfl (Or.inl rfl)) (aK (aF 3 sc_aR.nd (av aR (av bf (av dP (pv 3) ae) (pv 4)) ae)) (aK (aF 5 sc_aR.nd (aC j2 rfl T.no_abs (by rfl) (aa (pv 4) ag))) (aK (aW (aT gZ (pv 5) (av CO ae ae)) (aK (bG (cy PySem.F.plainAttrs_list PySem.F.slot_list_append PySem.F.type_list_append cf (pv 2) (aa (pv 4) ag))) (ak (aF 5 sc_aR.nd ae))) aI) (ak (hJ PassesOwn.never (PW.pt (cG (aT mJ (pv 5) ae) (dE (aT gZ (aC (cn K rfl) rfl T.no_len (by rfl) (aa (pv 2) ag)) (pv 1))))) (aK (bG (cy PySem.F.plainAttrs_list PySem.F.slot_list_append PySem.F.type_list_append cf (pv 2) (aa (av aR (pv 5) ae) ag))) (ak (aF 5 sc_aR.nd (av uK (pv 5) ae)))))))))) fun _ _=>aH (hJ PassesOwn.never (aT gZ (aC (cn K rfl) rfl T.no_len (by rfl) (aa (pv 2) ag)) (pv 1)) (aK (aF 3 sc_aR.nd (av aR (av bf (av dP (pv 3) ae) ae) ae)) (ak (bG (cy PySem.F.plainAttrs_list PySem.F.slot_list_append PySem.F.type_list_append cf (pv 2) (aa (av aR (av dP (pv 3) (pv 3)) ae) ag)))))) fun _ _=>cS (aJ (pv 2)) fun _ _=>?_;apply ⟨Nat.zero_le _,fun l hn=>?_⟩;left;have hz:∀ {zs:List Int},zs.length≤300→(zs.map V.int).length<sizeLine:=fun h=>by rw [List.length_map]; exact aZ (by omega)
  refine ⟨⟨_,(ao.new hn).seq hS⟩,dN (K:=K) (a:=a) (xs:=ns.map V.int) (fun i σ' H'=>∃ (zs:List Int) (mix:Int) (c r:Option V),σ'=[some (.ref a),some (.int m),some (.ref l),some (.int mix),c,r]∧ao H H'∧H' l=some (.lst (zs.map V.int))∧zs.length≤i+m∧∀ z∈zs,Sm z)
   ⟨[],1,none,none,rfl,ao.new hn,ai,Nat.zero_le _,fun z hz=>by cases hz⟩ (fun i σ' H' _ ⟨_,_,_,_,_,s,_⟩=>s.seq hS) ?_ ?_⟩
  ·rintro i y σ' H' hi ⟨zs,mix,c,r,rfl,s1,e1,lz,sm⟩;have hil:i<ns.length:=by have:=(List.getElem?_eq_some_iff.mp hi).1; rwa [List.length_map] at this
   obtain ⟨z,rfl⟩:∃ z,y=V.int z:=by
    rw [List.getElem?_map] at hi
    cases e:ns[i]? with
    | none=>rw [e] at hi; cases hi
    | some z=>rw [e] at hi; exact ⟨z,(Option.some.inj hi).symm⟩
   apply bB (.inr ⟨by decide,by decide⟩) ?_;apply bB (by decide) ?_;apply bB ⟨by decide,by decide,by decide⟩ ?_;apply i8 (fun hc=>?_) (fun _=>?_)
   ·have hc:=of_decide_eq_true hc
    have hcz:Sm z:=by
     unfold Sm;have e18:(10:Int) ^ 18=1000000000000000000:=by decide
     by_cases hz0:z<0
     ·rw [if_pos hz0] at hc; change -z<(10:Int) ^ 18 at hc; omega
     ·rw [if_neg hz0] at hc; change z<(10:Int) ^ 18 at hc; omega
    apply dF e1 ?_;apply bX e1 (hz (by omega)) ?_;rw [gV];apply ⟨fun n σ' H'=>∃ (zs:List Int) (mix:Int) (r:Int),σ'=[some (.ref a),some (.int m),some (.ref l),some (.int mix),some (.int z),some (.int r)]∧ao H H'∧H' l=some (.lst (zs.map V.int))∧zs.length≤i+1+m∧n=m - zs.length∧∀ z∈zs,Sm z,
     ⟨_,zs++[z],_,_,rfl,s1.later hn,ai,by rw [List.length_append,List.length_singleton]; omega,rfl,lQ sm hcz⟩,?_⟩
    rintro n σ' H' ⟨zs,mix,r,rfl,s1,e1,lz,rfl,sm⟩;apply i8 (fun _=>?_) (fun _=>?_)
    ·apply b9 e1 ?_;left;rw [List.length_map];refine i8 (fun h2=>?_) (fun h2=>?_)
     ·have h2:=of_decide_eq_true h2;refine ⟨fun σ' H'=>∃ (zs':List Int) (mix:Int) (r:Int),σ'=[some (.ref a),some (.int m),some (.ref l),some (.int mix),some (.int z),some (.int r)]∧ao H H'∧H' l=some (.lst (zs'.map V.int))∧zs'.length=zs.length+1∧∀ z∈zs',Sm z,?_,?_⟩
      ·rintro σ' H' ⟨zs',mix,r,rfl,s1,e1,lz',sm'⟩;exact ⟨m - zs'.length,by omega,zs',mix,r,rfl,s1,e1,by omega,rfl,sm'⟩
      ·apply dF e1 ?_;apply bB (by decide) ?_;apply bX e1 (hz (by omega)) ?_;rw [gV];apply bB ⟨by decide,by decide⟩ ?_;left;exact ⟨zs++[r%1000003],mix,_,rfl,s1.later hn,ai,by rw [List.length_append,List.length_singleton],lQ sm (tZ r (by decide) (by decide))⟩
     ·left;exact ⟨zs,mix,_,_,rfl,s1,e1,lz,sm⟩
    ·left;exact ⟨zs,mix,_,_,rfl,s1,e1,lz,sm⟩
   ·apply ⟨fun n σ' H'=>∃ (zs:List Int) (mix:Int) (r:Int),σ'=[some (.ref a),some (.int m),some (.ref l),some (.int mix),some (.int z),some (.int r)]∧ao H H'∧H' l=some (.lst (zs.map V.int))∧zs.length≤i+1+m∧n=m - zs.length∧∀ z∈zs,Sm z,
     ⟨_,zs,_,_,rfl,s1,e1,by omega,rfl,sm⟩,?_⟩
    rintro n σ' H' ⟨zs,mix,r,rfl,s1,e1,lz,rfl,sm⟩;apply i8 (fun _=>?_) (fun _=>?_)
    ·apply b9 e1 ?_;left;rw [List.length_map];refine i8 (fun h2=>?_) (fun h2=>?_)
     ·have h2:=of_decide_eq_true h2;refine ⟨fun σ' H'=>∃ (zs':List Int) (mix:Int) (r:Int),σ'=[some (.ref a),some (.int m),some (.ref l),some (.int mix),some (.int z),some (.int r)]∧ao H H'∧H' l=some (.lst (zs'.map V.int))∧zs'.length=zs.length+1∧∀ z∈zs',Sm z,?_,?_⟩
      ·rintro σ' H' ⟨zs',mix,r,rfl,s1,e1,lz',sm'⟩;exact ⟨m - zs'.length,by omega,zs',mix,r,rfl,s1,e1,by omega,rfl,sm'⟩
      ·apply dF e1 ?_;apply bB (by decide) ?_;apply bX e1 (hz (by omega)) ?_;rw [gV];apply bB ⟨by decide,by decide⟩ ?_;left;exact ⟨zs++[r%1000003],mix,_,rfl,s1.later hn,ai,by rw [List.length_append,List.length_singleton],lQ sm (tZ r (by decide) (by decide))⟩
     ·left;exact ⟨zs,mix,_,_,rfl,s1,e1,lz,sm⟩
    ·left;exact ⟨zs,mix,_,_,rfl,s1,e1,lz,sm⟩
  ·rintro σ' H' ⟨zs,mix,c,r,rfl,s1,e1,lz,sm⟩;rw [List.length_map] at lz;apply ⟨fun n σ' H'=>∃ (zs:List Int) (mix:Int),σ'=[some (.ref a),some (.int m),some (.ref l),some (.int mix),c,r]∧(-(2 ^ 64)<mix∧mix<2 ^ 64∨True)∧ao H H'∧H' l=some (.lst (zs.map V.int))∧zs.length≤300∧n=m - zs.length∧∀ z∈zs,Sm z,
    ⟨_,zs,mix,rfl,.inr trivial,s1,e1,by omega,rfl,sm⟩,?_⟩
   rintro n σ' H' ⟨zs,mix,rfl,_,s1,e1,lz,rfl,sm⟩;apply b9 e1 ?_;left;rw [List.length_map];refine i8 (fun h2=>?_) (fun h2=>?_)
   ·have h2:=of_decide_eq_true h2;refine ⟨fun σ' H'=>∃ (zs':List Int) (mix:Int),σ'=[some (.ref a),some (.int m),some (.ref l),some (.int mix),c,r]∧ao H H'∧H' l=some (.lst (zs'.map V.int))∧zs'.length=zs.length+1∧∀ z∈zs',Sm z,?_,?_⟩
    ·rintro σ' H' ⟨zs',mix,rfl,s1,e1,lz',sm'⟩;exact ⟨m - zs'.length,by omega,zs',mix,rfl,.inr trivial,s1,e1,by omega,rfl,sm'⟩
    ·apply bB (.inr ⟨by decide,by decide⟩) ?_;apply bB (by decide) ?_;apply dF e1 ?_;apply bB (.inl ⟨by omega,by omega⟩) ?_;apply bB (by decide) ?_;apply bX e1 (hz (by omega)) ?_;rw [gV];left;exact ⟨zs++[_],_,rfl,s1.later hn,ai,by rw [List.length_append,List.length_singleton],lQ sm (tZ _ (by decide) (by decide))⟩
   ·have h2:¬ ((zs.length:Int)<m):=fun z=>h2 (aM z);left;exact k l zs H' s1 e1 (by omega) (by omega) sm
theorem wJ {l:List Int} (h:∀ z∈l,z=0∨z=1):0≤l.sum∧l.sum≤l.length:=by
 induction l with
 | nil=>exact ⟨Int.le_refl 0,Int.le_refl 0⟩
 | cons z r ih =>
  have:=ih fun y hy=>h y (List.mem_cons_of_mem _ hy)
  rw [List.sum_cons,List.length_cons];rcases h z List.mem_cons_self with rfl | rfl<;>omega
theorem lV {l:List Int} (h:∀ z∈l,z=0∨z=1) (hl:l.length≤1000):jv l:=fun k hk=>by
 refine ⟨?_,fun n hn=>?_⟩
 ·have:=wJ (l:=l.take k) fun z hz=>h z (List.mem_of_mem_take hz)
  rw [List.length_take] at this;unfold InLong;omega
 ·unfold InLong;rcases h n hn with rfl | rfl<;>decide
theorem ow {zs:List Int} {x:Int} (h:0≤x):bN (zs.map V.int) none (some x)=(zs.take x.toNat).map V.int:=by
 obtain ⟨k,rfl⟩:∃ k:Nat,x=(k:Int):=⟨x.toNat,by omega⟩
 unfold bN;rw [HT.jR,HT.lO,List.drop_zero,Nat.sub_zero,Int.toNat_natCast,← List.map_take]
 congr 1
 rw [List.length_map];rcases Nat.le_total k zs.length with h | h
 ·rw [Nat.min_eq_left h]
 ·rw [Nat.min_eq_right h,List.take_of_length_le (Nat.le_refl _),List.take_of_length_le h]
end
def Ar (l:List Int):Prop:=l.length≤39∧∀ z∈l,z=0∨z=1
section
variable {P:Program} {w:World} {K:W.Frag} {mg:Str→Option Value} {base:Heap} {t:Ad}
def sp_a7:Sp:=fun vs H Q _=>∃ (n:Int) (m:Nat),vs=[.int n,.int m]∧m≤100∧∀ (l:Addr) (bs:List Int) (H':Hp),ao H H'→H l=none→H' l=some (.lst (bs.map V.int))→bs.length=m→(∀ z∈bs,z=0∨z=1)→Q (.ref l) H'
theorem lH {a b:Int} (ha:0≤a) (hb:0<b):a%b≤a:=by
 obtain ⟨m,rfl⟩:=Int.eq_ofNat_of_zero_le ha;obtain ⟨n,rfl⟩:=Int.eq_ofNat_of_zero_le (Int.le_of_lt hb);rw [← Int.natCast_emod];exact Int.ofNat_le.mpr (Nat.mod_le _ _)
theorem DX (n:Int):n%2=0∨n%2=1:=by omega
theorem ok_a7 (T:Txt K mg t):aU P w K mg base CX0 1 t.f_a7 t.d_a7 ["_law_number_here","_law_many"] sp_a7:=by
 refine T.F_a7.ok sc_a7 (by walk_at "l") (fun _ _ _ s H vs Q E hr h=>?_)
 ·obtain ⟨n,m,rfl,hm,k⟩:=h;refine aH (aF 2 sc_a7.nd (bP ag)) fun _ _=>aH (dR PassesOwn.never rfl (dQ rfl T.no_a8 (aa (pv 1) ag)) (aP (i:=3) sc_a7.nd rfl (Or.inl rfl)) (aK (bG (cy PySem.F.plainAttrs_list PySem.F.slot_list_append PySem.F.type_list_append cf (pv 2) (aa (av aR (pv 0) ae) ag))) (ak (aF 0 sc_a7.nd (av uK (pv 0) ae))))) fun _ _=>cS (aJ (pv 2)) fun _ _=>?_;apply ⟨Nat.zero_le _,fun l hn=>?_⟩;apply ⟨m,rfl,by omega,by omega,?_⟩;rw [Int.toNat_natCast];refine eW (fun i σ' H'=>∃ (n:Int) (bs:List Int) (c:Option V),σ'=[some (.int n),some (.int m),some (.ref l),c]∧ao H H'∧H' l=some (.lst (bs.map V.int))∧bs.length=i∧∀ z∈bs,z=0∨z=1)
   ⟨n,[],none,rfl,ao.new hn,ai,rfl,fun z hz=>by cases hz⟩ ?_ ?_
  ·rintro i σ' H' hi ⟨n,bs,c,rfl,s1,e1,lb,hb⟩;apply dF e1 ?_;apply bB (by decide) ?_;apply bX e1 (by rw [List.length_map]; exact aZ (by omega)) ?_;rw [gV];apply bB ⟨by decide,by decide⟩ ?_;apply ⟨_,bs++[n%2],_,rfl,s1.later hn,ai,by rw [List.length_append,List.length_singleton]; omega,fun z hz=>?_⟩;rcases List.mem_append.mp hz with h | h
   ·exact hb z h
   ·rw [List.mem_singleton.mp h]; exact DX n
  ·rintro σ' H' ⟨n,bs,c,rfl,s1,e1,lb,hb⟩;left;exact k l bs H' s1 hn e1 lb hb
def sp_bb:Sp:=fun vs H Q _=>∃ (a:Addr) (m:Nat) (zs:List Int),vs=[.ref a,.int m]∧H a=some (.lst (zs.map V.int))∧4≤zs.length∧m≤100∧∀ (l:Addr) (bs:List Int) (H':Hp),ao H H'→H l=none→H' l=some (.lst (bs.map V.int))→bs.length=m→(∀ z∈bs,z=0∨z=1)→Q (.ref l) H'
theorem ok_bb (T:Txt K mg t):aU P w K mg base CX0 2 t.f_bb t.d_bb ["_law_some","_law_many"] sp_bb:=by
 refine T.F_bb.ok sc_bb (by walk_at "l") (fun _ _ _ s H vs Q E hr h=>?_)
 ·obtain ⟨a,m,zs,rfl,ha,hl,hm,k⟩:=h;refine aH (aF 2 sc_bb.nd (av bf (av bf (au (az K rfl) (pv 0) ae) (av dP ae (au (az K rfl) (pv 0) ae))) (av dP (av dP ae ae) (au (az K rfl) (pv 0) ae)))) fun _ _=>aH (aW (aT bU (av aR (au (az K rfl) (pv 0) ae) ae) ae) (ak (aF 2 sc_bb.nd (uO qz (av aR (au (az K rfl) (pv 0) ae) ae)))) aI) fun _ _=>aH (jb (i:=3) sc_bb.nd rfl (Or.inr rfl) (aB (ok_a7 T) (rmo hr) rfl T.mg_a7 T.F_a7.kp T.b_a7 .nil bo (aa (pv 2) (aa (pv 1) ag)))) fun _ _=>aH (aW (aT bU (av aR (au (az K rfl) (pv 0) ae) ae) ae) (ak (jb (i:=3) sc_bb.nd rfl (Or.inr rfl) (eQ (N:=["_law_k","_law_row_here","_law_some"]) (cap:=[none,some 3,some 0]) rfl ⟨rfl,rfl,rfl,rfl,rfl,rfl⟩ (dQ rfl T.no_a8 (aa (pv 1) ag)) (fun _ _ _=>(aP (i:=0) (show (["_law_k","_law_row_here","_law_some"]:List Str).Nodup by decide +kernel) rfl (Or.inl rfl))) (fun _ _ _=>dZ) (fun _ _ _=>(au (az K rfl) (pv 1) (av aR (pv 0) (av bf ae (av aR (au (az K rfl) (pv 2) ae) ae)))))))) aI) fun _ _=>cS (aJ (pv 3)) fun _ _=>?_;have I0:atI (zs.map V.int) 0=_:=bj (by decide) (by omega);have I1:atI (zs.map V.int) 1=_:=bj (by decide) (by omega);have I2:atI (zs.map V.int) 2=_:=bj (by decide) (by omega);have I3:atI (zs.map V.int) 3=_:=bj (by decide) (by omega);generalize zs.getD (0:Int).toNat 0=z0 at I0;generalize zs.getD (1:Int).toNat 0=z1 at I1;generalize zs.getD (2:Int).toNat 0=z2 at I2;generalize zs.getD (3:Int).toNat 0=z3 at I3
  -- behind the raw number: the bits,and the pattern
  apply aL (SqL.of ha) I0 ?_;apply aL (SqL.of ha) I1 ?_;apply bB (.inl ⟨by decide,by decide⟩) ?_;apply bB (.inl ⟨by decide,by decide⟩) ?_;apply aL (SqL.of ha) I2 ?_;apply bB (.inl ⟨by decide,by decide⟩) ?_;apply aL (SqL.of ha) I3 ?_;apply bB (by decide) ?_;apply i8 (fun _=>?_) (fun _=>?_)
  ·apply aL (SqL.of ha) I0 ?_;apply bB (by decide) ?_;apply ⟨_,m,rfl,hm,fun l bs H1 s1 n1 e1 lb hb=>?_⟩;apply aL (SqL.of (s1 _ _ ha)) I3 ?_;apply bB (by decide) ?_;apply i8 (fun _=>?_) (fun _=>?_)
   ·apply ⟨m,rfl,by omega,by omega,fun l2 hn=>?_⟩;rw [Int.toNat_natCast];refine kP (fun i=>.int (bs.getD (((0:Int)+(i:Nat))%(1+z1%4)).toNat 0)) (by omega) hn (fun i o H' Q' hi s2 q=>?_) (fun H' s2 e2=>?_)
    ·apply aL (SqL.of (s2 _ _ (s1 _ _ ha))) I1 ?_;apply bB (by decide) ?_;left;have p1:0<1+z1%4:=by omega
     refine bB p1 ?_;left;have q0:=Int.emod_nonneg ((0:Int)+(i:Nat)) (by omega:1+z1%4≠0);have q1:((0:Int)+(i:Nat))%(1+z1%4)≤(0:Int)+(i:Nat):=lH (by omega) (by omega);refine aL (SqL.of (s2 _ _ e1)) (bj q0 (by omega)) ?_;exact q H' (ao.refl _)
    ·apply k l2 ((List.range m).map fun i=>bs.getD (((0:Int)+(i:Nat))%(1+z1%4)).toNat 0) H' (s1.trans s2) (s1.free hn) (by rw [e2,List.map_map]; rfl) (by rw [List.length_map,List.length_range]) fun z hz=>?_;obtain ⟨i,hi,rfl⟩:=List.mem_map.mp hz;have hi:=List.mem_range.mp hi;have q0:=Int.emod_nonneg ((0:Int)+(i:Nat)) (by omega:1+z1%4≠0);have q1:((0:Int)+(i:Nat))%(1+z1%4)≤(0:Int)+(i:Nat):=lH (by omega) (by omega);exact hb _ (L2.getD_mem (by omega))
   ·left;exact k l bs H1 s1 n1 e1 lb hb
  ·apply ⟨_,m,rfl,hm,fun l bs H1 s1 n1 e1 lb hb=>?_⟩;apply aL (SqL.of (s1 _ _ ha)) I3 ?_;apply bB (by decide) ?_;apply i8 (fun _=>?_) (fun _=>?_)
   ·apply ⟨m,rfl,by omega,by omega,fun l2 hn=>?_⟩;rw [Int.toNat_natCast];refine kP (fun i=>.int (bs.getD (((0:Int)+(i:Nat))%(1+z1%4)).toNat 0)) (by omega) hn (fun i o H' Q' hi s2 q=>?_) (fun H' s2 e2=>?_)
    ·apply aL (SqL.of (s2 _ _ (s1 _ _ ha))) I1 ?_;apply bB (by decide) ?_;left;have p1:0<1+z1%4:=by omega
     refine bB p1 ?_;left;have q0:=Int.emod_nonneg ((0:Int)+(i:Nat)) (by omega:1+z1%4≠0);have q1:((0:Int)+(i:Nat))%(1+z1%4)≤(0:Int)+(i:Nat):=lH (by omega) (by omega);refine aL (SqL.of (s2 _ _ e1)) (bj q0 (by omega)) ?_;exact q H' (ao.refl _)
    ·apply k l2 ((List.range m).map fun i=>bs.getD (((0:Int)+(i:Nat))%(1+z1%4)).toNat 0) H' (s1.trans s2) (s1.free hn) (by rw [e2,List.map_map]; rfl) (by rw [List.length_map,List.length_range]) fun z hz=>?_;obtain ⟨i,hi,rfl⟩:=List.mem_map.mp hz;have hi:=List.mem_range.mp hi;have q0:=Int.emod_nonneg ((0:Int)+(i:Nat)) (by omega:1+z1%4≠0);have q1:((0:Int)+(i:Nat))%(1+z1%4)≤(0:Int)+(i:Nat):=lH (by omega) (by omega);exact hb _ (L2.getD_mem (by omega))
   ·left;exact k l bs H1 s1 n1 e1 lb hb
structure eC (tupl:Bool) (H:Hp) (p:Addr) (s:Int) (cs rs:List Int):Prop where
 ob:∃ c r,H p=some (if tupl then .tup [.int s,.ref c,.ref r] else .lst [.int s,.ref c,.ref r])∧H c=some (.lst (cs.map V.int))∧H r=some (.lst (rs.map V.int))
 sh:s=0∨s=1
 bc:Ar cs
 br:Ar rs
theorem eC.mono {b:Bool} {H H':Hp} {p:Addr} {s:Int} {cs rs:List Int} (e:ao H H') (c:eC b H p s cs rs):eC b H' p s cs rs:=by
 obtain ⟨⟨a,b,h1,h2,h3⟩,x,y,z⟩:=c;exact ⟨⟨a,b,e _ _ h1,e _ _ h2,e _ _ h3⟩,x,y,z⟩
def sp_aZ:Sp:=fun vs H Q _=>∃ (a:Addr) (zs:List Int),vs=[.ref a]∧H a=some (.lst (zs.map V.int))∧12≤zs.length∧∀ p s cs rs H',ao H H'→eC true H' p s cs rs→Q (.ref p) H'
theorem yq (i:Int):0<([5,9,16,40,5]:List Int).getD (i%5).toNat 0∧([5,9,16,40,5]:List Int).getD (i%5).toNat 0≤40:=by
 have h:=L2.getD_mem (zs:=([5,9,16,40,5]:List Int)) (k:=(i%5).toNat) (d:=0) (by simp; omega);symm at h;rcases h with h | h | h | h | h<;>rw [h]<;>decide
theorem yr (i:Int):0<([5,9,12,5,40]:List Int).getD (i%5).toNat 0∧([5,9,12,5,40]:List Int).getD (i%5).toNat 0≤40:=by
 have h:=L2.getD_mem (zs:=([5,9,12,5,40]:List Int)) (k:=(i%5).toNat) (d:=0) (by simp; omega);symm at h;rcases h with h | h | h | h | h<;>rw [h]<;>decide
theorem ok_aZ (T:Txt K mg t):aU P w K mg base CX0 3 t.f_aZ t.d_aZ ["_law_some"] sp_aZ:=by
 refine T.F_aZ.ok sc_aZ (by walk_at "l") (fun _ _ _ s H vs Q E hr h=>?_)
 ·obtain ⟨a,zs,rfl,ha,hl,k⟩:=h;refine aH (aF 1 sc_aZ.nd (av bf ae (av aR (au (az K rfl) (pv 0) ae) (au (az K rfl) (bP (aa ae (aa ae (aa ae (aa ae (aa ae ag)))))) (av aR (au (az K rfl) (pv 0) ae) ae))))) fun _ _=>aH (aF 2 sc_aZ.nd (av bf ae (av aR (au (az K rfl) (pv 0) ae) (au (az K rfl) (bP (aa ae (aa ae (aa ae (aa ae (aa ae ag)))))) (av aR (au (az K rfl) (pv 0) ae) ae))))) fun _ _=>cS (aJ (aQ (aa (av aR (au (az K rfl) (pv 0) ae) ae) (aa (aB (ok_bb T) (rmo hr) rfl T.mg_bb T.F_bb.kp T.b_bb .nil bo (aa (aY (bE K rfl) (pv 0) (bA ae) bz) (aa (av i9 (pv 1) ae) ag))) (aa (aB (ok_bb T) (rmo hr) rfl T.mg_bb T.F_bb.kp T.b_bb .nil bo (aa (aY (bE K rfl) (pv 0) (bA ae) bz) (aa (av i9 (pv 2) ae) ag))) ag))))) fun _ _=>?_;have I0:atI (zs.map V.int) 0=_:=bj (by decide) (by omega);have I1:atI (zs.map V.int) 1=_:=bj (by decide) (by omega);have I2:atI (zs.map V.int) 2=_:=bj (by decide) (by omega);have I3:atI (zs.map V.int) 3=_:=bj (by decide) (by omega);generalize zs.getD (0:Int).toNat 0=z0 at I0;generalize zs.getD (1:Int).toNat 0=z1 at I1;generalize zs.getD (2:Int).toNat 0=z2 at I2;generalize zs.getD (3:Int).toNat 0=z3 at I3;have m0:0≤z0%5:=by omega
  have m5:z0%5<5:=by omega
  apply aL (SqL.of ha) I1 ?_;apply ⟨by show 5≤sizeLine; decide,fun l1 n1=>?_⟩;have s1:=ao.new (o:=HO.lst (([5,9,16,40,5]:List Int).map V.int)) n1;apply aL (SqL.of (s1 _ _ ha)) I0 ?_;apply bB (by decide) ?_;apply aL (SqL.of (xs:=([5,9,16,40,5]:List Int).map V.int) ai) (bj m0 m5) ?_;apply bB (yq z0).1 ?_;apply aL (SqL.of (s1 _ _ ha)) I2 ?_;apply ⟨by show 5≤sizeLine; decide,fun l2 n2=>?_⟩;have s2:=ao.new (o:=HO.lst (([5,9,12,5,40]:List Int).map V.int)) n2;apply aL (SqL.of (s2 _ _ (s1 _ _ ha))) I0 ?_;apply bB (by decide) ?_;apply aL (SqL.of (xs:=([5,9,12,5,40]:List Int).map V.int) ai) (bj m0 m5) ?_;apply bB (yr z0).1 ?_;left;have ha2:=s2 _ _ (s1 _ _ ha);refine aL (SqL.of ha2) I3 ?_;apply bB (by decide) ?_;left;have va:=yq z0;have vb:=yr z0;generalize ([5,9,16,40,5]:List Int).getD (z0%5).toNat 0=va' at va ⊢;generalize ([5,9,12,5,40]:List Int).getD (z0%5).toNat 0=vb' at vb ⊢;have wa0:=Int.emod_nonneg z1 (by omega:va'≠0);have wa1:=Int.emod_lt_of_pos z1 va.1;have wb0:=Int.emod_nonneg z2 (by omega:vb'≠0);have wb1:=Int.emod_lt_of_pos z2 vb.1;refine dh ha2 fun l3 n3=>?_;have s3:=ao.new (o:=HO.lst (bN (zs.map V.int) (some 4) none)) n3;apply ⟨l3,(z1%va').toNat,zs.drop 4,(by show [V.ref l3,V.int (1+z1%va' - 1)]=_; rw [show (1+z1%va' - 1:Int)=(((z1%va').toNat:Nat):Int) by omega]),by rw [ai]; exact congrArg (fun x=>some (HO.lst x)) (iy (k:=4)),by rw [List.length_drop]; omega,by omega,fun c cs H1 s4 _ ec lc bc=>?_⟩;left;have ha4:=s4 _ _ (s3 _ _ ha2);refine dh ha4 fun l5 n5=>?_;have s5:=ao.new (o:=HO.lst (bN (zs.map V.int) (some 8) none)) n5;apply ⟨l5,(z2%vb').toNat,zs.drop 8,(by show [V.ref l5,V.int (1+z2%vb' - 1)]=_; rw [show (1+z2%vb' - 1:Int)=(((z2%vb').toNat:Nat):Int) by omega]),by rw [ai]; exact congrArg (fun x=>some (HO.lst x)) (iy (k:=8)),by rw [List.length_drop]; omega,by omega,fun r rs H2 s6 _ er lr br=>?_⟩;apply ⟨by show 3≤sizeLine; decide,fun p hp=>?_⟩;have s7:=ao.new (o:=HO.tup [V.int (z3%2),V.ref c,V.ref r]) hp;exact k p (z3%2) cs rs _ (s1.trans (s2.trans (s3.trans (s4.trans (s5.trans (s6.trans s7)))))) ⟨⟨c,r,ai,s7 _ _ (s6 _ _ (s5 _ _ ec)),s7 _ _ er⟩,DX z3,⟨by omega,bc⟩,⟨by omega,br⟩⟩
noncomputable def dy (col:Bool) (cs rs:List Int):List Int:=if col=true then cs else rs
def sp_a3:Sp:=fun vs H Q _=>∃ (q:Addr) (col:Bool) (k st s:Int) (cs rs:List Int),vs=[.ref q,.str (wyS col),.int k,.int st]∧eC true H q s cs rs∧0≤k∧k<(dy col cs rs).length∧Q (.bl (decide ((st+(dy col cs rs).getD k.toNat 0)%2=1))) H
theorem DH (col:Bool):decide (wyS col="row")=!col:=by cases col<;>decide +kernel
theorem ok_a3 (T:Txt K mg t):aU P w K mg base CX0 1 t.f_a3 t.d_a3 ["_law_plan","_law_way","_law_k","_law_step"] sp_a3:=by
 refine T.F_a3.ok sc_a3 (by walk_at "l") (fun _ _ _ s H vs Q E hr h=>?_)
 ·obtain ⟨q,col,k,st,s,cs,rs,rfl,pl,h0,h1,z⟩:=h;obtain ⟨⟨c,r,hq,hc,hr'⟩,sh,bc,br⟩:=id pl;refine aH (aF 4 sc_a3.nd (au (ay K rfl) (pv 0) ae)) fun _ _=>aH (aW (aT bU (pv 1) aj) (ak (aF 4 sc_a3.nd (au (ay K rfl) (pv 0) ae))) aI) fun _ _=>cS (aJ (iV bU (av aR (av bf (pv 3) (au (az K rfl) (pv 4) (pv 2))) ae) ae)) fun _ _=>?_;apply aA (SqT.of hq) (v:=.ref c) rfl ?_;left;rw [DH]
  cases col with
  | true =>
   apply aL (SqL.of hc) (bj h0 h1) ?_;apply bB (by decide) ?_;left;exact z
  | false =>
   apply aA (SqT.of hq) (v:=.ref r) rfl ?_;apply aL (SqL.of hr') (bj h0 h1) ?_;apply bB (by decide) ?_;left;exact z
noncomputable def si (s:Int) (cs rs:List Int) (x y:Int):Int:=(s+(cs.take x.toNat).sum+((rs.take y.toNat).sum+x*y))%2
def sp_a0:Sp:=fun vs H Q _=>∃ (q:Addr) (x y s:Int) (cs rs:List Int),vs=[.ref q,.int x,.int y]∧eC true H q s cs rs∧0≤x∧x≤40∧0≤y∧∀ H',ao H H'→Q (.int (si s cs rs x y)) H'
theorem ok_a0 (T:Txt K mg t):aU P w K mg base CX0 1 t.f_a0 t.d_a0 ["_law_plan","_law_x","_law_y"] sp_a0:=by
 refine T.F_a0.ok sc_a0 (by walk_at "l") (fun _ _ _ s H vs Q E hr h=>?_)
 ·obtain ⟨q,x,y,s,cs,rs,rfl,pl,x0,x1,y0,z⟩:=h;obtain ⟨⟨c,r,hq,hc,hr'⟩,sh,bc,br⟩:=id pl;have bs1:=lV (l:=cs.take x.toNat) (fun z hz=>bc.2 z (List.mem_of_mem_take hz)) (by rw [List.length_take]; have:=bc.1; omega);have bs2:=lV (l:=rs.take y.toNat) (fun z hz=>br.2 z (List.mem_of_mem_take hz)) (by rw [List.length_take]; have:=br.1; omega);refine aH (aF 3 sc_a0.nd (av bf (au (ay K rfl) (pv 0) ae) (aC (uu K rfl rfl) rfl T.no_sum (by rfl) (aa (aY (bE K rfl) (au (ay K rfl) (pv 0) ae) bz (bA (pv 1))) ag)))) fun _ _=>aH (yu (i:=3) sc_a0.nd rfl (Or.inl rfl) (av bf (aC (uu K rfl rfl) rfl T.no_sum (by rfl) (aa (aY (bE K rfl) (au (ay K rfl) (pv 0) ae) bz (bA (pv 2))) ag)) (av dP (pv 1) (pv 2))) xC) fun _ _=>cS (aJ (av aR (pv 3) ae)) fun _ _=>?_;apply aA (SqT.of hq) (v:=.int s) rfl ?_;apply aA (SqT.of hq) (v:=.ref c) rfl ?_;apply dh hc fun l1 n1=>?_;rw [ow x0];have s1:=ao.new (o:=HO.lst ((cs.take x.toNat).map V.int)) n1;have e1:=ai (H:=H) (a:=l1) (o:=HO.lst ((cs.take x.toNat).map V.int));generalize upd H l1 (HO.lst ((cs.take x.toNat).map V.int))=H1 at s1 e1 ⊢;apply uX e1 bs1 ?_;apply aA (SqT.of (s1 _ _ hq)) (v:=.ref r) rfl ?_;apply dh (s1 _ _ hr') fun l2 n2=>?_;rw [ow y0];have s2:=ao.new (o:=HO.lst ((rs.take y.toNat).map V.int)) n2;have e2:=ai (H:=H1) (a:=l2) (o:=HO.lst ((rs.take y.toNat).map V.int));generalize upd H1 l2 (HO.lst ((rs.take y.toNat).map V.int))=H2 at s2 e2 ⊢;apply uX e2 bs2 ?_;apply bB (.inl ⟨by omega,by omega⟩) ?_;apply bB (by decide) ?_;left;exact z H2 (s1.trans s2)
noncomputable def vP (s:Int) (cs rs:List Int):List Key→Int
 | [.inr c,.inl i]=>if c="x" then s+(cs.take i.toNat).sum else (rs.take i.toNat).sum
 | _=>0
theorem DF {s:Int} {cs rs:List Int} {i:Int}:vP s cs rs (sx i)=s+(cs.take i.toNat).sum:=by show (if ("x":Str)="x" then s+(cs.take i.toNat).sum else (rs.take i.toNat).sum)=_; rw [if_pos rfl]
theorem DG {s:Int} {cs rs:List Int} {i:Int}:vP s cs rs (sy i)=(rs.take i.toNat).sum:=by show (if ("y":Str)="x" then s+(cs.take i.toNat).sum else (rs.take i.toNat).sum)=_; rw [if_neg (by decide +kernel)]
def Tr (v:List Key→Int) (f:Fct):Prop:=f.tie.2.2=(v f.tie.1+v f.tie.2.1)%2
theorem oV {l:List Int} {k:Nat} (h:k<l.length):(l.take (k+1)).sum=(l.take k).sum+l.getD k 0:=by
 rw [List.take_add_one,List.getElem?_eq_getElem h,List.sum_append,List.getD_eq_getElem?_getD,List.getElem?_eq_getElem h];simp
theorem BI {s:Int} {cs rs:List Int} {x y:Int}:Tr (vP s cs rs) (.cell x y (si s cs rs x y)):=by
 show (si s cs rs x y+x*y)%2=(vP s cs rs (sx x)+vP s cs rs (sy y))%2
 rw [DF,DG];unfold si;generalize x*y=m;omega
theorem vc {s:Int} {cs rs:List Int} (bc:Ar cs) (br:Ar rs) {col:Bool} {k st:Int} (h0:0≤k) (h1:k<(dy col cs rs).length):Tr (vP s cs rs) (.line col k st (decide ((st+(dy col cs rs).getD k.toNat 0)%2=1))):=by
 have bit:(dy col cs rs).getD k.toNat 0=0∨(dy col cs rs).getD k.toNat 0=1:=by
  have hm:=L2.getD_mem (zs:=dy col cs rs) (k:=k.toNat) (d:=0) (by omega)
  cases col with
  | true => exact bc.2 _ hm
  | false => exact br.2 _ hm
 have hs:(vP s cs rs (stS col k)+vP s cs rs (stS col (k+1)))%2=(dy col cs rs).getD k.toNat 0:=by
  have e1:(k+1).toNat=k.toNat+1:=by omega
  cases col with
  | true =>
   show (vP s cs rs (sx k)+vP s cs rs (sx (k+1)))%2=_
   rw [DF,DF,e1,oV (show k.toNat<cs.length by have:(dy true cs rs).length=cs.length:=rfl; omega)]
   show _=cs.getD k.toNat 0
   have:cs.getD k.toNat 0=0∨cs.getD k.toNat 0=1:=bit
   omega
  | false =>
   show (vP s cs rs (sy k)+vP s cs rs (sy (k+1)))%2=_
   rw [DG,DG,e1,oV (show k.toNat<rs.length by have:(dy false cs rs).length=rs.length:=rfl; omega)]
   show _=rs.getD k.toNat 0
   have:rs.getD k.toNat 0=0∨rs.getD k.toNat 0=1:=bit
   omega
 show (if decide ((st+(dy col cs rs).getD k.toNat 0)%2=1)=true then (st+1)%2 else st%2)=(vP s cs rs (stS col k)+vP s cs rs (stS col (k+1)))%2
 rw [hs];generalize (dy col cs rs).getD k.toNat 0=b at bit;by_cases c:(st+b)%2=1
 ·rw [if_pos (aM c)]; omega
 ·rw [if_neg (by rw [aO c]; decide)]; omega
def sp_a4:Sp:=fun vs H Q _=>∃ (q:Addr) (i j l s:Int) (cs rs:List Int),vs=[.ref q,.int i,.int j,.int l]∧eC true H q s cs rs∧∀ a f H',ao H H'→H' a=some (.tup f.vs)→f.inW ((cs.length:Nat)+1:Nat) ((rs.length:Nat)+1:Nat)→Tr (vP s cs rs) f→Q (.ref a) H'
theorem Ak {s:Int} {cs rs:List Int} {x y:Int}:si s cs rs x y=0∨si s cs rs x y=1:=by unfold si; omega
theorem ok_a4 (T:Txt K mg t):aU P w K mg base CX0 2 t.f_a4 t.d_a4 ["_law_plan","_law_one","_law_two","_law_three"] sp_a4:=by
 refine T.F_a4.ok sc_a4 (by walk_at "l") (fun _ _ _ s H vs Q E hr h=>?_)
 ·obtain ⟨q,i,j,l,s,cs,rs,rfl,pl,z⟩:=h;obtain ⟨⟨c,r,hq,hc,hr'⟩,sh,bc,br⟩:=id pl;have lc:=bc.1;have lr:=br.1;refine aH (aF 4 sc_a4.nd (av bf (aC (cn K rfl) rfl T.no_len (by rfl) (aa (au (ay K rfl) (pv 0) ae) ag)) ae)) fun _ _=>aH (aF 5 sc_a4.nd (av bf (aC (cn K rfl) rfl T.no_len (by rfl) (aa (au (ay K rfl) (pv 0) ae) ag)) ae)) fun _ _=>aH (eR (aW (PW.pt (cG (aT bU (av aR (pv 1) ae) ae) (dE (aT mJ (pv 4) ae)))) (aK (tN (i:=6) (j:=7) rfl sc_a4.nd rfl rfl (by decide) rfl rfl (aa (av aR (pv 2) (av i9 (pv 4) ae)) (aa (av aR (pv 3) (pv 5)) ag)) (by rfl)) (ak (aJ (aQ (aa aj (aa (pv 6) (aa (pv 7) (aa (aB (ok_a3 T) (rmo hr) rfl T.mg_a3 T.F_a3.kp T.b_a3 .nil bo (aa (pv 0) (aa aj (aa (pv 6) (aa (pv 7) ag))))) ag)))))))) aI)) fun _ _=>aH (eR (aW (PW.pt (cG (aT bU (av aR (pv 1) ae) ae) (dE (aT mJ (pv 5) ae)))) (aK (tN (i:=6) (j:=7) rfl sc_a4.nd rfl rfl (by decide) rfl rfl (aa (av aR (pv 2) (av i9 (pv 5) ae)) (aa (av aR (pv 3) (pv 4)) ag)) (by rfl)) (ak (aJ (aQ (aa aj (aa (pv 6) (aa (pv 7) (aa (aB (ok_a3 T) (rmo hr) rfl T.mg_a3 T.F_a3.kp T.b_a3 .nil bo (aa (pv 0) (aa aj (aa (pv 6) (aa (pv 7) ag))))) ag)))))))) aI)) fun _ _=>aH (tN (i:=8) (j:=9) rfl sc_a4.nd rfl rfl (by decide) rfl rfl (aa (av aR (pv 2) (pv 4)) (aa (av aR (pv 3) (pv 5)) ag)) (by rfl)) fun _ _=>cS (aJ (aQ (aa aj (aa (pv 8) (aa (pv 9) (aa (aB (ok_a0 T) (rmo hr) rfl T.mg_a0 T.F_a0.kp T.b_a0 .nil bo (aa (pv 0) (aa (pv 8) (aa (pv 9) ag)))) ag)))))) fun _ _=>?_;apply aA (SqT.of hq) (v:=.ref c) rfl ?_;apply b9 hc ?_;rw [List.length_map];apply aA (SqT.of hq) (v:=.ref r) rfl ?_;apply b9 hr' ?_;rw [List.length_map];left;have ec:((cs.length:Nat):Int)+1=(((cs.length+1:Nat)):Int):=by omega
  have er:((rs.length:Nat):Int)+1=(((rs.length+1:Nat)):Int):=by omega
  refine eS (fun σ' H'=>σ'=[some (.ref q),some (.int i),some (.int j),some (.int l),some (.int ((cs.length:Nat)+1)),some (.int ((rs.length:Nat)+1)),none,none,none,none]∧H=H') ?_ ?_
  ·apply bB (by decide) ?_;apply i8 (fun _=>?_) (fun _=>?_)
   ·apply i8 (fun c1=>?_) (fun _=>?_)
    ·have c1:=of_decide_eq_true c1;apply bB (show (0:Int)<(cs.length:Nat)+1 - 1 by omega) ?_;apply bB (show (0:Int)<(rs.length:Nat)+1 by omega) ?_;refine ⟨_,_,rfl,?_⟩;have k0:=Int.emod_nonneg j (show ((cs.length:Nat)+1 - 1:Int)≠0 by omega);have k1:=Int.emod_lt_of_pos j (show (0:Int)<(cs.length:Nat)+1 - 1 by omega);have t0:=Int.emod_nonneg l (show ((rs.length:Nat)+1:Int)≠0 by omega);have t1:=Int.emod_lt_of_pos l (show (0:Int)<(rs.length:Nat)+1 by omega);generalize j%((cs.length:Nat)+1 - 1:Int)=kk at k0 k1 ⊢;generalize l%((rs.length:Nat)+1:Int)=st at t0 t1 ⊢;have kl:kk<(dy true cs rs).length:=by show kk<cs.length; omega
     apply ⟨q,true,kk,st,s,cs,rs,rfl,pl,k0,kl,?_⟩;apply nwT fun a H1 sa na ea=>?_;left;exact z a (.line true kk st _) H1 sa ea ⟨⟨k0,by omega⟩,t0,by omega⟩ (vc bc br k0 kl)
    ·left;exact ⟨rfl,rfl⟩
   ·left;exact ⟨rfl,rfl⟩
  ·rintro σ' H' ⟨rfl,rfl⟩;apply eS (fun σ' H'=>σ'=[some (.ref q),some (.int i),some (.int j),some (.int l),some (.int ((cs.length:Nat)+1)),some (.int ((rs.length:Nat)+1)),none,none,none,none]∧H=H') ?_ ?_
   ·apply bB (by decide) ?_;apply i8 (fun _=>?_) (fun _=>?_)
    ·apply i8 (fun c1=>?_) (fun _=>?_)
     ·have c1:=of_decide_eq_true c1;apply bB (show (0:Int)<(rs.length:Nat)+1 - 1 by omega) ?_;apply bB (show (0:Int)<(cs.length:Nat)+1 by omega) ?_;refine ⟨_,_,rfl,?_⟩;have k0:=Int.emod_nonneg j (show ((rs.length:Nat)+1 - 1:Int)≠0 by omega);have k1:=Int.emod_lt_of_pos j (show (0:Int)<(rs.length:Nat)+1 - 1 by omega);have t0:=Int.emod_nonneg l (show ((cs.length:Nat)+1:Int)≠0 by omega);have t1:=Int.emod_lt_of_pos l (show (0:Int)<(cs.length:Nat)+1 by omega);generalize j%((rs.length:Nat)+1 - 1:Int)=kk at k0 k1 ⊢;generalize l%((cs.length:Nat)+1:Int)=st at t0 t1 ⊢;have kl:kk<(dy false cs rs).length:=by show kk<rs.length; omega
      apply ⟨q,false,kk,st,s,cs,rs,rfl,pl,k0,kl,?_⟩;apply nwT fun a H1 sa na ea=>?_;left;exact z a (.line false kk st _) H1 sa ea ⟨⟨k0,by omega⟩,t0,by omega⟩ (vc bc br k0 kl)
     ·left;exact ⟨rfl,rfl⟩
    ·left;exact ⟨rfl,rfl⟩
   ·rintro σ' H' ⟨rfl,rfl⟩;apply bB (show (0:Int)<(cs.length:Nat)+1 by omega) ?_;apply bB (show (0:Int)<(rs.length:Nat)+1 by omega) ?_;refine ⟨_,_,rfl,?_⟩;have k0:=Int.emod_nonneg j (show ((cs.length:Nat)+1:Int)≠0 by omega);have k1:=Int.emod_lt_of_pos j (show (0:Int)<(cs.length:Nat)+1 by omega);have t0:=Int.emod_nonneg l (show ((rs.length:Nat)+1:Int)≠0 by omega);have t1:=Int.emod_lt_of_pos l (show (0:Int)<(rs.length:Nat)+1 by omega);generalize j%((cs.length:Nat)+1:Int)=x at k0 k1 ⊢;generalize l%((rs.length:Nat)+1:Int)=y at t0 t1 ⊢;apply ⟨q,x,y,s,cs,rs,rfl,pl,k0,by omega,t0,fun H2 s2=>?_⟩;apply nwT fun a H3 sa na ea=>?_;left;exact z a (.cell x y (si s cs rs x y)) H3 (s2.trans sa) ea ⟨⟨k0,by omega⟩,⟨t0,by omega⟩,Ak⟩ BI
noncomputable def bR (F:List (Int×Fct)):List Fm.Tie:=F.map fun nf=>nf.2.tie
structure FOk (v:List Key→Int) (wd ht:Nat) (F:List (Int×Fct)) (n:Int) (G:List Key→List Key×Int):Prop where
 inw:∀ nf∈F,nf.2.inW wd ht
 tr:∀ nf∈F,Tr v nf.2
 lt:∀ nf∈F,nf.1<n
 nd:(F.map (·.1)).Nodup
 gr:Fm.i3 (bD wd ht) (bR F) v G
theorem FOk.nil {v:List Key→Int} {wd ht:Nat}:FOk v wd ht [] 0 Fm.lone:=⟨(fun _ h=>nomatch h),(fun _ h=>nomatch h),(fun _ h=>nomatch h),List.nodup_nil,Fm.i3.lone⟩
theorem FOk.snoc {v:List Key→Int} {wd ht:Nat} {F:List (Int×Fct)} {n:Int} {G:List Key→List Key×Int} (h:FOk v wd ht F n G) {f:Fct} (hi:f.inW wd ht) (ht':Tr v f):FOk v wd ht (F++[(n,f)]) (n+1) (Fm.gN G f.tie):=by
 have sp:∀ nf∈F++[(n,f)],nf∈F∨nf=(n,f):=fun nf hm=>by
  rcases List.mem_append.mp hm with z | z
  ·exact .inl z
  ·exact .inr (List.mem_singleton.mp z)
 refine ⟨fun nf hm=>?_,fun nf hm=>?_,fun nf hm=>?_,?_,?_⟩
 ·rcases sp nf hm with z | rfl
  ·exact h.inw nf z
  ·exact hi
 ·rcases sp nf hm with z | rfl
  ·exact h.tr nf z
  ·exact ht'
 ·rcases sp nf hm with z | rfl
  ·have:=h.lt nf z; omega
  ·show n<n+1; omega
 ·rw [List.map_append,List.nodup_append];refine ⟨h.nd,by simp,fun a ha b hb e=>?_⟩;obtain ⟨nf,hm,rfl⟩:=List.mem_map.mp ha;have:=h.lt nf hm
  simp only [List.map_cons,List.map_nil,List.mem_singleton] at hb;omega
 ·unfold bR;rw [List.map_append];exact h.gr.tie (Fct.inD hi).1 (Fct.inD hi).2 ht'
theorem FOk.out {v:List Key→Int} {wd ht:Nat} {F:List (Int×Fct)} {n:Int} {G:List Key→List Key×Int} (h:FOk v wd ht F n G) (j:Int):FOk v wd ht (iN F j) n (Cz (iN F j)):=by
 have sub:∀ nf∈iN F j,nf∈F:=fun nf hm=>(List.mem_filter.mp hm).1;have ei:(iN F j |>.map (·.2)).map Fct.tie=bR (iN F j):=by rw [List.map_map]; rfl
 refine ⟨fun nf hm=>h.inw nf (sub nf hm),fun nf hm=>h.tr nf (sub nf hm),fun nf hm=>h.lt nf (sub nf hm),?_,?_⟩
 ·exact h.nd.sublist (List.Sublist.map _ List.filter_sublist)
 ·unfold Cz;rw [ei];refine Fm.i3.of (fun e he=>?_) fun e he=>?_
  ·obtain ⟨nf,hm,rfl⟩:=List.mem_map.mp he;exact Fct.inD (h.inw nf (sub nf hm))
  ·obtain ⟨nf,hm,rfl⟩:=List.mem_map.mp he;exact h.tr nf (sub nf hm)
def wI (H:Hp) (S:List Addr):Prop:=∀ b∈S,∀ xs,H b≠some (.tup xs)∧H b≠some (.lst xs)
theorem wI.noT {H:Hp} {S:List Addr} (h:wI H S):NoT H S:=fun b hb xs=>(h b hb xs).1
theorem fm {S:List Addr} {H H':Hp} (m:aV S H H') (o:wI H S) {b:Addr} {xs:List V} (e:H b=some (.lst xs)):H' b=some (.lst xs):=m b _ e fun z=>(o b z xs).2 e
theorem cv.outS {C:Addr} {H:Hp} {p df dg:Addr} {wd ht:Nat} {F:List (Int×Fct)} {n:Int} {G:List Key→List Key×Int} (h:cv C H p df dg wd ht F n G):wI H [p,df,dg]:=fun b hb xs=>⟨h.not b hb xs,fun e=>h.lst e hb⟩
theorem eC.but {S:List Addr} {H H':Hp} {q:Addr} {s:Int} {cs rs:List Int} (h:eC true H q s cs rs) (m:aV S H H') (o:wI H S):eC true H' q s cs rs:=by
 obtain ⟨⟨a,b,h1,h2,h3⟩,x,y,z⟩:=h;exact ⟨⟨a,b,bu m o.noT h1,fm m o h2,fm m o h3⟩,x,y,z⟩
def PwP (H:Hp) (xs:List V) (F:List (Int×Fct)):Prop:=xs.length=F.length∧∀ (i:Nat) v nf,xs[i]?=some v→F[i]?=some nf→∃ b a,v=.ref b∧H b=some (.tup [.int nf.1,.ref a])∧H a=some (.tup nf.2.vs)
theorem PwP.but {S:List Addr} {H H':Hp} {xs:List V} {F:List (Int×Fct)} (h:PwP H xs F) (m:aV S H H') (n:NoT H S):PwP H' xs F :=
 ⟨h.1,fun i v nf h1 h2=>let ⟨b,a,e,q,r⟩:=h.2 i v nf h1 h2; ⟨b,a,e,bu m n q,bu m n r⟩⟩
theorem PwP.mono {H H':Hp} {xs:List V} {F:List (Int×Fct)} (h:PwP H xs F) (m:ao H H'):PwP H' xs F:=h.but (m.butL []) (fun x hx=>nomatch hx)
theorem PwP.snoc {H:Hp} {xs:List V} {F:List (Int×Fct)} {n:Int} {f:Fct} {b a:Addr} (h:PwP H xs F) (hb:H b=some (.tup [.int n,.ref a])) (ha:H a=some (.tup f.vs)):PwP H (xs++[.ref b]) (F++[(n,f)]):=by
 refine ⟨by rw [List.length_append,List.length_append,h.1]; rfl,fun i v nf h1 h2=>?_⟩;by_cases hi:i<xs.length
 ·rw [List.getElem?_append_left hi] at h1;rw [List.getElem?_append_left (by rw [← h.1]; exact hi)] at h2;exact h.2 i v nf h1 h2
 ·rw [List.getElem?_append_right (by omega)] at h1;rw [List.getElem?_append_right (by rw [← h.1]; omega),← h.1] at h2
  cases hk:i - xs.length with
  | zero =>
   rw [hk] at h1 h2;simp only [List.getElem?_cons_zero,Option.some.injEq] at h1 h2;subst h1 h2;exact ⟨b,a,rfl,hb,ha⟩
  | succ k' => rw [hk] at h1; simp at h1
noncomputable def kX (H:Hp):V→V
 | .ref b=>match H b with
  | some (.tup [_, x]) => x
  | _ => .non
 | _=>.non
theorem PwP.snds {H:Hp} {xs:List V} {F:List (Int×Fct)} (h:PwP H xs F):PwF H (xs.map (kX H)) (F.map (·.2)):=by
 refine ⟨by rw [List.length_map,List.length_map,h.1],fun i v f h1 h2=>?_⟩;rw [List.getElem?_map] at h1 h2;obtain ⟨x,e1,rfl⟩:=Option.map_eq_some_iff.mp h1;obtain ⟨nf,e2,rfl⟩:=Option.map_eq_some_iff.mp h2;obtain ⟨b,a,rfl,hb,ha⟩:=h.2 i x nf e1 e2;exact ⟨a,by simp only [kX,hb],ha⟩
theorem PwP.mem {H:Hp} {xs:List V} {F:List (Int×Fct)} (h:PwP H xs F) {x:V} (hx:x∈xs):∃ b a nf,x=.ref b∧nf∈F∧H b=some (.tup [.int nf.1,.ref a])∧H a=some (.tup nf.2.vs):=by
 obtain ⟨i,hi⟩:=List.mem_iff_getElem?.mp hx;have hl:i<F.length:=by rw [← h.1]; exact (List.getElem?_eq_some_iff.mp hi).1
 obtain ⟨b,a,e,q,r⟩:=h.2 i x _ hi (List.getElem?_eq_getElem hl);exact ⟨b,a,_,e,List.getElem_mem hl,q,r⟩
theorem En (x y:Int):sx x≠sy y:=fun z=>by
 injection z with z _;injection z with z;exact absurd z (by decide +kernel)
theorem Dx (col:Bool) (k:Int):stS col k≠stS col (k+1):=fun z=>by
 cases col
 ·injection z with _ z;injection z with z _;injection z with z;omega
 ·injection z with _ z;injection z with z _;injection z with z;omega
def Clh (G:List Key→List Key×Int) (f:Fct):Prop:=(G f.tie.1).1=(G f.tie.2.1).1∧¬ ((G f.tie.1).2+(G f.tie.2.1).2)%2=f.tie.2.2
theorem BL {F:List (Int×Fct)} {root s:List Key} {ns:List Int} (h:Fm.Way (jD F) root s ns):∀ n∈ns,n∈F.map (·.1):=by
 induction h with
 | here=>intro n hn; cases hn
 | on e _ ih =>
  intro n hn;rcases List.mem_cons.mp hn with rfl | hn
  ·obtain ⟨f,hf,_⟩:=e;exact List.mem_map.mpr ⟨_,hf,rfl⟩
  ·exact ih n hn
theorem BK {F:List (Int×Fct)} {root s:List Key} {ns:List Int} (h:Fm.Way (jD F) root s ns) (nd:ns.Nodup):ns.length≤F.length:=by
 have:=iC ns (F.map (·.1)) nd (BL h)
 rwa [List.length_map] at this
theorem DD (f:Fct):f.tie.1≠f.tie.2.1:=by
 cases f with
 | cell x y c=>exact En x y
 | line col k s b=>exact Dx col k
def sp_aL (C:Addr):Sp:=fun vs H Q _=>∃ (e l:Addr) (xs:List V),vs=[.ref e,.ref l]∧H l=some (.lst xs)∧H e=some (fH e C none) ∧
 ∀ d r H',(∀ b o,H b=some o→b≠e→H' b=some o)→d≠e→r≠e→H r=none→H' e=some (fH e C (some d))→H' d=some (XdO d [("ring",.ref r)])→H' r=some (.lst xs)→Q .non H'
theorem ok_aL (T:Txt K mg t):aU P w K mg base CX0 1 t.f_aL t.d_aL ["self","ring"] (sp_aL t.a_ay):=by
 refine T.F_aL.ok sc_aL (by walk_at "l") (fun _ _ _ s H vs Q E hr h=>?_)
 ·obtain ⟨e,l,xs,rfl,hl,he,k⟩:=h;refine ⟨_,(aK (bG (yl rfl T.mg_aJ T.bi_aJ (aa (pv 0) (aa aj ag)))) (ak (A0 (pv 0) (dn (wN K rfl) rfl T.no_list (by rfl) (aa (pv 1) ag)) rfl))),?_⟩;apply y9 ?_;apply ⟨e,t.a_ay,none,_,rfl,he,T.mx_ay.ei,?_⟩;apply yZ ?_;apply ze hl fun r nr=>?_;left;have ner:e≠r:=aE he nr;have sr:=ao.new (o:=HO.lst xs) nr;have er:=ai (H:=H) (a:=r) (o:=HO.lst xs);generalize upd H r (HO.lst xs)=H1 at sr er ⊢;refine ⟨e,t.a_ay,rfl,T.mx_ay.ei,T.nx_Clash_ring,.inl ⟨sr _ _ he,fun d hd ne=>?_⟩⟩;have nrd:r≠d:=aE er hd;refine k d r _ (fun b o z q=>?_) ne ner.symm nr ai (by rw [aw ne]; exact ai) (by rw [aw ner.symm,aw nrd]; exact er);rw [aw q,aw (aE (sr _ _ z) hd)];exact sr _ _ z
def nX (C KN CL NC BB NL NS:Addr):Sp:=fun vs H Q E=>∃ (p a df dg:Addr) (wd ht:Nat) (F:List (Int×Fct)) (n:Int) (G:List Key→List Key×Int) (f:Fct) (v:List Key→Int),vs=[.ref p,.ref a]∧cv C H p df dg wd ht F n G∧FOk v wd ht F n G∧wd≤40∧ht≤40∧F.length≤400 ∧
 H a=some (.tup f.vs)∧(∀ X,f.no NC BB NL NS wd ht=some X→∀ H',ao H H'→E (.ref X) none H')∧(f.inW wd ht→f∈F.map (·.2)→∀ H',ao H H'→E (.ref KN) none H') ∧
 (f.inW wd ht→f∉F.map (·.2)→Clh G f→∀ d r xs H',ao H H'→H r=none→H' d=some (XdO d [("ring",.ref r)])→H' r=some (.lst xs)→xs.length≤400→E (.ref CL) (some d) H') ∧
 (f.inW wd ht→f∉F.map (·.2)→¬ Clh G f→∀ H',aV [p,df,dg] H H'→cv C H' p df dg wd ht (F++[(n,f)]) (n+1) (Fm.gN G f.tie)→Q (.int n) H')
theorem okx_am (T:Txt K mg t):aU P w K mg base (CX2 P w) 6 t.f_am t.d_am ["self","fact"] (nX t.a_ab t.a_a5 t.a_ay t.a_aT t.a_aU t.a_aN t.a_aV):=by
 refine T.F_am.ok2 sc_am (by walk_at "l") (fun _ _ _ s H vs Q E hr h=>?_)
 ·obtain ⟨p,a,df,dg,wd,ht,F,n,G,f,v,rfl,fd,fo,lw,lh,lF,ha,kx,k2,k4,k3⟩:=h;have ln:=fo.lt;obtain ⟨dx,fs,hp,fl⟩:=fd.ob;obtain ⟨kf,hdf,pf⟩:=fd.fa;refine aH (bG (iE (pv 0) T.cl_ab T.m_ag (okx_ag T) (rmo hr) T.b_ag .nil cE (aa (pv 1) ag))) fun _ _=>aH (aW (dY (x8 hr.units) (pv 1) (dn (qE rfl) rfl T.no_list (by rfl) (aa (pS PySem.F.plainAttrs_dict PySem.F.slot_dict_values PySem.F.type_dict_values oK (cN K rfl (pv 0) rfl)) ag)) rfl) (ak (bS T.mg_a5 T.x_a5 PySem.F.excBase_ValueError rfl rfl (fun _ _ _ _ _ _ _ _ I m q=>gJ I m q) (aa aj ag))) aI) fun _ _=>aH (aF 2 sc_am.nd (aB (ok_ao T).up2 (rmo hr) rfl T.mg_ao T.F_ao.kp T.b_ao .nil cE (aa (pv 1) ag))) fun _ _=>aH (aF 3 sc_am.nd (aB (ok_ai T).up2 (rmo hr) rfl T.mg_ai T.F_ai.kp T.b_ai .nil cE (aa (cN K rfl (pv 0) rfl) (aa (pv 2) ag)))) fun _ _=>aH (eR (aW (PW.pt (cG (aT uM (pv 3) ja) (dE (aT eM (pv 3) (aB (ok_ap T).up2 (rmo hr) rfl T.mg_ap T.F_ap.kp T.b_ap .nil cE (aa (pv 1) ag)))))) (ak (tO T.mx_ay (ok_aL T) (rmo hr) rfl T.mg_ay T.b_aL rfl rfl (fun _ _ _ _ _ _ _ _ I a b c d e f g h k=>sq I a b c d e f g h k) (aa (aB (ok_aD T).up2 (rmo hr) rfl T.mg_aD T.F_aD.kp T.b_aD .nil cE (aa (cN K rfl (pv 0) rfl) (aa (pv 2) ag))) ag))) aI)) fun _ _=>aH (bG (aB (x6 T).up2 (rmo hr) rfl T.mg_tie T.F_tie.kp T.b_tie .nil cE (aa (cN K rfl (pv 0) rfl) (aa (pv 2) (aa (aB (ok_ap T).up2 (rmo hr) rfl T.mg_ap T.F_ap.kp T.b_ap .nil cE (aa (pv 1) ag)) ag))))) fun _ _=>aH (aF 4 sc_am.nd (cN K rfl (pv 0) rfl)) fun _ _=>aH (gB (b0 hr) (cN K rfl (pv 0) rfl) (pv 4) (pv 1) rfl) fun _ _=>aH (hG (pv 0) (av bf (pv 4) ae) rfl) fun _ _=>cS (aJ (pv 4)) fun _ _=>?_;apply bp hp (fl.no _ (by decide +kernel)) ?_;apply ⟨p,a,wd,ht,f,rfl,fd.sz,ha,fun hno H1 s1=>?_,kx⟩;have hin:=Fct.no_iff.mp hno;have k2:=k2 hin;have k4:=k4 hin;have k3:=k3 hin;have fdD:=Fct.inD hin;apply cP (s1 _ _ hp) T.cl_ab T.naF_facts fl.f ?_;apply pU (s1 _ _ hdf) ?_;refine jO (s1 _ _ hdf) fun v nv=>?_;have sv:=ao.new (o:=cC "dict_values" v df) nv;have ev:=ai (H:=H1) (a:=v) (o:=cC "dict_values" v df);generalize upd H1 v (cC "dict_values" v df)=H2 at sv ev ⊢;have s2:=s1.trans sv;apply rJ ev (s2 _ _ hdf) fun l nl=>?_;have sl:=ao.new (o:=HO.lst (kf.map (·.2))) nl;have el:=ai (H:=H2) (a:=l) (o:=HO.lst (kf.map (·.2)));generalize upd H2 l (HO.lst (kf.map (·.2)))=H3 at sl el ⊢;have s3:=s2.trans sl;apply y7 el (pf.vals.mono s3) (s3 _ _ ha) ?_;by_cases hm:f∈F.map (·.2)
  ·rw [aM hm];left;exact ⟨by show 1≤sizeLine; decide,k2 hm _ s3⟩
  ·rw [aO hm];have k3:=k3 hm;have k4:=k4 hm;apply ⟨a,f,rfl,s3 _ _ ha,fun T1 ta tb H4 s4 pr=>?_⟩;have s4:=s3.trans s4;have fd4:=fd.mono s4;apply cP (s4 _ _ hp) T.cl_ab T.naF_groups fl.g ?_;apply ⟨dg,T1,ta,tb,_,G,_,_,rfl,fd4.gr,pr,fdD.1,fdD.2,?_⟩;apply eS (fun σ' H'=>σ'=[some (.ref p),some (.ref a),some (.ref T1),some (wtB G f.tie.1 f.tie.2.1),none]∧H'=H4∧¬ Clh G f) ?_ ?_
   ·apply ⟨rfl,?_⟩;by_cases cl:(G f.tie.1).1=(G f.tie.2.1).1
    rotate_left
    ·have e:wtB G f.tie.1 f.tie.2.1=.non:=by unfold wtB; rw [if_neg cl]
     rw [e,aM rfl];left;exact ⟨by rw [← e]; rfl,rfl,fun z=>cl z.1⟩
    ·have e:wtB G f.tie.1 f.tie.2.1=.int (((G f.tie.1).2+(G f.tie.2.1).2)%2):=by unfold wtB; rw [if_pos cl]
     rw [e,aO (fun z=>nomatch z)];apply ⟨a,f,wd,ht,rfl,s4 _ _ ha,hin,by omega,by omega,?_⟩;left;by_cases cw:((G f.tie.1).2+(G f.tie.2.1).2)%2=f.tie.2.2
     ·rw [aM cw];left;exact ⟨by rw [← e]; rfl,rfl,fun z=>z.2 cw⟩
     ·rw [aO cw];apply vY ?_;apply cP (s4 _ _ hp) T.cl_ab T.naF_facts fl.f ?_;left;have con:=((fo.gr.lead _ fdD.1 _ fdD.2).mp cl).symm;refine ⟨df,T1,ta,tb,kf,F,bD wd ht,_,_,rfl,s4 _ _ hdf,pf.but (s4.butL []) (fun x hx=>nomatch hx),by omega,fo.nd,pr,DD f,fdD.2,by rw [eB]; omega,fun nf hnf=>Fct.inD (fo.inw nf hnf),con,fun lr ns H5 s5 nlr e5 wy nd=>?_⟩;apply ⟨by show 1≤sizeLine; decide,fun e he=>⟨e,lr,_,rfl,(by rw [aw (aE e5 he)]; exact e5),ai,fun d r H6 kp ne1 ne2 nr e6 d6 r6=>⟨rfl,some d,e6,?_⟩⟩⟩;refine k4 ⟨cl,cw⟩ d r _ _ (s4.trans (s5.trans fun c o z=>?_)) ((s4.trans s5).free (by rw [aw ne2] at nr; exact nr)) (by rw [gp ne1]; exact d6) (by rw [gp ne2]; exact r6) (by rw [List.length_map]; exact Nat.le_trans (BK wy nd) lF);have hc:c≠e:=aE z he;rw [gp hc];exact kp c o (by rw [aw hc]; exact z) hc
   ·rintro σ' H' ⟨rfl,rfl,ncl⟩;have k3:=k3 ncl;have nt4:=fd4.not;obtain ⟨⟨kg,hkg,_⟩,_⟩:=id fd4.gr;have hp4:=s4 _ _ hp;have hdf4:=s4 _ _ hdf;have pdg:p≠dg:=fw hp4 hkg (fun z=>nomatch z);have fdg:df≠dg:=fw hdf4 hkg (fun z=>nomatch z);have fp:df≠p:=fw hdf4 hp4 (fun z=>nomatch z);apply cP hp4 T.cl_ab T.naF_groups fl.g ?_;apply ⟨a,f,wd,ht,rfl,s4 _ _ ha,hin,by omega,by omega,?_⟩;apply ⟨dg,T1,ta,tb,_,G,_,_,_,rfl,fd4.gr,iY wd ht,by rw [eB]; omega,pr,fdD.1,fdD.2,fun H5 m5 g5=>?_⟩;have nt:NoT H' [dg]:=fun x hx=>nt4 x (by rw [List.mem_singleton.mp hx]; simp);have hp5:=m5 _ _ hp4 (by rw [List.mem_singleton]; exact pdg);have hdf5:=m5 _ _ hdf4 (by rw [List.mem_singleton]; exact fdg);have ha5:=bu m5 nt (s4 _ _ ha);have pf5:=(pf.but (s4.butL []) (fun x hx=>nomatch hx)).but m5 nt;apply cP hp5 T.cl_ab T.naF_next_number fl.n ?_;apply cP hp5 T.cl_ab T.naF_facts fl.f ?_;apply ⟨df,_,rfl,jt.k (k:=.inl n) hdf5 (by rw [pf.1]; exact aZ (by omega)),?_⟩;have nk:a8 kf (.inl n)=none:=iG (by
     rw [pf.keys];intro z;obtain ⟨nf,hm',e⟩:=List.mem_map.mp z;have:=ln nf hm'
     injection e with e;omega)
    rw [fY _ nk];have ed6:=ai (H:=H5) (a:=df) (o:=HO.dK (kf++[(.inl n,.ref a)]));have hp6:upd H5 df (HO.dK (kf++[(.inl n,.ref a)])) p=some (.ins t.a_ab dx fs):=by rw [aw fp.symm]; exact hp5
    have m6:aV [p,df] H5 (upd H5 df (HO.dK (kf++[(.inl n,.ref a)]))):=(aV.refl _ _).upd (by simp);generalize upd H5 df (HO.dK (kf++[(.inl n,.ref a)]))=H6 at ed6 hp6 m6 ⊢;apply ef hp6 T.cl_ab T.naF_next_number (by have:=fl.len; omega) ?_;left;have m7:aV [p,df] H5 (upd H6 p (.ins t.a_ab dx (bL (Str.ofString "next_number") (.int (n+1)) fs))):=m6.upd (by simp);have nt5:NoT H5 [p,df]:=fun x hx xs=>by
     symm at hx;rcases hx with rfl | rfl
     ·rw [hp5]; intro z; cases z
     ·rw [hdf5]; intro z; cases z
    refine k3 _ (fun b o e nb=>m7 b o (m5 b o (s4 _ _ e) (fun z=>nb (by rw [List.mem_singleton.mp z]; simp))) (fun z=>nb (by simp only [List.mem_cons,List.not_mem_nil,or_false] at z ⊢; rcases z with z | z<;>simp [z]))) ⟨⟨dx,_,ai,fl.next⟩,⟨_,(by rw [aw fp]; exact ed6),(pf5.snoc ha5).but m7 nt5⟩,g5.but m7 nt5 ?_⟩;simp only [List.mem_cons,List.not_mem_nil,or_false,not_or];exact ⟨pdg.symm,fdg.symm⟩
def DQ (H:Hp) (T:Addr) (e:Fm.Tie):Prop:=∃ a b,H T=some (.tup [.ref a,.ref b,.int e.2.2])∧H a=some (.tup (e.1.map kV))∧H b=some (.tup (e.2.1.map kV))
def sp_bc:Sp:=fun vs H Q _=>∃ (p:Addr) (f:Fct) (wd ht:Int),vs=[.ref p]∧H p=some (.tup f.vs)∧f.inW wd ht∧wd≤40∧ht≤40∧∀ T H',ao H H'→DQ H' T f.tie→Q (.ref T) H'
theorem ok_bc (T:Txt K mg t):aU P w K mg base CX0 1 t.f_bc t.d_bc ["_law_fact_here"] sp_bc:=by
 refine T.F_bc.ok sc_bc (by walk_at "l") (fun _ _ _ s H vs Q E hr h=>?_)
 ·obtain ⟨p,f,wd,ht,rfl,hp,hi,lw,lh,k⟩:=h;refine aH (aW (aT bU (au (ay K rfl) (pv 0) ae) aj) (ak (aJ (aQ (aa (aQ (aa aj (aa (au (ay K rfl) (pv 0) ae) ag))) (aa (aQ (aa aj (aa (au (ay K rfl) (pv 0) ae) ag))) (aa (av aR (av bf (au (ay K rfl) (pv 0) ae) (av dP (au (ay K rfl) (pv 0) ae) (au (ay K rfl) (pv 0) ae))) ae) ag)))))) aI) fun _ _=>aH (aF 1 sc_bc.nd (dB (b0 hr) (AW (mM aj aj (mM aj aj uQ)) rfl rfl (fun z=>nomatch z) (by decide)) (au (ay K rfl) (pv 0) ae) (fun _ _=>rfl))) fun _ _=>aH (aF 2 sc_bc.nd (av aR (av bf (au (ay K rfl) (pv 0) ae) ae) ae)) fun _ _=>aH (eR (aW (dD (cF (au (ay K rfl) (pv 0) ae))) (ak (aF 2 sc_bc.nd (av aR (au (ay K rfl) (pv 0) ae) ae))) aI)) fun _ _=>cS (aJ (aQ (aa (aQ (aa (pv 1) (aa (au (ay K rfl) (pv 0) ae) ag))) (aa (aQ (aa (pv 1) (aa (av bf (au (ay K rfl) (pv 0) ae) ae) ag))) (aa (pv 2) ag))))) fun _ _=>?_
  cases f with
  | cell x y c =>
   obtain ⟨⟨x0,x1⟩,⟨y0,y1⟩,_⟩:=hi;apply aA (SqT.of hp) (v:=.str "cell") rfl ?_;left;rw [aM (rfl:("cell":Str)="cell")];apply aA (SqT.of hp) (v:=.int x) rfl ?_;apply nwT fun a H1 sa na ea=>?_;apply aA (SqT.of (sa _ _ hp)) (v:=.int y) rfl ?_;apply nwT fun b H2 sb nb eb=>?_;have hp2:=sb _ _ (sa _ _ hp);apply aA (SqT.of hp2) (v:=.int c) rfl ?_;apply aA (SqT.of hp2) (v:=.int x) rfl ?_;apply aA (SqT.of hp2) (v:=.int y) rfl ?_;apply bB (.inl ⟨by omega,by omega⟩) ?_;apply bB (by decide) ?_;apply nwT fun d H3 sd nd ed=>?_;left;exact k d H3 ((sa.trans sb).trans sd) ⟨a,b,ed,sd _ _ (sb _ _ ea),sd _ _ eb⟩
  | line col kk st b =>
   apply aA (SqT.of hp) (v:=.str (wyS col)) rfl ?_;left;rw [lT];apply yT (by decide +kernel) fun dd H1 nd s1 ed=>?_;have hp1:=s1 _ _ hp;apply aA (SqT.of hp1) (v:=.str (wyS col)) rfl ?_;apply yR ed (v:=.str (if col=true then "x" else "y")) (by cases col<;>decide +kernel) ?_;apply aA (SqT.of hp1) (v:=.int st) rfl ?_;apply bB (by decide) ?_;apply eS (fun σ' H'=>σ'=[some (.ref p),some (.str (if col=true then "x" else "y")),some (.int (Fct.line col kk st b).tie.2.2)]∧H1=H') ?_ ?_
   ·apply aA (SqT.of hp1) (v:=.bl b) rfl ?_;left
    cases b with
    | true =>
     left;exact ⟨rfl,rfl⟩
    | false =>
     apply aA (SqT.of hp1) (v:=.int st) rfl ?_;apply bB (by decide) ?_;left;exact ⟨rfl,rfl⟩
   ·rintro σ' H' ⟨rfl,rfl⟩;generalize hwt:(Fct.line col kk st b).tie.2.2=wt;apply aA (SqT.of hp1) (v:=.int kk) rfl ?_;apply nwT fun a H2 sa na ea=>?_;apply aA (SqT.of (sa _ _ hp1)) (v:=.int kk) rfl ?_;apply nwT fun bb H3 sbb nbb ebb=>?_;apply nwT fun d H4 sd nd ed=>?_;left;have ek:∀ i:Int,[V.str (if col=true then Str.ofString "x" else Str.ofString "y"),V.int i]=(stS col i).map kV:=fun i=>by cases col<;>rfl
    rw [ek] at ea ebb;exact k d H4 (((s1.trans sa).trans sbb).trans sd) ⟨a,bb,by rw [hwt]; exact ed,sd _ _ (sbb _ _ ea),sd _ _ ebb⟩
theorem oM {α:Type} [DecidableEq α]:∀ (a b:List α),a.Nodup→(∀ x∈a,x∈b)→a.length≤b.length
 | [],_,_,_=>Nat.zero_le _
 | x::a,b,hn,hs=>by
  rw [List.nodup_cons] at hn;have hx:=hs x List.mem_cons_self;have ih:=oM a (b.erase x) hn.2 fun y hy=>by
   have:y≠x:=fun e=>hn.1 (e ▸ hy)
   exact (List.mem_erase_of_ne this).mpr (hs y (List.mem_cons_of_mem _ hy))
  rw [List.length_erase_of_mem hx] at ih;have:=List.length_pos_of_mem hx
  rw [List.length_cons];omega
structure VOk (F:List Fm.Tie) (v:List Key→Int) (a:List Key) (kvs:List (List Key×V)):Prop where
 st:(a8 kvs a).isSome=true
 vl:∀ s u,a8 kvs s=some u→Fm.Con F a s∧u=.int ((v a+v s)%2)
 nd:(kvs.map (·.1)).Nodup
 ks:∀ s∈kvs.map (·.1),s∈a::F.flatMap fun e=>[e.1,e.2.1]
theorem VOk.len {F:List Fm.Tie} {v:List Key→Int} {a:List Key} {kvs:List (List Key×V)} (h:VOk F v a kvs):kvs.length≤2*F.length+1:=by
 have:=oM _ _ h.nd h.ks
 rw [List.length_map,List.length_cons] at this
 have e:(F.flatMap fun e=>[e.1,e.2.1]).length=2*F.length:=by
  clear this h
  induction F with
  | nil => rfl
  | cons e F ih => rw [List.flatMap_cons, List.length_append, ih, List.length_cons]; show 2 + 2 * F.length = 2 * (F.length + 1); omega
 omega
theorem VOk.put {F:List Fm.Tie} {v:List Key→Int} {a s:List Key} {kvs:List (List Key×V)} {i:Int} (h:VOk F v a kvs) (hc:Fm.Con F a s) (hi:i=(v a+v s)%2) (hn:a8 kvs s=none) (hs:s∈a::F.flatMap fun e=>[e.1,e.2.1]):VOk F v a (bO kvs s (.int i))∧kvs.length<(bO kvs s (.int i)).length:=by
 have nm:s∉kvs.map (·.1):=fun z=>by have:=fh.mpr z; rw [hn] at this; cases this
 rw [fY _ hn];refine ⟨⟨?_,fun u x hx=>?_,?_,fun u hu=>?_⟩,by rw [List.length_append]; show _<_+1; omega⟩
 ·rw [iH _ _ _ _ hn]
  split
  ·rfl
  ·exact h.st
 ·rw [iH _ _ _ _ hn] at hx
  split at hx
  ·rename_i e;rw [e]; exact ⟨hc,by rw [← hi]; exact (Option.some.inj hx).symm⟩
  ·exact h.vl u x hx
 ·rw [List.map_append,List.nodup_append];refine ⟨h.nd,by simp,fun x hx y hy e=>?_⟩;simp only [List.map_cons,List.map_nil,List.mem_singleton] at hy;rw [e,hy] at hx;exact nm hx
 ·rw [List.map_append] at hu;rcases List.mem_append.mp hu with z | z
  ·exact h.ks u z
  ·simp only [List.map_cons,List.map_nil,List.mem_singleton] at z;rw [z]; exact hs
structure DO (F:List Fm.Tie) (v:List Key→Int) (a:List Key) (kvs:List (List Key×V)):Prop where
 yes:∀ s,Fm.Con F a s→a8 kvs s=some (.int ((v a+v s)%2))
 no:∀ s,¬ Fm.Con F a s→a8 kvs s=none
theorem VOk.sums {F:List Fm.Tie} {v:List Key→Int} {a:List Key} {kvs:List (List Key×V)} (h:VOk F v a kvs) (cl:∀ e∈F,(a8 kvs e.1).isSome=(a8 kvs e.2.1).isSome):DO F v a kvs:=by
 have key:∀ s,Fm.Con F a s→(a8 kvs s).isSome=true:=fun s hs=>fh.mpr (Fm.lX (fh.mp h.st) (fun e he=>by rw [← fh,← fh,cl e he]) hs);refine ⟨fun s hs=>?_,fun s hs=>?_⟩
 ·have:=key s hs
  cases hv:a8 kvs s with
  | none => rw [hv] at this; cases this
  | some u => rw [(h.vl s u hv).2]
 ·cases hv:a8 kvs s with
  | none => rfl
  | some u => exact absurd (h.vl s u hv).1 hs
theorem xP {F:List Fm.Tie} {e:Fm.Tie} (h:e∈F) (a:List Key):e.1∈a::F.flatMap (fun e=>[e.1,e.2.1])∧e.2.1∈a::F.flatMap fun e=>[e.1,e.2.1] :=
 ⟨List.mem_cons_of_mem _ (List.mem_flatMap.mpr ⟨e,h,by simp⟩),List.mem_cons_of_mem _ (List.mem_flatMap.mpr ⟨e,h,by simp⟩)⟩
def sp_a2:Sp:=fun vs H Q _=>∃ (lf sp:Addr) (xs:List V) (F:List (Int×Fct)) (wd ht:Nat) (v:List Key→Int) (a:List Key),vs=[.ref lf,.ref sp]∧H lf=some (.lst xs)∧PwP H xs F∧F.length≤400∧(∀ nf∈F,nf.2.inW wd ht)∧(∀ nf∈F,Tr v nf.2)∧wd≤40∧ht≤40∧H sp=some (.tup (a.map kV)) ∧
 ∀ d kvs H',ao H H'→H d=none→H' d=some (.dT kvs)→DO (bR F) v a kvs→Q (.ref d) H'
theorem ok_a2 (T:Txt K mg t):aU P w K mg base CX0 2 t.f_a2 t.d_a2 ["_law_facts","_law_strip"] sp_a2:=by
  refine T.F_a2.ok sc_a2 (fun vs H Q E h=>?_) (fun cdv A outer s H vs Q E hr h=>?_)
  · obtain ⟨lf,sp,xs,F,wd,ht,v,a,rfl,_⟩:=h; rfl
  · obtain ⟨lf,sp,xs,F,wd,ht,v,a,rfl,hlf,pw,lF,hin,htr,lw,lh,hsp,k⟩:=h
    refine aH (aF 2 sc_a2.nd (rA (b0 hr) (pv 1) ae)) fun _ _=>aH (aF 3 sc_a2.nd fz) fun _ _=>aH (hJ PassesOwn.never (cF (pv 3)) (aK (aF 3 sc_a2.nd fz) (ak (dR PassesOwn.never rfl (cO (pv 0)) (gA (n:=2) K rfl rfl (bJ (aP (i:=4) sc_a2.nd rfl (Or.inl rfl)) (bJ (aP (i:=5) sc_a2.nd rfl (Or.inl rfl)) fB))) (aK (tM (aB (ok_bc T) (rmo hr) rfl T.mg_bc T.F_bc.kp T.b_bc .nil bo (aa (pv 5) ag)) (gA (n:=3) K rfl rfl (bJ (aP (i:=6) sc_a2.nd rfl (Or.inl rfl)) (bJ (aP (i:=7) sc_a2.nd rfl (Or.inl rfl)) (bJ (aP (i:=8) sc_a2.nd rfl (Or.inl rfl)) fB))))) (ak (aW (aT eM (yh (tL (b0 hr) (pv 6) (pv 2))) (yh (tL (b0 hr) (pv 7) (pv 2)))) (aK (aF 3 sc_a2.nd fz) (ak (aW (pT (tL (b0 hr) (pv 6) (pv 2))) (ak (gB (b0 hr) (pv 2) (pv 7) (av aR (av bf (dB (b0 hr) (pv 2) (pv 6) (fun _ _=>rfl)) (pv 8)) ae) rfl)) (ak (gB (b0 hr) (pv 2) (pv 6) (av aR (av bf (dB (b0 hr) (pv 2) (pv 7) (fun _ _=>rfl)) (pv 8)) ae) rfl))))) aI))))))) fun _ _=>cS (aJ (pv 2)) fun _ _=>?_;apply fun d nd=>?_;left;have sn:=ao.new (o:=HO.dT []) nd;refine ⟨sp,a,.int 0,rfl,sn _ _ hsp,ai,?_⟩;rw [ve];have s0:=ao.new (o:=HO.dT [(a,V.int 0)]) nd;have e0:=ai (H:=H) (a:=d) (o:=HO.dT [(a,V.int 0)]);generalize upd H d (HO.dT [(a,V.int 0)])=H0 at s0 e0 ⊢
    have v0:VOk (bR F) v a [(a,V.int 0)]:=by
      refine ⟨by rw [ck rfl]; rfl,fun s u hu=>?_,by simp,fun s hs=>?_⟩
      · by_cases e:a=s
        · rw [ck e] at hu
          rw [← e];refine ⟨.refl _,?_⟩;rw [show (v a+v a)%2=0 by omega]; exact (Option.some.inj hu).symm
        · rw [cj e] at hu; cases hu
      · simp only [List.map_cons,List.map_nil,List.mem_singleton] at hs
        rw [hs]; exact List.mem_cons_self
    have tl:(bR F).length=F.length:=List.length_map ..;apply ⟨fun m σ' H'=>∃ (more:Bool) (kvs:List (List Key×V)) (o4 o5 o6 o7 o8:Option V),m=(if more=true then 2*F.length+2 - kvs.length else 0)∧σ'=[some (.ref lf),some (.ref sp),some (.ref d),some (.bl more),o4,o5,o6,o7,o8]∧ao H H'∧H' d=some (.dT kvs)∧VOk (bR F) v a kvs ∧
        (more=false→∀ e∈bR F,(a8 kvs e.1).isSome=(a8 kvs e.2.1).isSome),⟨_,true,[(a,V.int 0)],none,none,none,none,none,rfl,rfl,s0,e0,v0,fun z=>nomatch z⟩,?_⟩
    rintro m σ' H1 ⟨more,kvs,o4,o5,o6,o7,o8,rfl,rfl,s1,e1,v1,cl⟩;have vl1:=v1.len;rw [tl] at vl1;left
    cases more with
    | false =>
      left;exact k d kvs H1 s1 nd e1 (v1.sums (cl rfl))
    | true =>
      refine mw ?_;refine ⟨fun σ' H'=>∃ (more:Bool) (kvs':List (List Key×V)) (o4 o5 o6 o7 o8:Option V),σ'=[some (.ref lf),some (.ref sp),some (.ref d),some (.bl more),o4,o5,o6,o7,o8]∧ao H H'∧H' d=some (.dT kvs')∧VOk (bR F) v a kvs' ∧
          (more=false→∀ e∈bR F,(a8 kvs' e.1).isSome=(a8 kvs' e.2.1).isSome)∧(more=true→kvs.length<kvs'.length),?_,?_⟩
      · rintro σ' H' ⟨more,kvs',o4,o5,o6,o7,o8,rfl,s2,e2,v2,c2,g2⟩
        have vl2:=v2.len;rw [tl] at vl2;refine ⟨_,?_,more,kvs',o4,o5,o6,o7,o8,rfl,rfl,s2,e2,v2,c2⟩
        cases more with
        | false=>rw [if_neg (by decide),if_pos rfl]; omega
        | true=>have:=g2 rfl; rw [if_pos rfl,if_pos rfl]; omega
      · apply ⟨⟨_,SqL.of (s1 _ _ hlf)⟩,?_⟩;refine dN (K:=K) (a:=lf) (xs:=xs) (fun i σ' H'=>∃ (more:Bool) (kvs':List (List Key×V)) (o4 o5 o6 o7 o8:Option V),σ'=[some (.ref lf),some (.ref sp),some (.ref d),some (.bl more),o4,o5,o6,o7,o8]∧ao H H'∧H' d=some (.dT kvs')∧VOk (bR F) v a kvs' ∧
            (more=false→kvs'=kvs∧∀ e∈(bR F).take i,(a8 kvs' e.1).isSome=(a8 kvs' e.2.1).isSome)∧(more=true→kvs.length<kvs'.length))
          ⟨false,kvs,o4,o5,o6,o7,o8,rfl,s1,e1,v1,fun _=>⟨rfl,fun e he=>by rw [List.take_zero] at he; cases he⟩,fun z=>nomatch z⟩ (fun i σ' H' _ ⟨_,_,_,_,_,_,_,_,z,_⟩=>SqL.of (z _ _ hlf)) ?_ ?_
        · rintro i x σ' H2 hx ⟨more,kvs',p4,p5,p6,p7,p8,rfl,s2,e2,v2,c2,g2⟩
          have hi:i<F.length:=by rw [← pw.1]; exact (List.getElem?_eq_some_iff.mp hx).1
          obtain ⟨b,fa,rfl,hb,hfa⟩:=pw.2 i x _ hx (List.getElem?_eq_getElem hi);have fin:=hin _ (List.getElem_mem hi);have ftr:=htr _ (List.getElem_mem hi);have eF:(F[i]).2.tie∈bR F:=List.mem_map.mpr ⟨_,List.getElem_mem hi,rfl⟩
          have tk:(bR F).take (i+1)=(bR F).take i++[(F[i]).2.tie]:=by
            rw [List.take_add_one];unfold bR;rw [List.getElem?_map,List.getElem?_eq_getElem hi]; rfl
          rw [tk];generalize F[i]=nf at hb hfa fin ftr eF;obtain ⟨num,f⟩:=nf;dsimp only at hb hfa fin ftr eF;have vl2:=v2.len;rw [tl] at vl2;refine fD (s2 _ _ hb) rfl ?_;apply ⟨fa,f,wd,ht,rfl,s2 _ _ hfa,fin,by omega,by omega,fun T1 H3 s3 ⟨a1,b1,t1,t2,t3⟩=>?_⟩;have s3':=s2.trans s3;have e3:=s3 _ _ e2;apply fD t1 rfl ?_;unfold Tr at ftr;have ends:=xP eF a;have con1:Fm.Con (bR F) f.tie.1 f.tie.2.1:=.one (w:=f.tie.2.2) eF;have nx:∀ (more':Bool) (kv:List (List Key×V)) (H':Hp),ao H H'→H' d=some (.dT kv)→VOk (bR F) v a kv→(more'=false→kv=kvs∧∀ e∈(bR F).take i++[f.tie],(a8 kv e.1).isSome=(a8 kv e.2.1).isSome)→(more'=true→kvs.length<kv.length) →
              ∃ (more:Bool) (kvs':List (List Key×V)) (o4 o5 o6 o7 o8:Option V),[some (V.ref lf),some (V.ref sp),some (V.ref d),some (V.bl more'),some (V.int num),some (V.ref fa),some (V.ref a1),some (V.ref b1),some (V.int f.tie.2.2)]=[some (.ref lf),some (.ref sp),some (.ref d),some (.bl more),o4,o5,o6,o7,o8]∧ao H H'∧H' d=some (.dT kvs')∧VOk (bR F) v a kvs' ∧
                (more=false→kvs'=kvs∧∀ e∈(bR F).take i++[f.tie],(a8 kvs' e.1).isSome=(a8 kvs' e.2.1).isSome)∧(more=true→kvs.length<kvs'.length) :=
            fun more' kv H' q1 q2 q3 q4 q5=>⟨more',kv,_,_,_,_,_,rfl,q1,q2,q3,q4,q5⟩
          generalize f.tie=e at ftr ends con1 nx t1 t2 t3 eF;obtain ⟨p1,p2,wt⟩:=e;dsimp only at ftr ends con1 nx t1 t2 t3;have le3:kvs'.length<sizeLine:=aZ (by omega)
          have ge:kvs.length≤kvs'.length:=by
            cases more with
            | false=>rw [(c2 rfl).1]; exact Nat.le_refl _
            | true=>exact Nat.le_of_lt (g2 rfl)
          apply ⟨d,_,rfl,dM.t e3 t2,?_⟩;apply ⟨d,_,rfl,dM.t e3 t3,?_⟩;left
          cases h1:a8 kvs' p1 with
          | some u1 =>
            obtain ⟨cn1,rfl⟩:=v2.vl _ _ h1
            cases h2:a8 kvs' p2 with
            | some u2 =>
              rw [Option.isSome_some,Option.isSome_some,aM rfl];apply nx more kvs' H3 s3' e3 v2 (fun z=>⟨(c2 z).1,fun e he=>?_⟩) g2;rcases List.mem_append.mp he with he | he
              · exact (c2 z).2 e he
              · rw [List.mem_singleton.mp he,h1,h2]; rfl
            | none =>
              rw [Option.isSome_some,Option.isSome_none,aO (by decide)];apply ⟨d,_,rfl,dM.t e3 t2,?_⟩;rw [h1,Option.isSome_some];apply cX e3 t2 h1 ?_;apply bB (by decide) ?_;apply ⟨d,_,rfl,jt.t (k:=p2) e3 t3 le3,?_⟩;obtain ⟨q1,q2⟩:=v2.put (i:=((v a+v p1)%2+wt)%2) (cn1.trans con1) (by omega) h2 ends.2;exact nx true _ _ (s3'.later nd) ai q1 (fun z=>nomatch z) fun _=>by omega
          | none =>
            cases h2:a8 kvs' p2 with
            | some u2 =>
              obtain ⟨cn2,rfl⟩:=v2.vl _ _ h2;rw [Option.isSome_some,Option.isSome_none,aO (by decide)];apply ⟨d,_,rfl,dM.t e3 t2,?_⟩;rw [h1,Option.isSome_none];apply cX e3 t3 h2 ?_;apply bB (by decide) ?_;apply ⟨d,_,rfl,jt.t (k:=p1) e3 t2 le3,?_⟩;obtain ⟨q1,q2⟩:=v2.put (i:=((v a+v p2)%2+wt)%2) (cn2.trans con1.symm) (by omega) h1 ends.1;exact nx true _ _ (s3'.later nd) ai q1 (fun z=>nomatch z) fun _=>by omega
            | none =>
              rw [Option.isSome_none,aM rfl];apply nx more kvs' H3 s3' e3 v2 (fun z=>⟨(c2 z).1,fun e he=>?_⟩) g2;rcases List.mem_append.mp he with he | he
              · exact (c2 z).2 e he
              · rw [List.mem_singleton.mp he,h1,h2]
        · rintro σ' H2 ⟨more,kvs',p4,p5,p6,p7,p8,rfl,s2,e2,v2,c2,g2⟩
          rw [List.take_of_length_le (by rw [pw.1,tl]; exact Nat.le_refl _)] at c2;left;exact ⟨more,kvs',p4,p5,p6,p7,p8,rfl,s2,e2,v2,fun z=>(c2 z).2,g2⟩
end
section
def Tx (x:Str):Prop:=x.length≤1000∧∀ c∈x.cps.toList,c<128
theorem Tx.size {x:Str} (h:Tx x):x.cps.size≤1000:=h.1
theorem Tx.line {x:Str} (h:Tx x):x.length≤sizeLine:=Nat.le_trans h.1 (by decide)
theorem Tx.ok {x:Str} (h:Tx x):PyData.strOk x=true:=by
 unfold PyData.strOk;rw [Array.all_eq_true];intro i hi;have:=h.2 x.cps[i] (by rw [← Array.getElem_toList]; exact List.getElem_mem _)
 exact aM (by omega)
theorem Tx.word {x y p:Str} (h:Tx x) (hp:p∈Txt.split x y):Tx p:=⟨Nat.le_trans (wm hp) h.1,fun c hc=>h.2 c (oU hp c hc)⟩
noncomputable def lj (w y:Str):Bool:=!w.cps.toList.isEmpty&&w.cps.toList.all fun c=>decide (c∈y.cps.toList)
noncomputable def EL (w:Str):Option (List Int):=if w="-" then some [] else if lj w "01"=true then some (w.cps.toList.map fun (c:Nat)=>(c:Int) - 48) else none
noncomputable def lw (w:Str):Option (List Int):=match EL w with
 | some bs=>if bs.length≤39 then some bs else none
 | none=>none
end
section
variable {P:Program} {w:World} {K:W.Frag} {mg:Str→Option Value} {base:Heap} {t:Ad}
def sp_aK:Sp:=fun vs H Q _=>∃ x y:Str,vs=[.str x,.str y]∧Tx x∧∀ H',ao H H'→Q (.bl (lj x y)) H'
theorem ok_aK (T:Txt K mg t):aU P w K mg base CX0 1 t.f_aK t.d_aK ["word","signs"] sp_aK:=by
 refine T.F_aK.ok sc_aK (by walk_at "l") (fun _ _ _ s H vs Q E hr h=>?_)
 ·obtain ⟨x,y,rfl,tx,k⟩:=h;refine ⟨_,(ak (aJ (kj (iV mJ (aC jy rfl T.no_len (by rfl) (aa (pv 0) ag)) ae) (km (aC (lC K rfl rfl) rfl T.no_all (by rfl) (aa (eQ (N:=["sign","signs"]) (cap:=[none,some 1]) rfl ⟨rfl,rfl,rfl,rfl,rfl,rfl⟩ (uP (pv 0)) (fun _ _ _=>(aP (i:=0) (show (["sign","signs"]:List Str).Nodup by decide +kernel) rfl (Or.inl rfl))) (fun _ _ _=>dZ) (fun _ _ _=>(lK oO (pv 0) (pv 1) rfl))) ag)))))),?_⟩;apply jN tx.line ?_;left
  have e0:lj x y=(decide ((0:Int)<(x.length:Nat))&&x.cps.toList.all fun c=>decide (c∈y.cps.toList)):=by
   unfold lj
   congr 1
   have hl:x.cps.toList.length=x.length:=Array.length_toList
   cases hq:x.cps.toList with
   | nil=>rw [hq] at hl; rw [aO (by rw [← hl]; decide)]; rfl
   | cons c r=>rw [hq] at hl; rw [aM (by rw [← hl]; simp only [List.length_cons]; omega)]; rfl
  rw [e0] at k;generalize decide ((0:Int)<(x.length:Nat))=u1 at k ⊢
  cases u1 with
  | false =>
   left;exact k _ (ao.refl _)
  | true =>
   apply ⟨x,rfl,fun l nl=>?_⟩;refine kQ ((x.cps.toList.map fun c=>decide (c∈y.cps.toList)).map V.bl) (by rw [List.length_map,List.length_map,Array.length_toList]) tx.size nl (fun i c v o H' Q' hc hy s5 q=>?_) (fun H1 s1 e1=>?_)
   ·rw [List.getElem?_map,List.getElem?_map,Array.getElem?_toList,hc] at hy
    cases hy;apply ⟨_,_,rfl,rfl,?_⟩;rw [uC];exact q H' (ao.refl _)
   ·apply mP e1 ?_;rw [List.all_map] ;exact k _ s1
theorem lJ {X:Cx} (K:W.Frag) (h:X.K=K):IxR X CY:=CC
theorem ko {H:Hp} {Q:VK} {i j:Str} (h:Q (.bl (!decide (i=j))) H):rNe (.str i) (.str j) H Q:=⟨rfl,by
 have e:decide (V.str i=V.str j)=decide (i=j):=by by_cases z:i=j<;>simp [z]
 rw [e]; exact h⟩
noncomputable def cW (x:Str):Bool:=(lj x "0123456789"&&decide (x.length≤6))&&(!decide (x.cps.toList.head?=some 48)||decide (x="0"))
noncomputable def bI (x:Str):Option Nat:=if cW x=true then some (PySem.NumText.digitsVal x.cps.toList) else none
theorem AF {c:Nat} (h:c∈("0123456789":Str).cps.toList):48≤c∧c≤57:=by
 have e:("0123456789":Str).cps.toList=[48,49,50,51,52,53,54,55,56,57]:=by decide +kernel
 rw [e] at h;symm at h;omega
theorem mj {x:Str} (h:lj x "0123456789"=true):PySem.NumText.AllDigits x.cps.toList∧x.cps.toList≠[]:=by
 unfold lj at h;rw [Bool.and_eq_true,List.all_eq_true] at h;refine ⟨fun c hc=>AF (of_decide_eq_true (h.2 c hc)),fun z=>?_⟩;rw [z] at h;simp at h
theorem pK {x:Str} (h:cW x=true):Fig x.cps.toList∧x.length≤6:=by
 unfold cW at h;rw [Bool.and_eq_true,Bool.and_eq_true] at h;obtain ⟨⟨h1,h2⟩,h3⟩:=h;have h2:=of_decide_eq_true h2;refine ⟨⟨(mj h1).1,(mj h1).2,fun z=>?_⟩,h2⟩;rw [aM z,Bool.not_true,Bool.false_or] at h3;rw [of_decide_eq_true h3];decide +kernel
theorem gx {x:Str} (h:cW x=true):PySem.intText? x=some ((PySem.NumText.digitsVal x.cps.toList:Nat):Int)∧((toString ((PySem.NumText.digitsVal x.cps.toList:Nat):Int):String):Str)=x :=
 AH (pK h).1 (by have:=(pK h).2; omega)
theorem El {c:Nat}:(sgn c="0")↔c=48:=by
 constructor
 ·intro h;have:=congrArg (fun x:Str=>x.cps.toList) h
  have e:("0":Str).cps.toList=[48]:=by decide +kernel
  rw [e] at this
  simpa [sgn] using this
 ·rintro rfl; decide +kernel
def nh (BT:Addr):Sp:=fun vs H Q E=>∃ x:Str,vs=[.str x]∧Tx x∧(cW x=false→∀ H',ao H H'→E (.ref BT) none H')∧(cW x=true→∀ H',ao H H'→Q (.int ((PySem.NumText.digitsVal x.cps.toList:Nat):Int)) H')
theorem okx_ae (T:Txt K mg t):aU P w K mg base (CX1 P w) 2 t.f_ae t.d_ae ["word"] (nh t.a_aa):=by
 refine T.F_ae.ok1 sc_ae (by walk_at "l") (fun _ _ _ s H vs Q E hr h=>?_)
 ·obtain ⟨x,rfl,tx,k1,k2⟩:=h;refine aH (aW (PW.pt (fC (dD (cF (aB (ok_aK T).up (rmo hr) rfl T.mg_aK T.F_aK.kp T.b_aK .nil dk (aa (pv 0) (aa aj ag))))) (eX (aT mJ (aC jy rfl T.no_len (by rfl) (aa (pv 0) ag)) (dC (v:=.int 6) rfl T.mg_MOST_FIGURES ⟨_,rfl⟩))))) (ak (bS T.mg_aa T.x_aa PySem.F.excBase_ValueError rfl rfl (fun _ _ _ _ _ _ _ _ I m q=>jr I m q) (aa aj ag))) aI) fun _ _=>aH (aW (PW.pt (cG (aT bU (au (lJ K rfl) (pv 0) ae) aj) (dE (aT eM (pv 0) aj)))) (ak (bS T.mg_aa T.x_aa PySem.F.excBase_ValueError rfl rfl (fun _ _ _ _ _ _ _ _ I m q=>jr I m q) (aa aj ag))) aI) fun _ _=>cS (aJ (dn pj rfl T.no_int (by rfl) (aa (pv 0) ag))) fun _ _=>?_;apply ⟨x,"0123456789",rfl,tx,fun H1 s1=>?_⟩
  cases d:lj x "0123456789" with
  | false =>
   left;exact ⟨by show 1≤sizeLine; decide,k1 (by unfold cW; rw [d]; rfl) _ s1⟩
  | true =>
   obtain ⟨ad,ne⟩:=mj d;apply jN tx.line ?_;left;by_cases c6:(6:Int)<(x.length:Nat)
   ·rw [aM c6];left;exact ⟨by show 1≤sizeLine; decide,k1 (by unfold cW; rw [d,aO (show ¬ x.length≤6 by omega)]; rfl) _ s1⟩
   ·rw [aO c6];left;obtain ⟨c,r,hcr⟩:∃ c r,x.cps.toList=c::r:=by
     cases q:x.cps.toList with
     | nil=>exact absurd q ne
     | cons c r=>exact ⟨c,r,rfl⟩
    refine ⟨x,0,c,rfl,rfl,tx.line,(show atI x.cps.toList ((0:Nat):Int)=some c from cZ (by rw [hcr]; rfl)),?_⟩;left;have e1:(decide ((⟨#[c]⟩:Str)="0"))=decide (c=48):=decide_eq_decide.mpr El;rw [e1];have hd:x.cps.toList.head?=some c:=by rw [hcr]; rfl
    have no:cW x=(!decide (c=48)||decide (x="0")):=by
     unfold cW;rw [d,aM (show x.length≤6 by omega),hd];rw [show decide (some c=some 48)=decide (c=48) from decide_eq_decide.mpr ⟨fun z=>Option.some.inj z,fun z=>by rw [z]⟩];rfl
    by_cases c48:c=48
    ·rw [aM c48];rw [aM c48,Bool.not_true,Bool.false_or] at no;apply ko ?_;left;by_cases c0:x="0"
     ·rw [aM c0] at no;rw [aM c0];left;exact ⟨x,_,rfl,(gx no).1,by omega,k2 no _ s1⟩
     ·rw [aO c0] at no;rw [aO c0];left;exact ⟨by show 1≤sizeLine; decide,k1 no _ s1⟩
    ·rw [aO c48];rw [aO c48,Bool.not_false,Bool.true_or] at no;left;exact ⟨x,_,rfl,(gx no).1,by omega,k2 no _ s1⟩
def kO (BT:Addr):Sp:=fun vs H Q E=>∃ a b:Int,vs=[.int a,.int b]∧(a<b→E (.ref BT) none H)∧(b≤a→Q .non H)
theorem okx_al (T:Txt K mg t):aU P w K mg base (CX1 P w) 1 t.f_al t.d_al ["number","least"] (kO t.a_aa):=by
 refine T.F_al.ok1 sc_al (by walk_at "l") (fun _ _ _ s H vs Q E hr h=>?_)
 ·obtain ⟨a,b,rfl,k1,k2⟩:=h;refine ⟨_,(ak (aW (aT gZ (pv 0) (pv 1)) (ak (bS T.mg_aa T.x_aa PySem.F.excBase_ValueError rfl rfl (fun _ _ _ _ _ _ _ _ I m q=>jr I m q) (aa aj ag))) aI)),?_⟩;left;by_cases c:a<b
  ·rw [aM c];left;exact ⟨by show 1≤sizeLine; decide,k1 c⟩
  ·rw [aO c];left;exact k2 (by omega)
noncomputable def fK (ws:List Str):Option Fct:=match ws with
 | [a,b,c,d]=>(match bI b,bI c with
  | some i, some j => if a = "cell" then (bI d).map fun k => .cell (i : Nat) (j : Nat) (k : Nat) else if (a = "col" ∨ a = "row") ∧ (d = "sewn" ∨ d = "bare") then some (.line (decide (a = "col")) (i : Nat) (j : Nat) (decide (d = "sewn"))) else none
  | _, _ => none)
 | _=>none
theorem gY {x:Str} (h:cW x=true):bI x=some (PySem.NumText.digitsVal x.cps.toList):=by unfold bI; rw [if_pos h]
theorem gX {x:Str} (h:cW x=false):bI x=none:=by unfold bI; rw [h,if_neg (by decide)]
theorem pF {ws:List Str} (h:ws.length≠4):fK ws=none:=by
 unfold fK
 split
 ·exact absurd rfl h
 ·rfl
theorem vy {α:Type} {l:List α} (h:l.length=4):∃ a b c d,l=[a,b,c,d]:=by
 match l,h with
 | [a,b,c,d],_=>exact ⟨a,b,c,d,rfl⟩
theorem j3 {a b c d:Str} {i j:Nat} (hb:bI b=some i) (hc:bI c=some j):fK [a,b,c,d]=if a="cell" then (bI d).map fun k=>.cell (i:Nat) (j:Nat) (k:Nat) else if (a="col"∨a="row")∧(d="sewn"∨d="bare") then some (.line (decide (a="col")) (i:Nat) (j:Nat) (decide (d="sewn"))) else none:=by
 unfold fK;dsimp only;rw [hb,hc]
theorem sS {a b c d:Str} (hb:bI b=none):fK [a,b,c,d]=none:=by
 unfold fK;dsimp only;rw [hb]
theorem sU {a b c d:Str} (hc:bI c=none):fK [a,b,c,d]=none:=by
 unfold fK;dsimp only;rw [hc]
 cases bI b<;>rfl
theorem EC {a:Str} (h:a="col"∨a="row"):wyS (decide (a="col"))=a:=by
 rcases h with rfl | rfl
 ·rw [aM rfl]; rfl
 ·rw [aO zu]; rfl
def qv (BT:Addr):Sp:=fun vs H Q E=>∃ (l:Addr) (ws:List Str),vs=[.ref l]∧H l=some (.lst (ws.map V.str))∧(∀ x∈ws,Tx x)∧(fK ws=none→∀ H',ao H H'→E (.ref BT) none H')∧∀ f,fK ws=some f→∀ a H',ao H H'→H' a=some (.tup f.vs)→Q (.ref a) H'
theorem okx_aI (T:Txt K mg t):aU P w K mg base (CX1 P w) 3 t.f_aI t.d_aI ["words"] (qv t.a_aa):=by
  refine T.F_aI.ok1 sc_aI (fun vs H Q E h=>?_) (fun cdv A outer s H vs Q E hr h=>?_)
  · obtain ⟨l,ws,rfl,_⟩:=h; rfl
  · obtain ⟨l,ws,rfl,el,tw,k1,k2⟩:=h
    refine aH (aW (aT eM (aC (cn K rfl) rfl T.no_len (by rfl) (aa (pv 0) ag)) ae) (ak (bS T.mg_aa T.x_aa PySem.F.excBase_ValueError rfl rfl (fun _ _ _ _ _ _ _ _ I m q=>jr I m q) (aa aj ag))) aI) fun _ _=>aH (aF 1 sc_aI.nd (aB (okx_ae T) (rmo hr) rfl T.mg_ae T.F_ae.kp T.b_ae .nil dk (aa (au (az K rfl) (pv 0) ae) ag))) fun _ _=>aH (aF 2 sc_aI.nd (aB (okx_ae T) (rmo hr) rfl T.mg_ae T.F_ae.kp T.b_ae .nil dk (aa (au (az K rfl) (pv 0) ae) ag))) fun _ _=>aH (aW (aT bU (au (az K rfl) (pv 0) ae) aj) (ak (aJ (aQ (aa aj (aa (pv 1) (aa (pv 2) (aa (aB (okx_ae T) (rmo hr) rfl T.mg_ae T.F_ae.kp T.b_ae .nil dk (aa (au (az K rfl) (pv 0) ae) ag)) ag))))))) aI) fun _ _=>aH (aW (PW.pt (fC (dY (uL hr.units) (au (az K rfl) (pv 0) ae) (aQ (aa aj (aa aj ag))) rfl) (eX (dY (uL hr.units) (au (az K rfl) (pv 0) ae) (aQ (aa aj (aa aj ag))) rfl)))) (ak (bS T.mg_aa T.x_aa PySem.F.excBase_ValueError rfl rfl (fun _ _ _ _ _ _ _ _ I m q=>jr I m q) (aa aj ag))) aI) fun _ _=>cS (aJ (aQ (aa (au (az K rfl) (pv 0) ae) (aa (pv 1) (aa (pv 2) (aa (iV bU (au (az K rfl) (pv 0) ae) aj) ag)))))) fun _ _=>?_;apply b9 el ?_;rw [List.length_map];left;by_cases c4:ws.length=4
    · rw [aM (show ((ws.length:Nat):Int)=4 by omega)]
      obtain ⟨a,b,c,d,rfl⟩:=vy c4;have ta:=tw a (by simp);have tb:=tw b (by simp);have tc:=tw c (by simp);have td:=tw d (by simp);apply aL (SqL.of el) (v:=.str b) rfl ?_;apply ⟨b,rfl,tb,fun hb H1 s1=>k1 (sS (gX hb)) _ s1,fun hb H1 s1=>?_⟩;have nb:=gY hb;generalize PySem.NumText.digitsVal b.cps.toList=i at nb ⊢;left;have el1:=s1 _ _ el;refine aL (SqL.of el1) (v:=.str c) rfl ?_;apply ⟨c,rfl,tc,fun hc H2 s2=>k1 (sU (gX hc)) _ (s1.trans s2),fun hc H2 s2=>?_⟩;have nc:=gY hc;generalize PySem.NumText.digitsVal c.cps.toList=j at nc ⊢;have s12:=s1.trans s2;have el2:=s2 _ _ el1;have f4:=j3 (a:=a) (d:=d) nb nc;apply aL (SqL.of el2) (v:=.str a) rfl ?_;left;by_cases ca:a="cell"
      · rw [aM ca]
        rw [if_pos ca] at f4;apply aL (SqL.of el2) (v:=.str d) rfl ?_;apply ⟨d,rfl,td,fun hd H3 s3=>k1 (by rw [f4,gX hd]; rfl) _ (s12.trans s3),fun hd H3 s3=>?_⟩;rw [gY hd] at f4;generalize PySem.NumText.digitsVal d.cps.toList=k at f4 ⊢;apply nwT fun tp H4 stp ntp etp=>?_;exact k2 _ f4 tp H4 ((s12.trans s3).trans stp) etp
      · rw [aO ca]
        rw [if_neg ca] at f4;apply aL (SqL.of el2) (v:=.str a) rfl ?_;apply nwT fun tp H3 stp ntp etp=>?_;apply rK etp (by decide +kernel) (by decide +kernel) ta.ok ?_;by_cases cw:a="col"∨a="row"
        · rw [show (!(decide ("col"=a)||decide ("row"=a)))=false by rcases cw with rfl | rfl<;>decide +kernel]
          left;have el3:=stp _ _ el2;refine aL (SqL.of el3) (v:=.str d) rfl ?_;apply nwT fun tq H4 stq ntq etq=>?_;apply rK etq (by decide +kernel) (by decide +kernel) td.ok ?_;have s14:=s12.trans (stp.trans stq);by_cases cd:d="sewn"∨d="bare"
          · rw [show (!(decide ("sewn"=d)||decide ("bare"=d)))=false by rcases cd with rfl | rfl<;>decide +kernel]
            rw [if_pos ⟨cw,cd⟩] at f4;left;have el4:=stq _ _ el3;refine aL (SqL.of el4) (v:=.str a) rfl ?_;apply aL (SqL.of el4) (v:=.str d) rfl ?_;apply nwT fun tr H5 str ntr etr=>?_;refine k2 _ f4 tr H5 (s14.trans str) ?_;rw [etr]
            show _=some (HO.tup [V.str (wyS (decide (a="col"))),_,_,_])
            rw [EC cw]
          · rw [show (!(decide ("sewn"=d)||decide ("bare"=d)))=true by
              rw [aO (fun z=>cd (.inl z.symm)),aO (fun z=>cd (.inr z.symm))]; rfl]
            rw [if_neg fun z=>cd z.2] at f4;left;exact ⟨by show 1≤sizeLine; decide,k1 f4 _ s14⟩
        · rw [show (!(decide ("col"=a)||decide ("row"=a)))=true by
            rw [aO (fun z=>cw (.inl z.symm)),aO (fun z=>cw (.inr z.symm))]; rfl]
          rw [if_neg fun z=>cw z.1] at f4;left;exact ⟨by show 1≤sizeLine; decide,k1 f4 _ (s12.trans stp)⟩
    · rw [aO (show ¬ ((ws.length:Nat):Int)=4 by omega)]
      left;exact ⟨by show 1≤sizeLine; decide,k1 (pF c4) _ (ao.refl _)⟩
def sp_ac (C:Addr):Sp:=fun vs H Q _=>∃ (p df dg:Addr) (wd ht:Nat) (F:List (Int×Fct)) (n:Int) (G:List Key→List Key×Int),vs=[.ref p]∧cv C H p df dg wd ht F n G∧Q (.int n) H
theorem ok_ac (T:Txt K mg t):aU P w K mg base CX0 1 t.f_ac t.d_ac ["self"] (sp_ac t.a_ab):=by
 refine T.F_ac.ok sc_ac (by walk_at "l") (fun _ _ _ s H vs Q E hr h=>?_)
 ·obtain ⟨p,df,dg,wd,ht,F,n,G,rfl,fd,k⟩:=h;obtain ⟨dx,fs,hp,fl⟩:=fd.ob;refine ⟨_,(ak (aJ (cN K rfl (pv 0) rfl))),?_⟩;apply cP hp T.cl_ab T.naF_next_number fl.n ?_;exact k
def sp_af (C:Addr):Sp:=fun vs H Q _=>∃ (p df dg:Addr) (wd ht:Nat) (F:List (Int×Fct)) (n m:Int) (G:List Key→List Key×Int),vs=[.ref p,.int m]∧cv C H p df dg wd ht F n G∧∀ H',aV [p] H H'→cv C H' p df dg wd ht F m G→Q .non H'
theorem ok_af (T:Txt K mg t):aU P w K mg base CX0 1 t.f_af t.d_af ["self","number"] (sp_af t.a_ab):=by
 refine T.F_af.ok sc_af (by walk_at "l") (fun _ _ _ s H vs Q E hr h=>?_)
 ·obtain ⟨p,df,dg,wd,ht,F,n,m,G,rfl,fd,k⟩:=h;obtain ⟨dx,fs,hp,fl⟩:=fd.ob;obtain ⟨kf,hdf,pf⟩:=fd.fa;obtain ⟨⟨kg,hkg,_⟩,_⟩:=id fd.gr;have pdg:p≠dg:=fw hp hkg (fun z=>nomatch z);have fp:df≠p:=fw hdf hp (fun z=>nomatch z);refine ⟨_,(ak (hG (pv 0) (pv 1) rfl)),?_⟩;apply ef hp T.cl_ab T.naF_next_number (by have:=fl.len; omega) ?_;left;have mm:aV [p] H (upd H p (.ins t.a_ab dx (bL (Str.ofString "next_number") (.int m) fs))):=(aV.refl _ _).upd (by simp);have nt:NoT H [p]:=fun x hx=>fd.not x (by rw [List.mem_singleton.mp hx]; simp);exact k _ mm ⟨⟨dx,_,ai,fl.next⟩,⟨kf,by rw [aw fp]; exact hdf,pf.but mm nt⟩,fd.gr.but mm nt (by rw [List.mem_singleton]; exact pdg.symm)⟩
noncomputable def hdW (x:Str):Option (Nat×Nat×Nat):=match Txt.split x " " with
 | [a,b,c,d]=>if a="finds" then (match bI b,bI c,bI d with
  | some i, some j, some k => if (1 ≤ i ∧ i ≤ 40) ∧ 1 ≤ j ∧ j ≤ 40 then some (i, j, k) else none
  | _, _, _ => none) else none
 | _=>none
theorem xr {x a b c d:Str} (h:Txt.split x " "=[a,b,c,d]) (ha:a="finds") {i j k:Nat} (hb:bI b=some i) (hc:bI c=some j) (hd:bI d=some k):hdW x=if (1≤i∧i≤40)∧1≤j∧j≤40 then some (i,j,k) else none:=by
 unfold hdW;rw [h];dsimp only;rw [if_pos ha,hb,hc,hd]
theorem fL {x a b c d:Str} (h:Txt.split x " "=[a,b,c,d]) (hn:a≠"finds"∨bI b=none∨bI c=none∨bI d=none):hdW x=none:=by
 unfold hdW;rw [h];dsimp only;by_cases ha:a="finds"
 ·rw [if_pos ha];rcases hn with z | z | z | z
  ·exact absurd ha z
  ·rw [z]
  ·rw [z]; cases bI b<;>rfl
  ·rw [z]; cases bI b<;>cases bI c<;>rfl
 ·rw [if_neg ha]
theorem xu {x:Str} (h:(Txt.split x " ").length≠4):hdW x=none:=by
 unfold hdW
 split
 ·next e=>rw [e] at h; exact absurd rfl h
 ·rfl
def qw (C BT:Addr):Sp:=fun vs H Q E=>∃ x:Str,vs=[.str x]∧Tx x∧(hdW x=none→∀ H',ao H H'→E (.ref BT) none H') ∧
 ∀ i j k,hdW x=some (i,j,k)→∀ tp p df dg H',ao H H'→H p=none→H df=none→H dg=none→H' tp=some (.tup [.ref p,.int (k:Nat)])→cv C H' p df dg i j [] 0 Fm.lone→Q (.ref tp) H'
theorem okx_aC (T:Txt K mg t):aU P w K mg base (CX1 P w) 6 t.f_aC t.d_aC ["row"] (qw t.a_ab t.a_aa):=by
  have GX2_FindsInit:=okx_ar (P:=P) (w:=w) (base:=base) T;refine T.F_aC.ok1 sc_aC (fun vs H Q E h=>?_) (fun cdv A outer s H vs Q E hr h=>?_)
  · obtain ⟨x,rfl,_⟩:=h; rfl
  · obtain ⟨x,rfl,tx,k1,k2⟩:=h
    refine aH (aF 1 sc_aC.nd (cy PySem.F.plainAttrs_str PySem.F.slot_str_split PySem.F.type_str_split d8 (pv 0) (aa aj ag))) fun _ _=>aH (aW (PW.pt (fC (aT eM (aC (cn K rfl) rfl T.no_len (by rfl) (aa (pv 1) ag)) ae) (eX (aT eM (au (az K rfl) (pv 1) ae) aj)))) (ak (bS T.mg_aa T.x_aa PySem.F.excBase_ValueError rfl rfl (fun _ _ _ _ _ _ _ _ I m q=>jr I m q) (aa aj ag))) aI) fun _ _=>aH (aF 2 sc_aC.nd (aB (okx_ae T) (rmo hr) rfl T.mg_ae T.F_ae.kp T.b_ae .nil dk (aa (au (az K rfl) (pv 1) ae) ag))) fun _ _=>aH (aF 3 sc_aC.nd (aB (okx_ae T) (rmo hr) rfl T.mg_ae T.F_ae.kp T.b_ae .nil dk (aa (au (az K rfl) (pv 1) ae) ag))) fun _ _=>aH (aF 4 sc_aC.nd (aB (okx_ae T) (rmo hr) rfl T.mg_ae T.F_ae.kp T.b_ae .nil dk (aa (au (az K rfl) (pv 1) ae) ag))) fun _ _=>cS (rE (i:=5) sc_aC.nd rfl rfl rfl T.mg_aJ (fun _ _=>(ak (aJ (aQ (aa (ym T.mk_ab GX2_FindsInit (rmo hr) rfl T.mg_ab T.b_ar .nil yb (aa (pv 2) (aa (pv 3) ag))) (aa (pv 4) ag)))))) rfl T.mg_aa T.x_aa PySem.F.excBase_ValueError PySem.F.excBase_ValueError (fun _=>(aa aj ag)) (fun _ _ _ h=>h _) (fun _ _ _ _ _ _ _ _ _ _ I a b c d e f g h i j k l m=>vg I a b c d e f g h i j k l m)) fun _ _=>?_;apply ⟨rfl,?_⟩;apply ⟨x," ",rfl,rfl,by decide +kernel,by have:=tx.1; omega,fun l1 n1=>?_⟩;have s1:=ao.new (o:=HO.lst ((Txt.split x " ").map V.str)) n1;have e1:=ai (H:=H) (a:=l1) (o:=HO.lst ((Txt.split x " ").map V.str));generalize upd H l1 (HO.lst ((Txt.split x " ").map V.str))=H1 at s1 e1 ⊢;apply b9 e1 ?_;rw [List.length_map];left;by_cases c4:(Txt.split x " ").length=4
    · rw [aM (show (((Txt.split x " ").length:Nat):Int)=4 by omega)]
      obtain ⟨a,b,c,d,hq⟩:=vy c4;have ta:Tx a:=tx.word (y:=" ") (by rw [hq]; simp);have tb:Tx b:=tx.word (y:=" ") (by rw [hq]; simp);have tc:Tx c:=tx.word (y:=" ") (by rw [hq]; simp);have td:Tx d:=tx.word (y:=" ") (by rw [hq]; simp);rw [hq] at e1;apply aL (SqL.of e1) (v:=.str a) rfl ?_;apply ko ?_;left;by_cases ca:a="finds"
      · rw [aM ca]
        apply aL (SqL.of e1) (v:=.str b) rfl ?_;apply ⟨b,rfl,tb,fun hb H2 s2=>k1 (fL hq (.inr (.inl (gX hb)))) _ (s1.trans s2),fun hb H2 s2=>?_⟩;have nb:=gY hb;generalize PySem.NumText.digitsVal b.cps.toList=i at nb ⊢;have s12:=s1.trans s2;apply aL (SqL.of (s2 _ _ e1)) (v:=.str c) rfl ?_;apply ⟨c,rfl,tc,fun hc H3 s3=>k1 (fL hq (.inr (.inr (.inl (gX hc))))) _ (s12.trans s3),fun hc H3 s3=>?_⟩;have nc:=gY hc;generalize PySem.NumText.digitsVal c.cps.toList=j at nc ⊢;have s13:=s12.trans s3;apply aL (SqL.of (s3 _ _ (s2 _ _ e1))) (v:=.str d) rfl ?_;apply ⟨d,rfl,td,fun hd H4 s4=>k1 (fL hq (.inr (.inr (.inr (gX hd))))) _ (s13.trans s4),fun hd H4 s4=>?_⟩;have nd:=gY hd;generalize PySem.NumText.digitsVal d.cps.toList=k at nd ⊢;have s14:=s13.trans s4;have h4:=xr hq ca nb nc nd;apply rL ?_;left;intro p dx np ndx nex;have sM:ao H4 (upd (upd H4 dx (.own p)) p (.ins t.a_ab dx [])):=(ao.new ndx).later np;have iS:∀ z:Nat,cu (z:Int)=decide (1≤z∧z≤40):=fun z=>by
          unfold cu;rw [Bool.eq_iff_iff,Bool.and_eq_true,decide_eq_true_eq,decide_eq_true_eq,decide_eq_true_eq];omega
        refine ⟨p,dx,(i:Nat),(j:Nat),rfl,ai,fun hz=>?_,fun hz df dg H5 m5 ndf ndg fd=>?_⟩
        · have:¬ ((1≤i∧i≤40)∧1≤j∧j≤40):=fun z=>by
            rw [iS,iS,aM z.1,aM z.2] at hz; cases hz
          rw [if_neg this] at h4;exact ⟨t.a_aM,rfl,T.cat_aM,.inl T.x_aM,k1 h4 _ (s14.trans sM)⟩
        · rw [iS,iS,Bool.and_eq_true,decide_eq_true_eq,decide_eq_true_eq] at hz
          rw [if_pos hz] at h4;refine ⟨rfl,?_⟩;left;have s45:ao H4 H5:=fun b o e=>m5 b o (sM b o e) (by rw [List.mem_singleton]; exact aE e np);refine nwT fun tp H6 stp ntp etp=>?_;exact k2 i j k h4 tp p df dg H6 ((s14.trans s45).trans stp) (s14.free np) (s14.free (sM.free ndf)) (s14.free (sM.free ndg)) etp (fd.mono stp)
      · rw [aO ca]
        left;exact ⟨by show 1≤sizeLine; decide,k1 (fL hq (.inl ca)) _ s1⟩
    · rw [aO (show ¬ (((Txt.split x " ").length:Nat):Int)=4 by omega)]
      left;exact ⟨by show 1≤sizeLine; decide,k1 (xu c4) _ s1⟩
noncomputable def aX (x:Str):Int:=match bI x with
 | some k=>(k:Nat)
 | none=>-1
theorem xS {x:Str} (h:cW x=true):aX x=((PySem.NumText.digitsVal x.cps.toList:Nat):Int):=by unfold aX; rw [gY h]
theorem pJ {x:Str} (h:cW x=false):aX x=-1:=by unfold aX; rw [gX h]
def sp_az:Sp:=fun vs H Q _=>∃ x:Str,vs=[.str x]∧Tx x∧∀ H',ao H H'→Q (.int (aX x)) H'
theorem ok_az (T:Txt K mg t):aU P w K mg base CX0 1 t.f_az t.d_az ["_law_word"] sp_az:=by
 refine T.F_az.ok sc_az (by walk_at "l") (fun _ _ _ s H vs Q E hr h=>?_)
 ·obtain ⟨x,rfl,tx,k⟩:=h;refine aH (aW (PW.pt (fC (aT bU (pv 0) aj) (fC (aT mJ (aC jy rfl T.no_len (by rfl) (aa (pv 0) ag)) ae) (eX (dD (cF (aC (lC K rfl rfl) rfl T.no_all (by rfl) (aa (eQ (N:=["_law_sign"]) (cap:=[none]) rfl ⟨rfl,rfl,rfl,rfl,rfl,rfl⟩ (uP (pv 0)) (fun _ _ _=>(aP (i:=0) (show (["_law_sign"]:List Str).Nodup by decide +kernel) rfl (Or.inl rfl))) (fun _ _ _=>dZ) (fun _ _ _=>(lK oO (pv 0) aj rfl))) ag)))))))) (ak (aJ (uO qz ae))) aI) fun _ _=>aH (aW (PW.pt (cG (aT bU (au (lJ K rfl) (pv 0) ae) aj) (dE (aT eM (pv 0) aj)))) (ak (aJ (uO qz ae))) aI) fun _ _=>cS (aJ (dn pj rfl T.no_int (by rfl) (aa (pv 0) ag))) fun _ _=>?_;left;by_cases c2:x=""
  ·rw [aM c2];left;have:=k _ (ao.refl _)
   rw [pJ (by rw [c2]; decide +kernel)] at this;exact this
  ·rw [aO c2];have ne:x.cps.toList≠[]:=fun z=>c2 (BF (by rw [z]; rfl))
   have hS:lj x "0123456789"=x.cps.toList.all fun c=>decide (c∈("0123456789":Str).cps.toList):=by
    unfold lj
    cases q:x.cps.toList with
    | nil=>exact absurd q ne
    | cons c r=>rfl
   apply jN tx.line ?_;left;by_cases c6:(6:Int)<(x.length:Nat)
   ·rw [aM c6];left;have:=k _ (ao.refl _)
    rw [pJ (by unfold cW; rw [aO (show ¬ x.length≤6 by omega),Bool.and_false]; rfl)] at this;exact this
   ·rw [aO c6];apply ⟨x,rfl,fun l nl=>?_⟩;refine kQ ((x.cps.toList.map fun c=>decide (c∈("0123456789":Str).cps.toList)).map V.bl) (by rw [List.length_map,List.length_map,Array.length_toList]) tx.size nl (fun i c v o H' Q' hc hy s5 q=>?_) (fun H1 s1 e1=>?_)
    ·rw [List.getElem?_map,List.getElem?_map,Array.getElem?_toList,hc] at hy
     cases hy;apply ⟨_,_,rfl,rfl,?_⟩;rw [uC];exact q H' (ao.refl _)
    ·apply mP e1 ?_;rw [List.all_map];rw [show (x.cps.toList.all (id∘fun c=>decide (c∈("0123456789":Str).cps.toList)))=lj x "0123456789" from hS.symm]
     cases d:lj x "0123456789" with
     | false =>
      left;have:=k _ s1
      rw [pJ (by unfold cW; rw [d]; rfl)] at this;exact this
     | true =>
      left;obtain ⟨c,r,hcr⟩:∃ c r,x.cps.toList=c::r:=by
       cases q:x.cps.toList with
       | nil=>exact absurd q ne
       | cons c r=>exact ⟨c,r,rfl⟩
      refine ⟨x,0,c,rfl,rfl,tx.line,(show atI x.cps.toList ((0:Nat):Int)=some c from cZ (by rw [hcr]; rfl)),?_⟩;left;have e1:(decide ((⟨#[c]⟩:Str)="0"))=decide (c=48):=decide_eq_decide.mpr El;rw [e1];have hd:x.cps.toList.head?=some c:=by rw [hcr]; rfl
      have no:cW x=(!decide (c=48)||decide (x="0")):=by
       unfold cW;rw [d,aM (show x.length≤6 by omega),hd];rw [show decide (some c=some 48)=decide (c=48) from decide_eq_decide.mpr ⟨fun z=>Option.some.inj z,fun z=>by rw [z]⟩];rfl
      have k:=k _ s1;by_cases c48:c=48
      ·rw [aM c48];rw [aM c48,Bool.not_true,Bool.false_or] at no;apply ko ?_;left;by_cases c0:x="0"
       ·rw [aM c0] at no;rw [aM c0];left;rw [xS no] at k;exact ⟨x,_,rfl,(gx no).1,by omega,k⟩
       ·rw [aO c0] at no;rw [aO c0];left;rw [pJ no] at k;exact k
      ·rw [aO c48];rw [aO c48,Bool.not_false,Bool.true_or] at no;left;rw [xS no] at k;exact ⟨x,_,rfl,(gx no).1,by omega,k⟩
theorem xB {a:Str} (h:a="0"∨a="1"):PySem.intText? a=some (if a="0" then 0 else 1)∧a.length≤640:=by
 rcases h with rfl | rfl
 ·decide +kernel
 ·decide +kernel
theorem BV {x:Str} {k:Nat} (h:bI x=some k):(k=0↔x="0")∧(k=1↔x="1"):=by
 unfold bI at h;by_cases c:cW x=true
 ·rw [if_pos c] at h
  cases h;have e:=(gx c).2;refine ⟨⟨fun z=>?_,fun z=>?_⟩,⟨fun z=>?_,fun z=>?_⟩⟩
  ·rw [z] at e; rw [← e]; decide +kernel
  ·rw [z]; decide +kernel
  ·rw [z] at e; rw [← e]; decide +kernel
  ·rw [z]; decide +kernel
 ·rw [if_neg c] at h; cases h
theorem CH:bI "0"=some 0:=by decide +kernel
theorem CI:bI "1"=some 1:=by decide +kernel
theorem eP {x:Str} (h:0≤aX x):∃ i:Nat,bI x=some i∧aX x=(i:Int):=by
 unfold aX at h ⊢
 cases q:bI x with
 | none=>rw [q] at h; exact absurd h (by decide)
 | some i=>exact ⟨i,rfl,rfl⟩
theorem iD {x:Str} {i:Nat} (h:bI x=some i):aX x=(i:Int):=by unfold aX; rw [h]
theorem w8 {a b c d:Str} {wd ht:Int} (h1:¬ (a="cell"∧(0≤aX b∧aX b<wd)∧(0≤aX c∧aX c<ht)∧(d="0"∨d="1")))
  (h2:¬ (a="col"∧(0≤aX b∧aX b<wd - 1)∧(0≤aX c∧aX c<ht)∧(d="sewn"∨d="bare"))) (h3:¬ (a="row"∧(0≤aX b∧aX b<ht - 1)∧(0≤aX c∧aX c<wd)∧(d="sewn"∨d="bare"))) :
  ∀ f,fK [a,b,c,d]=some f→¬ f.inW wd ht:=fun f hf hin=>by
 cases nb:bI b with
 | none=>rw [sS nb] at hf; cases hf
 | some i =>
  cases nc:bI c with
  | none => rw [sU nc] at hf; cases hf
  | some j =>
   rw [j3 nb nc] at hf;rw [iD nb,iD nc] at h1 h2 h3;by_cases ca:a="cell"
   ·rw [if_pos ca] at hf
    cases nd:bI d with
    | none=>rw [nd] at hf; cases hf
    | some k =>
     rw [nd] at hf
     cases hf;obtain ⟨q1,q2,q3⟩:=hin;refine h1 ⟨ca,q1,q2,?_⟩;rcases q3 with z | z
     ·exact .inl ((BV nd).1.mp (by omega))
     ·exact .inr ((BV nd).2.mp (by omega))
   ·rw [if_neg ca] at hf;by_cases cw:(a="col"∨a="row")∧(d="sewn"∨d="bare")
    ·rw [if_pos cw] at hf
     cases hf;rcases cw.1 with ce | ce
     ·rw [aM ce] at hin;exact h2 ⟨ce,hin.1,hin.2,cw.2⟩
     ·rw [aO (fun z=>zu (ce.symm.trans z))] at hin;exact h3 ⟨ce,hin.1,hin.2,cw.2⟩
    ·rw [if_neg cw] at hf; cases hf
def sp_aP:Sp:=fun vs H Q _=>∃ (l:Addr) (ws:List Str) (wd ht:Int),vs=[.ref l,.int wd,.int ht]∧H l=some (.lst (ws.map V.str))∧(∀ x∈ws,Tx x)∧((∀ f,fK ws=some f→¬ f.inW wd ht)→∀ H',ao H H'→Q .non H') ∧
 ∀ f,fK ws=some f→f.inW wd ht→∀ a H',ao H H'→H' a=some (.tup f.vs)→Q (.ref a) H'
theorem ok_aP (T:Txt K mg t):aU P w K mg base CX0 2 t.f_aP t.d_aP ["_law_words","_law_wide","_law_tall"] sp_aP:=by
 refine T.F_aP.ok sc_aP (by walk_at "l") (fun _ _ _ s H vs Q E hr h=>?_)
 ·obtain ⟨l,ws,wd,ht,rfl,el,tw,k1,k2⟩:=h;refine aH (aW (aT eM (aC (cn K rfl) rfl T.no_len (by rfl) (aa (pv 0) ag)) ae) (ak (aJ ja)) aI) fun _ _=>aH (aF 3 sc_aP.nd (aB (ok_az T) (rmo hr) rfl T.mg_az T.F_az.kp T.b_az .nil bo (aa (au (az K rfl) (pv 0) ae) ag))) fun _ _=>aH (aF 4 sc_aP.nd (aB (ok_az T) (rmo hr) rfl T.mg_az T.F_az.kp T.b_az .nil bo (aa (au (az K rfl) (pv 0) ae) ag))) fun _ _=>aH (eR (aW (PW.pt (cG (aT bU (au (az K rfl) (pv 0) ae) aj) (cG (d9 fW gZ ae (pv 3) (pv 1)) (cG (d9 fW gZ ae (pv 4) (pv 2)) (dE (dY (tJ hr.units) (au (az K rfl) (pv 0) ae) (aQ (aa aj (aa aj ag))) rfl)))))) (ak (aJ (aQ (aa aj (aa (pv 3) (aa (pv 4) (aa (dn pj rfl T.no_int (by rfl) (aa (au (az K rfl) (pv 0) ae) ag)) ag))))))) aI)) fun _ _=>aH (eR (aW (PW.pt (cG (aT bU (au (az K rfl) (pv 0) ae) aj) (cG (d9 fW gZ ae (pv 3) (av i9 (pv 1) ae)) (cG (d9 fW gZ ae (pv 4) (pv 2)) (dE (dY (tJ hr.units) (au (az K rfl) (pv 0) ae) (aQ (aa aj (aa aj ag))) rfl)))))) (ak (aJ (aQ (aa aj (aa (pv 3) (aa (pv 4) (aa (iV bU (au (az K rfl) (pv 0) ae) aj) ag))))))) aI)) fun _ _=>aH (eR (aW (PW.pt (cG (aT bU (au (az K rfl) (pv 0) ae) aj) (cG (d9 fW gZ ae (pv 3) (av i9 (pv 2) ae)) (cG (d9 fW gZ ae (pv 4) (pv 1)) (dE (dY (tJ hr.units) (au (az K rfl) (pv 0) ae) (aQ (aa aj (aa aj ag))) rfl)))))) (ak (aJ (aQ (aa aj (aa (pv 3) (aa (pv 4) (aa (iV bU (au (az K rfl) (pv 0) ae) aj) ag))))))) aI)) fun _ _=>cS (aJ ja) fun _ _=>?_;apply b9 el ?_;rw [List.length_map];left;by_cases c4:ws.length=4
  ·rw [aM (show ((ws.length:Nat):Int)=4 by omega)];obtain ⟨a,b,c,d,rfl⟩:=vy c4;have ta:=tw a (by simp);have tb:=tw b (by simp);have tc:=tw c (by simp);have td:=tw d (by simp);apply aL (SqL.of el) (v:=.str b) rfl ?_;apply ⟨b,rfl,tb,fun H1 s1=>?_⟩;left;have el1:=s1 _ _ el;refine aL (SqL.of el1) (v:=.str c) rfl ?_;apply ⟨c,rfl,tc,fun H2 s2=>?_⟩;have s12:=s1.trans s2;have el2:=s2 _ _ el1;apply eS (fun σ' H'=>σ'=[some (.ref l),some (.int wd),some (.int ht),some (.int (aX b)),some (.int (aX c))]∧ao H H'∧¬ (a="cell"∧(0≤aX b∧aX b<wd)∧(0≤aX c∧aX c<ht)∧(d="0"∨d="1"))) ?_ ?_
   ·apply aL (SqL.of (s12 _ _ el)) (v:=.str a) rfl ?_;left;by_cases c1:a="cell"
    rotate_left
    ·rw [aO c1];left;exact ⟨rfl,s12,fun z=>c1 z.1⟩
    rw [aM c1];left;by_cases c2:0≤aX b∧aX b<wd
    rotate_left
    ·by_cases z0:0≤aX b
     ·rw [aM z0];left;rw [aO (fun z=>c2 ⟨z0,z⟩)];left;exact ⟨rfl,s12,fun z=>c2 z.2.1⟩
     ·rw [aO z0];left;exact ⟨rfl,s12,fun z=>c2 z.2.1⟩
    rw [aM c2.1];left;rw [aM c2.2];left;by_cases c3:0≤aX c∧aX c<ht
    rotate_left
    ·by_cases z0:0≤aX c
     ·rw [aM z0];left;rw [aO (fun z=>c3 ⟨z0,z⟩)];left;exact ⟨rfl,s12,fun z=>c3 z.2.2.1⟩
     ·rw [aO z0];left;exact ⟨rfl,s12,fun z=>c3 z.2.2.1⟩
    rw [aM c3.1];left;rw [aM c3.2];apply aL (SqL.of (s12 _ _ el)) (v:=.str d) rfl ?_;apply nwT fun tq H4 stq ntq etq=>?_;apply pV etq (by decide +kernel) (by decide +kernel) td.ok ?_;have s24:=s12.trans stq;have el4:=s24 _ _ el;by_cases cd:d="0"∨d="1"
    rotate_left
    ·rw [show (decide ("0"=d)||decide ("1"=d))=false by rw [aO (fun z=>cd (.inl z.symm)),aO (fun z=>cd (.inr z.symm))]; rfl];left;exact ⟨rfl,s24,fun z=>cd z.2.2.2⟩
    rw [show (decide ("0"=d)||decide ("1"=d))=true by rcases cd with rfl | rfl<;>decide +kernel];apply aL (SqL.of el4) (v:=.str d) rfl ?_;apply ⟨d,_,rfl,(xB cd).1,(xB cd).2,?_⟩;left;obtain ⟨i,nb,eb⟩:=eP c2.1;obtain ⟨j,nc,ec⟩:=eP c3.1;rw [eb] at c2;rw [ec] at c3;rw [eb,ec];refine nwT fun tr H5 str ntr etr=>?_
    have fe:fK [a,b,c,d]=some (.cell (i:Nat) (j:Nat) (if d="0" then 0 else 1)):=by
     rw [j3 nb nc,if_pos c1];rcases cd with rfl | rfl
     ·rw [CH]; rfl
     ·rw [CI]; rfl
    exact k2 _ fe ⟨c2,c3,by split<;>simp⟩ tr H5 (s24.trans str) etr
   rintro σ22 H22 ⟨rfl,s22,n22⟩;apply eS (fun σ' H'=>σ'=[some (.ref l),some (.int wd),some (.int ht),some (.int (aX b)),some (.int (aX c))]∧ao H H'∧¬ (a="col"∧(0≤aX b∧aX b<wd - 1)∧(0≤aX c∧aX c<ht)∧(d="sewn"∨d="bare"))) ?_ ?_
   ·apply aL (SqL.of (s22 _ _ el)) (v:=.str a) rfl ?_;left;by_cases c1:a="col"
    rotate_left
    ·rw [aO c1];left;exact ⟨rfl,s22,fun z=>c1 z.1⟩
    rw [aM c1];left;by_cases c2:0≤aX b∧aX b<wd - 1
    rotate_left
    ·by_cases z0:0≤aX b
     ·rw [aM z0];left;rw [aO (fun z=>c2 ⟨z0,z⟩)];left;exact ⟨rfl,s22,fun z=>c2 z.2.1⟩
     ·rw [aO z0];left;exact ⟨rfl,s22,fun z=>c2 z.2.1⟩
    rw [aM c2.1];left;rw [aM c2.2];left;by_cases c3:0≤aX c∧aX c<ht
    rotate_left
    ·by_cases z0:0≤aX c
     ·rw [aM z0];left;rw [aO (fun z=>c3 ⟨z0,z⟩)];left;exact ⟨rfl,s22,fun z=>c3 z.2.2.1⟩
     ·rw [aO z0];left;exact ⟨rfl,s22,fun z=>c3 z.2.2.1⟩
    rw [aM c3.1];left;rw [aM c3.2];apply aL (SqL.of (s22 _ _ el)) (v:=.str d) rfl ?_;apply nwT fun tq H4 stq ntq etq=>?_;apply pV etq (by decide +kernel) (by decide +kernel) td.ok ?_;have s24:=s22.trans stq;have el4:=s24 _ _ el;by_cases cd:d="sewn"∨d="bare"
    rotate_left
    ·rw [show (decide ("sewn"=d)||decide ("bare"=d))=false by rw [aO (fun z=>cd (.inl z.symm)),aO (fun z=>cd (.inr z.symm))]; rfl];left;exact ⟨rfl,s24,fun z=>cd z.2.2.2⟩
    rw [show (decide ("sewn"=d)||decide ("bare"=d))=true by rcases cd with rfl | rfl<;>decide +kernel];apply aL (SqL.of el4) (v:=.str d) rfl ?_;left;obtain ⟨i,nb,eb⟩:=eP c2.1;obtain ⟨j,nc,ec⟩:=eP c3.1;rw [eb] at c2;rw [ec] at c3;rw [eb,ec];refine nwT fun tr H5 str ntr etr=>?_
    have fe:fK [a,b,c,d]=some (.line true (i:Nat) (j:Nat) (decide (d="sewn"))):=by
     rw [j3 nb nc,c1,if_neg DR,if_pos ⟨.inl rfl,cd⟩];rw [show decide ((Str.ofString "col")="col")=true by decide +kernel]
    exact k2 _ fe ⟨c2,c3⟩ tr H5 (s24.trans str) etr
   rintro σ32 H32 ⟨rfl,s32,n32⟩;apply eS (fun σ' H'=>σ'=[some (.ref l),some (.int wd),some (.int ht),some (.int (aX b)),some (.int (aX c))]∧ao H H'∧¬ (a="row"∧(0≤aX b∧aX b<ht - 1)∧(0≤aX c∧aX c<wd)∧(d="sewn"∨d="bare"))) ?_ ?_
   ·apply aL (SqL.of (s32 _ _ el)) (v:=.str a) rfl ?_;left;by_cases c1:a="row"
    rotate_left
    ·rw [aO c1];left;exact ⟨rfl,s32,fun z=>c1 z.1⟩
    rw [aM c1];left;by_cases c2:0≤aX b∧aX b<ht - 1
    rotate_left
    ·by_cases z0:0≤aX b
     ·rw [aM z0];left;rw [aO (fun z=>c2 ⟨z0,z⟩)];left;exact ⟨rfl,s32,fun z=>c2 z.2.1⟩
     ·rw [aO z0];left;exact ⟨rfl,s32,fun z=>c2 z.2.1⟩
    rw [aM c2.1];left;rw [aM c2.2];left;by_cases c3:0≤aX c∧aX c<wd
    rotate_left
    ·by_cases z0:0≤aX c
     ·rw [aM z0];left;rw [aO (fun z=>c3 ⟨z0,z⟩)];left;exact ⟨rfl,s32,fun z=>c3 z.2.2.1⟩
     ·rw [aO z0];left;exact ⟨rfl,s32,fun z=>c3 z.2.2.1⟩
    rw [aM c3.1];left;rw [aM c3.2];apply aL (SqL.of (s32 _ _ el)) (v:=.str d) rfl ?_;apply nwT fun tq H4 stq ntq etq=>?_;apply pV etq (by decide +kernel) (by decide +kernel) td.ok ?_;have s24:=s32.trans stq;have el4:=s24 _ _ el;by_cases cd:d="sewn"∨d="bare"
    rotate_left
    ·rw [show (decide ("sewn"=d)||decide ("bare"=d))=false by rw [aO (fun z=>cd (.inl z.symm)),aO (fun z=>cd (.inr z.symm))]; rfl];left;exact ⟨rfl,s24,fun z=>cd z.2.2.2⟩
    rw [show (decide ("sewn"=d)||decide ("bare"=d))=true by rcases cd with rfl | rfl<;>decide +kernel];apply aL (SqL.of el4) (v:=.str d) rfl ?_;left;obtain ⟨i,nb,eb⟩:=eP c2.1;obtain ⟨j,nc,ec⟩:=eP c3.1;rw [eb] at c2;rw [ec] at c3;rw [eb,ec];refine nwT fun tr H5 str ntr etr=>?_
    have fe:fK [a,b,c,d]=some (.line false (i:Nat) (j:Nat) (decide (d="sewn"))):=by
     rw [j3 nb nc,c1,if_neg Eh,if_pos ⟨.inr rfl,cd⟩];rw [show decide ((Str.ofString "row")="col")=false by decide +kernel]
    exact k2 _ fe ⟨c2,c3⟩ tr H5 (s24.trans str) etr
   rintro σ42 H42 ⟨rfl,s42,n42⟩;left;exact k1 (w8 n22 n32 n42) _ s42
  ·rw [aO (show ¬ ((ws.length:Nat):Int)=4 by omega)];left;exact k1 (fun f hf=>by rw [pF c4] at hf; cases hf) _ (ao.refl _)
noncomputable def sbS (b:Bool):Str:=if b=true then "sewn" else "bare"
noncomputable def fwS:Fct→List Str
 | .cell x y c=>["cell",nT x.toNat,nT y.toNat,nT c.toNat]
 | .line col k s b=>[wyS col,nT k.toNat,nT s.toNat,sbS b]
def nSm (a:Int):Prop:=0≤a∧a<10 ^ 9
theorem nSm.nat {a:Int} (h:nSm a):∃ n:Nat,a=(n:Int)∧n<10 ^ 9:=⟨a.toNat,by have:=h.1; omega,by have:=h.2; have:=h.1; omega⟩
def fSm:Fct→Prop
 | .cell x y c=>nSm x∧nSm y∧nSm c
 | .line _ k s _=>nSm k∧nSm s
noncomputable def gM (n:Int) (f:Fct):Str:=Str.join " " (nT n.toNat::fwS f)
theorem j6 (a b c d e:Str):Str.empty++a++" "++b++" "++c++" "++d++" "++e=Str.join " " [a,b,c,d,e]:=by
 refine BF ?_
 show _=(a++" "++(b++" "++(c++" "++(d++" "++e)))).cps.toList
 simp only [wR,List.append_assoc];rfl
theorem EB (col:Bool):wyS col≠"cell":=by cases col<;>decide +kernel
theorem An (col:Bool):(wyS col).length≤100:=by cases col<;>decide +kernel
theorem zB (b:Bool):(sbS b).length≤100:=by cases b<;>decide +kernel
def sp_aB:Sp:=fun vs H Q _=>∃ (a:Addr) (n:Int) (f:Fct),vs=[.int n,.ref a]∧H a=some (.tup f.vs)∧nSm n∧fSm f∧Q (.str (gM n f)) H
theorem ok_aB (T:Txt K mg t):aU P w K mg base CX0 1 t.f_aB t.d_aB ["number","fact"] sp_aB:=by
 refine T.F_aB.ok sc_aB (by walk_at "l") (fun _ _ _ s H vs Q E hr h=>?_)
 ·obtain ⟨a,n,f,rfl,ha,hn,hf,k⟩:=h;refine aH (aF 2 sc_aB.nd (au (ay K rfl) (pv 1) ae)) fun _ _=>aH (aF 3 sc_aB.nd (au (ay K rfl) (pv 1) ae)) fun _ _=>aH (aF 4 sc_aB.nd (au (ay K rfl) (pv 1) ae)) fun _ _=>aH (aF 5 sc_aB.nd (au (ay K rfl) (pv 1) ae)) fun _ _=>aH (aW (aT eM (pv 2) aj) (ak (aF 5 sc_aB.nd (fX (cF (au (ay K rfl) (pv 1) ae)) aj aj))) aI) fun _ _=>cS (aJ (rD (PEs.cons (fA (pv 0)) (PEs.cons aj (PEs.cons (fA (pv 2)) (PEs.cons aj (PEs.cons (fA (pv 3)) (PEs.cons aj (PEs.cons (fA (pv 4)) (PEs.cons aj (PEs.cons (fA (pv 5)) PEs.nil))))))))) (by decide))) fun _ _=>?_;have big:(100:Nat)≤sizeLine:=by decide
  obtain ⟨m,rfl,hm⟩:=hn.nat;have ln:=da hm
  cases f with
  | cell x y c =>
   obtain ⟨x,rfl,hx⟩:=hf.1.nat;obtain ⟨y,rfl,hy⟩:=hf.2.1.nat;obtain ⟨c,rfl,hc⟩:=hf.2.2.nat;have lx:=da hx;have ly:=da hy;have lc:=da hc;have ha:H a=some (.tup [.str "cell",.int (x:Int),.int (y:Int),.int (c:Int)]):=ha;have k:Q (.str (Str.join " " [nT m,"cell",nT x,nT y,nT c])) H:=k;rw [← j6] at k;apply aA (SqT.of ha) (v:=.str "cell") rfl ?_;apply aA (SqT.of ha) (v:=.int (x:Int)) rfl ?_;apply aA (SqT.of ha) (v:=.int (y:Int)) rfl ?_;apply aA (SqT.of ha) (v:=.int (c:Int)) rfl ?_;apply ko ?_;rw [aM rfl];apply jM ?_;unfold cg;refine bZ ?_;apply .inl ⟨m,rfl,hm,_,rfl,by omega,?_⟩;unfold cg;apply ⟨_,rfl,by decide +kernel,?_⟩;unfold cg;refine bZ ?_;apply .inr ⟨_,rfl,by decide +kernel,_,rfl,by decide +kernel,?_⟩;unfold cg;apply ⟨_,rfl,by decide +kernel,?_⟩;unfold cg;refine bZ ?_;apply .inl ⟨x,rfl,hx,_,rfl,by omega,?_⟩;unfold cg;apply ⟨_,rfl,by decide +kernel,?_⟩;unfold cg;refine bZ ?_;apply .inl ⟨y,rfl,hy,_,rfl,by omega,?_⟩;unfold cg;apply ⟨_,rfl,by decide +kernel,?_⟩;unfold cg;refine bZ ?_;apply .inl ⟨c,rfl,hc,_,rfl,by omega,?_⟩;unfold cg;exact k
  | line col i j b =>
   obtain ⟨x,rfl,hx⟩:=hf.1.nat;obtain ⟨y,rfl,hy⟩:=hf.2.nat;have lx:=da hx;have ly:=da hy;have lw:=An col;have lb:=zB b;have ha:H a=some (.tup [.str (wyS col),.int (x:Int),.int (y:Int),.bl b]):=ha;have k:Q (.str (Str.join " " [nT m,wyS col,nT x,nT y,sbS b])) H:=k;rw [← j6] at k;have wn:=EB col;generalize wyS col=wc at *;apply aA (SqT.of ha) (v:=.str wc) rfl ?_;apply aA (SqT.of ha) (v:=.int (x:Int)) rfl ?_;apply aA (SqT.of ha) (v:=.int (y:Int)) rfl ?_;apply aA (SqT.of ha) (v:=.bl b) rfl ?_;apply ko ?_;rw [aO wn];apply aA (SqT.of ha) (v:=.bl b) rfl ?_;left
   cases b
   ·rw [if_neg (by decide)];apply jM ?_;unfold cg;refine bZ ?_;apply .inl ⟨m,rfl,hm,_,rfl,by omega,?_⟩;unfold cg;apply ⟨_,rfl,by decide +kernel,?_⟩;unfold cg;refine bZ ?_;apply .inr ⟨_,rfl,Nat.le_trans lw big,_,rfl,lw,?_⟩;unfold cg;apply ⟨_,rfl,by decide +kernel,?_⟩;unfold cg;refine bZ ?_;apply .inl ⟨x,rfl,hx,_,rfl,by omega,?_⟩;unfold cg;apply ⟨_,rfl,by decide +kernel,?_⟩;unfold cg;refine bZ ?_;apply .inl ⟨y,rfl,hy,_,rfl,by omega,?_⟩;unfold cg;apply ⟨_,rfl,by decide +kernel,?_⟩;unfold cg;refine bZ ?_;apply .inr ⟨_,rfl,by decide +kernel,_,rfl,by decide +kernel,?_⟩;unfold cg;exact k
   ·rw [if_pos rfl];apply jM ?_;unfold cg;refine bZ ?_;apply .inl ⟨m,rfl,hm,_,rfl,by omega,?_⟩;unfold cg;apply ⟨_,rfl,by decide +kernel,?_⟩;unfold cg;refine bZ ?_;apply .inr ⟨_,rfl,Nat.le_trans lw big,_,rfl,lw,?_⟩;unfold cg;apply ⟨_,rfl,by decide +kernel,?_⟩;unfold cg;refine bZ ?_;apply .inl ⟨x,rfl,hx,_,rfl,by omega,?_⟩;unfold cg;apply ⟨_,rfl,by decide +kernel,?_⟩;unfold cg;refine bZ ?_;apply .inl ⟨y,rfl,hy,_,rfl,by omega,?_⟩;unfold cg;apply ⟨_,rfl,by decide +kernel,?_⟩;unfold cg;refine bZ ?_;apply .inr ⟨_,rfl,by decide +kernel,_,rfl,by decide +kernel,?_⟩;unfold cg;exact k
def sp_au (C:Addr):Sp:=fun vs H Q _=>∃ (p df dg:Addr) (wd ht:Nat) (F:List (Int×Fct)) (n:Int) (G:List Key→List Key×Int),vs=[.ref p]∧cv C H p df dg wd ht F n G∧∀ l ys H',ao H H'→H l=none→H' l=some (.lst ys)→PwP H' ys F→Q (.ref l) H'
theorem ok_au (T:Txt K mg t):aU P w K mg base CX0 1 t.f_au t.d_au ["self"] (sp_au t.a_ab):=by
 refine T.F_au.ok sc_au (by walk_at "l") (fun _ _ _ s H vs Q E hr h=>?_)
 ·obtain ⟨p,df,dg,wd,ht,F,n,G,rfl,fd,k⟩:=h;obtain ⟨dx,fs,hp,fl⟩:=fd.ob;obtain ⟨kf,hdf,pn⟩:=fd.fa;refine ⟨_,(ak (aJ (dn (wM rfl) rfl T.no_list (by rfl) (aa (pS PySem.F.plainAttrs_dict PySem.F.slot_dict_items PySem.F.type_dict_items rj (cN K rfl (pv 0) rfl)) ag)))),?_⟩;apply cP hp T.cl_ab T.naF_facts fl.f ?_;apply pU hdf ?_;refine jO hdf fun v nv=>?_;have sv:=ao.new (o:=cC "dict_items" v df) nv;have ev:=ai (H:=H) (a:=v) (o:=cC "dict_items" v df);generalize upd H v (cC "dict_items" v df)=H2 at sv ev ⊢;apply zd ev (sv _ _ hdf) fun l ys H3 s3 nl e3 pw=>?_;have s:=sv.trans s3;refine k l ys H3 s (sv.free nl) e3 ⟨pw.1.trans pn.1,fun i y nf h1 h2=>?_⟩;obtain ⟨⟨kk,x⟩,hk⟩:∃ q,kf[i]?=some q:=⟨_,List.getElem?_eq_getElem (by rw [pn.1]; exact (List.getElem?_eq_some_iff.mp h2).1)⟩
  obtain ⟨rfl,a,rfl,ha⟩:=pn.2 i kk x nf hk h2;obtain ⟨b,rfl,hb⟩:=pw.2 i y _ _ h1 hk;exact ⟨b,a,rfl,hb,s _ _ ha⟩
theorem oE {a:Str} {ts:List Str} (B:Nat) (hB:∀ y∈ts,y.length≤B) (h:ts.length*B+ts.length*a.length≤16777216):JoinOk a ts=true:=by
 unfold JoinOk;rw [StrLaws.joinFits hB h]; rfl
theorem By {n:Int} {f:Fct} (hn:nSm n) (hf:fSm f):(gM n f).length≤300:=by
 have five:∀ a b c d e:Str,(Str.join " " [a,b,c,d,e]).length=a.length+1+b.length+1+c.length+1+d.length+1+e.length:=fun a b c d e=>by
  rw [← j6];simp only [strLen_append];rw [show (Str.empty).length=0 from rfl,show ((" ":Str)).length=1 by decide +kernel];omega
 obtain ⟨m,rfl,hm⟩:=hn.nat;have ln:=da hm
 cases f with
 | cell x y c =>
  obtain ⟨x,rfl,hx⟩:=hf.1.nat;obtain ⟨y,rfl,hy⟩:=hf.2.1.nat;obtain ⟨c,rfl,hc⟩:=hf.2.2.nat;have lx:=da hx;have ly:=da hy;have lc:=da hc
  show (Str.join " " [nT m,"cell",nT x,nT y,nT c]).length≤300
  rw [five,show (("cell":Str)).length=4 by decide +kernel];omega
 | line col i j b =>
  obtain ⟨x,rfl,hx⟩:=hf.1.nat;obtain ⟨y,rfl,hy⟩:=hf.2.nat;have lx:=da hx;have ly:=da hy;have lw:=An col;have lb:=zB b
  show (Str.join " " [nT m,wyS col,nT x,nT y,sbS b]).length≤300
  rw [five];omega
noncomputable def hdS (wd ht:Nat) (n:Int):Str:=Str.join " " ["finds",nT wd,nT ht,nT n.toNat]
theorem oz (b c d:Str):Str.empty++"finds "++b++" "++c++" "++d=Str.join " " ["finds",b,c,d]:=by
 refine BF ?_
 show _=(("finds":Str)++" "++(b++" "++(c++" "++d))).cps.toList
 have e:("finds ":Str).cps.toList=("finds":Str).cps.toList++(" ":Str).cps.toList:=by decide +kernel
 simp only [wR,List.append_assoc,e];rfl
theorem CB {wd ht m:Nat} (h1:(nT wd).length≤9) (h2:(nT ht).length≤9) (h3:(nT m).length≤9):(hdS wd ht (m:Int)).length≤300:=by
 show (Str.join " " ["finds",nT wd,nT ht,nT m]).length≤300
 rw [← oz];simp only [strLen_append];rw [show (Str.empty).length=0 from rfl,show ((" ":Str)).length=1 by decide +kernel,show (("finds ":Str)).length=6 by decide +kernel];omega
noncomputable def xh (wd ht:Nat) (n:Int) (F:List (Int×Fct)):Str:=Str.join "\n" (hdS wd ht n::F.map fun nf=>gM nf.1 nf.2)
def sp_as (C:Addr):Sp:=fun vs H Q _=>∃ (p df dg:Addr) (wd ht:Nat) (F:List (Int×Fct)) (n:Int) (G:List Key→List Key×Int),vs=[.ref p]∧cv C H p df dg wd ht F n G∧wd≤40∧ht≤40∧nSm n∧F.length≤400∧(∀ nf∈F,nSm nf.1∧fSm nf.2)∧∀ H',ao H H'→Q (.str (xh wd ht n F)) H'
theorem ok_as (T:Txt K mg t):aU P w K mg base CX0 2 t.f_as t.d_as ["finds"] (sp_as t.a_ab):=by
 refine T.F_as.ok sc_as (by walk_at "l") (fun _ _ _ s H vs Q E hr h=>?_)
 ·obtain ⟨p,df,dg,wd,ht,F,n,G,rfl,fd,lw,lh,hn,lF,sF,k⟩:=h;obtain ⟨dx,fs,hp,fl⟩:=fd.ob;obtain ⟨m,rfl,hm⟩:=hn.nat;have l1:=da (n:=wd) (by omega);have l2:=da (n:=ht) (by omega);have l3:=da hm;refine aH (aF 1 sc_as.nd (bQ (pv 0) T.cl_ab T.m_ak (ok_ak T) (rmo hr) T.b_ak .nil bo)) fun _ _=>aH (aF 2 sc_as.nd (bQ (pv 0) T.cl_ab T.m_aj (ok_aj T) (rmo hr) T.b_aj .nil bo)) fun _ _=>aH (aF 3 sc_as.nd (bQ (pv 0) T.cl_ab T.m_ac (ok_ac T) (rmo hr) T.b_ac .nil bo)) fun _ _=>aH (aF 4 sc_as.nd (bP (aa (rD (PEs.cons aj (PEs.cons (fA (pv 1)) (PEs.cons aj (PEs.cons (fA (pv 2)) (PEs.cons aj (PEs.cons (fA (pv 3)) PEs.nil)))))) (by decide)) ag))) fun _ _=>aH (bG (cy PySem.F.plainAttrs_list PySem.F.slot_list_extend PySem.F.type_list_extend vI (pv 4) (aa (eQ (N:=["number","fact"]) (cap:=[none,none]) rfl ⟨rfl,rfl,rfl,rfl,rfl,rfl⟩ (cO (bQ (pv 0) T.cl_ab T.m_au (ok_au T) (rmo hr) T.b_au .nil bo)) (fun _ _ _=>(gA (n:=2) K rfl rfl (bJ (aP (i:=0) (show (["number","fact"]:List Str).Nodup by decide +kernel) rfl (Or.inl rfl)) (bJ (aP (i:=1) (show (["number","fact"]:List Str).Nodup by decide +kernel) rfl (Or.inl rfl)) fB)))) (fun _ _ _=>dZ) (fun _ _ _=>(aB (ok_aB T) (rmo hr) rfl T.mg_aB T.F_aB.kp T.b_aB .nil bo (aa (pv 0) (aa (pv 1) ag))))) ag))) fun _ _=>cS (aJ (cy PySem.F.plainAttrs_str PySem.F.slot_str_join PySem.F.type_str_join iB aj (aa (pv 4) ag))) fun _ _=>?_;apply bp hp (fl.no _ (by decide +kernel)) ?_;apply ⟨p,_,_,rfl,fd.sz,?_⟩;apply bp hp (fl.no _ (by decide +kernel)) ?_;apply ⟨p,_,_,rfl,fd.sz,?_⟩;apply bp hp (fl.no _ (by decide +kernel)) ?_;apply ⟨p,df,dg,wd,ht,F,_,G,rfl,fd,?_⟩;apply jM ?_;unfold cg;apply ⟨_,rfl,by decide +kernel,?_⟩;unfold cg;refine bZ ?_;apply .inl ⟨wd,rfl,by omega,_,rfl,by omega,?_⟩;unfold cg;apply ⟨_,rfl,by decide +kernel,?_⟩;unfold cg;refine bZ ?_;apply .inl ⟨ht,rfl,by omega,_,rfl,by omega,?_⟩;unfold cg;apply ⟨_,rfl,by decide +kernel,?_⟩;unfold cg;refine bZ ?_;apply .inl ⟨m,rfl,hm,_,rfl,by omega,?_⟩;unfold cg;rw [oz,show Str.join " " ["finds",nT wd,nT ht,nT m]=hdS wd ht (m:Int) from rfl];have lhd:=CB l1 l2 l3;apply ⟨by show 1≤sizeLine; decide,fun lr nlr=>?_⟩;have s1:=ao.new (o:=HO.lst [V.str (hdS wd ht (m:Int))]) nlr;have e1:=ai (H:=H) (a:=lr) (o:=HO.lst [V.str (hdS wd ht (m:Int))]);generalize upd H lr (HO.lst [V.str (hdS wd ht (m:Int))])=H1 at s1 e1 ⊢;apply dF e1 ?_;apply bp (s1 _ _ hp) (fl.no _ (by decide +kernel)) ?_;apply ⟨p,df,dg,wd,ht,F,_,G,rfl,fd.mono s1,fun lk ys H2 s2 nlk ek pw=>?_⟩;apply ⟨⟨_,SqL.of ek⟩,fun l3 n3=>?_⟩;refine pB ((F.map fun nf=>gM nf.1 nf.2).map V.str) (by rw [List.length_map,List.length_map,pw.1]) (SqL.of ek) (by rw [pw.1]; omega) n3 (fun i v hv=>?_) (fun i b u1 u2 y o1 o2 H' Q' hv hb hy s3 q=>?_) (fun H3 s3 e3=>?_)
  ·obtain ⟨b,fa,nf,rfl,hnf,hb,hfa⟩:=pw.mem (List.mem_of_getElem? hv);exact ⟨b,_,_,rfl,hb⟩
  ·rw [List.map_map,List.getElem?_map] at hy;obtain ⟨nf,hnf,rfl⟩:=Option.map_eq_some_iff.mp hy;obtain ⟨b',fa,e,hb',hfa⟩:=pw.2 i _ nf hv hnf
   cases e;rw [hb] at hb'
   cases hb';have sm:=sF nf (List.mem_of_getElem? hnf);left;exact ⟨fa,nf.1,nf.2,rfl,s3 _ _ hfa,sm.1,sm.2,q H' (ao.refl _)⟩
  ·left;have s12:=s1.trans (s2.trans s3);have er:H3 lr=some (.lst [V.str (hdS wd ht (m:Int))]):=(s2.trans s3) _ _ e1;have nr:lr≠l3:=fun z=>by rw [z] at e1; rw [s2 _ _ e1] at n3; cases n3
   refine ⟨lr,l3,_,_,rfl,rfl,er,e3,by rw [List.length_map,List.length_map]; show 1+F.length≤sizeLine; rw [sizeLine_eq]; omega,?_⟩;have e4:=ai (H:=H3) (a:=lr) (o:=HO.lst ([V.str (hdS wd ht (m:Int))]++(F.map fun nf=>gM nf.1 nf.2).map V.str));have s4:ao H (upd H3 lr (HO.lst ([V.str (hdS wd ht (m:Int))]++(F.map fun nf=>gM nf.1 nf.2).map V.str))):=fun b o e=>by
    rw [aw (fun z=>by rw [z,nlr] at e; cases e)];exact s12 _ _ e
   generalize upd H3 lr (HO.lst ([V.str (hdS wd ht (m:Int))]++(F.map fun nf=>gM nf.1 nf.2).map V.str))=H4 at e4 s4 ⊢;left
   have jo:JoinOk "\n" (hdS wd ht (m:Int)::F.map fun nf=>gM nf.1 nf.2)=true:=by
    refine oE 300 (fun y hy=>?_) ?_
    ·rcases List.mem_cons.mp hy with rfl | hy
     ·exact lhd
     ·obtain ⟨nf,hnf,rfl⟩:=List.mem_map.mp hy;exact By (sF nf hnf).1 (sF nf hnf).2
    ·rw [List.length_cons,List.length_map,show (("\n":Str)).length=1 by decide +kernel];omega
   refine ⟨rfl,?_⟩;apply ⟨_,lr,_,rfl,rfl,(e4.trans (by rfl):H4 lr=some (.lst ((hdS wd ht (m:Int)::F.map fun nf=>gM nf.1 nf.2).map V.str))),jo,?_⟩;rw [jw];exact k H4 s4
theorem Fct.wt01 (f:Fct):f.tie.2.2=0∨f.tie.2.2=1:=by
 cases f with
 | cell x y c=>show (c+x*y)%2=0∨(c+x*y)%2=1; omega
 | line col k s b=>show (if b=true then (s+1)%2 else s%2)=0∨(if b=true then (s+1)%2 else s%2)=1; split<;>omega
open Classical in
theorem FOk.add {v:List Key→Int} {wd ht:Nat} {F:List (Int×Fct)} {n:Int} {G:List Key→List Key×Int} (h:FOk v wd ht F n G) {f:Fct} (hi:f.inW wd ht) (nc:¬ Clh G f):∃ v',FOk v' wd ht (F++[(n,f)]) (n+1) (Fm.gN G f.tie):=by
  obtain ⟨d1,d2⟩:=Fct.inD hi;by_cases tr:Tr v f
  · exact ⟨v,h.snoc hi tr⟩
  · have ncon:¬ Fm.Con (bR F) f.tie.1 f.tie.2.1:=fun con=>by
      have c:=(h.gr.lead _ d1 _ d2).mpr con;refine nc ⟨c,fun e=>tr ?_⟩
      show f.tie.2.2=_
      rw [← e,h.gr.wt _ d1 _ d2 con]
    let v':List Key→Int:=fun s=>if Fm.Con (bR F) f.tie.1 s then v s+1 else v s
    have ev:∀ {s u:List Key},Fm.Con (bR F) s u→(v' s+v' u)%2=(v s+v u)%2:=fun {s u} con=>by
      by_cases c:Fm.Con (bR F) f.tie.1 s
      · have e1:v' s=v s+1:=if_pos c
        have e2:v' u=v u+1:=if_pos (c.trans con);rw [e1,e2]; omega
      · have e1:v' s=v s:=if_neg c
        have e2:v' u=v u:=if_neg fun z=>c (z.trans con.symm);rw [e1,e2]
    have f0:FOk v' wd ht F n G:=⟨h.inw,fun nf hm=>by
        show nf.2.tie.2.2=(v' nf.2.tie.1+v' nf.2.tie.2.1)%2
        have q:=ev (s:=nf.2.tie.1) (u:=nf.2.tie.2.1) (Fm.Con.one (w:=nf.2.tie.2.2) (List.mem_map.mpr ⟨nf,hm,rfl⟩));rw [q];exact h.tr nf hm,h.lt,h.nd,⟨h.gr.lead,fun s hs u hu con=>by rw [ev con]; exact h.gr.wt s hs u hu con⟩⟩
    refine ⟨v',f0.snoc hi ?_⟩
    show f.tie.2.2=(v' f.tie.1+v' f.tie.2.1)%2
    have e1:v' f.tie.1=v f.tie.1+1:=if_pos (.refl _);have e2:v' f.tie.2.1=v f.tie.2.1:=if_neg ncon;have w01:=Fct.wt01 f;have tr:¬ f.tie.2.2=(v f.tie.1+v f.tie.2.1)%2:=tr;rw [e1,e2];omega
def sp_aF:Sp:=fun vs H Q _=>∃ (lf a:Addr) (xs:List V) (F:List (Int×Fct)) (n:Int) (G:List Key→List Key×Int) (v:List Key→Int) (wd ht:Nat) (f:Fct),vs=[.ref lf,.ref a]∧H lf=some (.lst xs)∧PwP H xs F∧F.length≤400∧FOk v wd ht F n G∧wd≤40∧ht≤40∧H a=some (.tup f.vs)∧f.inW wd ht ∧
 ∀ b H',ao H H'→(b=true↔Clh G f)→Q (.bl b) H'
theorem ok_aF (T:Txt K mg t):aU P w K mg base CX0 3 t.f_aF t.d_aF ["_law_facts","_law_fact_here"] sp_aF:=by
 refine T.F_aF.ok sc_aF (by walk_at "l") (fun _ _ _ s H vs Q E hr h=>?_)
 ·obtain ⟨lf,a,xs,F,n,G,v,wd,ht,f,rfl,hl,pw,lF,fo,lw,lh,ha,hi,k⟩:=h;obtain ⟨d1,d2⟩:=Fct.inD hi;refine ⟨_,(aK (tM (aB (ok_bc T) (rmo hr) rfl T.mg_bc T.F_bc.kp T.b_bc .nil bo (aa (pv 1) ag)) (gA (n:=3) K rfl rfl (bJ (aP (i:=2) sc_aF.nd rfl (Or.inl rfl)) (bJ (aP (i:=3) sc_aF.nd rfl (Or.inl rfl)) (bJ (aP (i:=4) sc_aF.nd rfl (Or.inl rfl)) fB))))) (ak (aJ (iV eM (yi (b0 hr) (aB (ok_a2 T) (rmo hr) rfl T.mg_a2 T.F_a2.kp T.b_a2 .nil bo (aa (pv 0) (aa (pv 2) ag))) (pv 3) (pv 4) ⟨rfl,rfl,rfl,rfl⟩) (pv 4))))),?_⟩;apply ⟨a,f,wd,ht,rfl,ha,hi,by omega,by omega,fun T1 H1 s1 tp=>?_⟩;obtain ⟨b1,b2,hT,h1,h2⟩:=tp;apply fD hT rfl ?_;apply ⟨lf,b1,xs,F,wd,ht,v,_,rfl,s1 _ _ hl,pw.mono s1,lF,fo.inw,fo.tr,lw,lh,h1,fun d kvs H2 s2 nd ed sm=>?_⟩;refine Bk ed ?_;apply ⟨_,dM.t ed (s2 _ _ h2),?_⟩;by_cases con:Fm.Con (bR F) f.tie.1 f.tie.2.1
  ·rw [sm.yes _ con];left
   show rNe (V.int _) (V.int _) H2 _
   refine tS ?_;refine k _ H2 (s1.trans s2) ?_;have c:=(fo.gr.lead _ d1 _ d2).mpr con;have e:=fo.gr.wt _ d1 _ d2 con;unfold Clh;rw [← e];simp [c]
  ·rw [sm.no _ con];left
   show rNe (V.int _) (V.int _) H2 _
   refine tS ?_;refine k _ H2 (s1.trans s2) ?_;rw [aM rfl];refine ⟨fun z=>(by cases z),fun z=>absurd ((fo.gr.lead _ d1 _ d2).mp z.1) con⟩
end
section
variable {P:Program} {w:World} {K:W.Frag} {mg:Str→Option Value} {base:Heap} {t:Ad}
def sp_am (C:Addr):Sp:=fun vs H Q _=>∃ (p a df dg:Addr) (wd ht:Nat) (F:List (Int×Fct)) (n:Int) (G:List Key→List Key×Int) (f:Fct) (v:List Key→Int),vs=[.ref p,.ref a]∧cv C H p df dg wd ht F n G∧FOk v wd ht F n G∧wd≤40∧ht≤40∧F.length≤400 ∧
 H a=some (.tup f.vs)∧f.inW wd ht∧Tr v f∧f∉F.map (·.2)∧∀ H',aV [p,df,dg] H H'→cv C H' p df dg wd ht (F++[(n,f)]) (n+1) (Fm.gN G f.tie)→FOk v wd ht (F++[(n,f)]) (n+1) (Fm.gN G f.tie)→Q (.int n) H'
theorem ok_am (T:Txt K mg t):aU P w K mg base CX0 6 t.f_am t.d_am ["self","fact"] (sp_am t.a_ab) :=
 (okx_am T).one.down fun vs H Q E hh=>by
  obtain ⟨p,a,df,dg,wd,ht,F,n,G,f,v,e,fd,fo,lw,lh,lF,ha,hi,htr,hm,k⟩:=hh;have ncl:¬ Clh G f:=fun z=>by
   obtain ⟨d1,d2⟩:=Fct.inD hi;exact z.2 (by rw [fo.gr.wt _ d1 _ d2 ((fo.gr.lead _ d1 _ d2).mp z.1)]; exact htr.symm)
  refine ⟨p,a,df,dg,wd,ht,F,n,G,f,v,e,fd,fo,lw,lh,lF,ha,fun X hX=>?_,fun _ z=>absurd z hm,fun _ _ z=>absurd z ncl,fun _ _ _ H' m f'=>k H' m f' (fo.snoc hi htr)⟩;rw [Fct.no_iff.mpr hi] at hX; cases hX
def sp_aO (C:Addr):Sp:=fun vs H Q _=>∃ (p q ls df dg:Addr) (m:Nat) (zs:List Int) (s:Int) (cs rs:List Int),vs=[.ref p,.ref q,.ref ls,.int m]∧eC true H q s cs rs∧cv C H p df dg (cs.length+1) (rs.length+1) [] 0 Fm.lone ∧
 H ls=some (.lst (zs.map V.int))∧m≤100∧3*m≤zs.length∧∀ l xs F n G H',aV [p,df,dg] H H'→H l=none→H' l=some (.lst xs)→PwP H' xs F→cv C H' p df dg (cs.length+1) (rs.length+1) F n G→FOk (vP s cs rs) (cs.length+1) (rs.length+1) F n G→F.length≤m→n=(F.length:Int)→(∀ nf∈F,0≤nf.1)→Q (.ref l) H'
theorem ok_aO (T:Txt K mg t):aU P w K mg base CX0 7 t.f_aO t.d_aO ["_law_finds","_law_plan","_law_some","_law_many"] (sp_aO t.a_ab):=by
  refine T.F_aO.ok sc_aO (fun vs H Q E h=>?_) (fun cdv A outer s H vs Q E hr h=>?_)
  · obtain ⟨p,q,ls,df,dg,m,zs,s,cs,rs,rfl,_⟩:=h; rfl
  · obtain ⟨p,q,ls,df,dg,m,zs,s,cs,rs,rfl,pl,fd,hls,lm,lz,k⟩:=h
    have lc:=pl.bc.1;have lr:=pl.br.1;have os:=fd.outS;refine aH (aF 4 sc_aO.nd (bP ag)) fun _ _=>aH (dR PassesOwn.never rfl (dQ rfl T.no_a8 (aa (pv 3) ag)) (aP (i:=5) sc_aO.nd rfl (Or.inl rfl)) (aK (aF 6 sc_aO.nd (aB (ok_a4 T) (rmo hr) rfl T.mg_a4 T.F_a4.kp T.b_a4 .nil bo (aa (pv 1) (aa (au (az K rfl) (pv 2) (av dP ae (pv 5))) (aa (au (az K rfl) (pv 2) (av bf (av dP ae (pv 5)) ae)) (aa (au (az K rfl) (pv 2) (av bf (av dP ae (pv 5)) ae)) ag)))))) (ak (aW (dY (AU hr.units) (pv 6) (eQ (N:=["_law_row_here"]) (cap:=[none]) rfl ⟨rfl,rfl,rfl,rfl,rfl,rfl⟩ (cO (pv 4)) (fun _ _ _=>(aP (i:=0) (show (["_law_row_here"]:List Str).Nodup by decide +kernel) rfl (Or.inl rfl))) (fun _ _ _=>dZ) (fun _ _ _=>(au (ay K rfl) (pv 0) ae))) rfl) (ak (bG (cy PySem.F.plainAttrs_list PySem.F.slot_list_append PySem.F.type_list_append cf (pv 4) (aa (aQ (aa (iE (pv 0) T.cl_ab T.m_am (ok_am T) (rmo hr) T.b_am .nil bo (aa (pv 6) ag)) (aa (pv 6) ag))) ag)))) aI)))) fun _ _=>cS (aJ (pv 4)) fun _ _=>?_;apply ⟨Nat.zero_le _,fun l nl=>?_⟩;have s0:=ao.new (o:=HO.lst []) nl;have e0:=ai (H:=H) (a:=l) (o:=HO.lst []);generalize upd H l (HO.lst [])=H0 at s0 e0 ⊢;apply ⟨m,rfl,by omega,by omega,?_⟩;rw [Int.toNat_natCast];refine eW (fun i σ' H'=>∃ (o5 o6:Option V) (xs:List V) (F:List (Int×Fct)) (n:Int) (G:List Key→List Key×Int),σ'=[some (.ref p),some (.ref q),some (.ref ls),some (.int m),some (.ref l),o5,o6]∧aV [p,df,dg] H H'∧H' l=some (.lst xs)∧PwP H' xs F ∧
        cv t.a_ab H' p df dg (cs.length+1) (rs.length+1) F n G∧FOk (vP s cs rs) (cs.length+1) (rs.length+1) F n G∧F.length≤i∧n=(F.length:Int)∧∀ nf∈F,0≤nf.1)
      ⟨none,none,[],[],0,Fm.lone,rfl,s0.butL _,e0,⟨rfl,fun i v nf h1=>by simp at h1⟩,fd.mono s0,FOk.nil,Nat.le_refl _,rfl,fun _ z=>nomatch z⟩ ?_ ?_
    · rintro i σ' H1 hi ⟨o5,o6,xs,F,n,G,rfl,m1,e1,pw,f1,fo,lF,hn,ps⟩
      have pl1:=pl.but m1 os;have hls1:=fm m1 os hls;rw [Int.zero_add];apply bB (.inl ⟨by decide,by decide⟩) ?_;apply aL (SqL.of hls1) (bj (by omega) (by omega)) ?_;apply bB (.inl ⟨by decide,by decide⟩) ?_;apply aL (SqL.of hls1) (bj (by omega) (by omega)) ?_;apply bB (.inl ⟨by decide,by decide⟩) ?_;apply aL (SqL.of hls1) (bj (by omega) (by omega)) ?_;apply ⟨q,_,_,_,s,cs,rs,rfl,pl1,fun a f H2 s2 ha hin htr=>?_⟩;have e2:=s2 _ _ e1;have pw2:=pw.mono s2;have f2:=f1.mono s2;have m2:=m1.trans (s2.butL _);apply ⟨⟨_,SqL.of e2⟩,fun l3 n3=>?_⟩;refine gm (kX H2) (SqL.of e2) (by rw [pw2.1]; omega) n3 (fun x o H' Q' hx s3 q'=>?_) (fun H3 s3 e3=>?_)
      · obtain ⟨b,a',nf,rfl,_,hb,_⟩:=pw2.mem hx
        apply aA (SqT.of (s3 _ _ hb)) (v:=.ref a') rfl ?_;have es:kX H2 (.ref b)=.ref a':=by simp only [kX,hb]
        rw [es] at q';exact q' H' (ao.refl _)
      · have e23:=s3 _ _ e2
        have pw3:=pw2.mono s3;have f3:=f2.mono s3;have ha3:=s3 _ _ ha;have m3:=m2.trans (s3.butL _);apply Bp e3 (pw2.snds.mono s3) ha3 ?_;by_cases hm:f∈F.map (·.2)
        · rw [aM hm]
          left;exact ⟨_,_,xs,F,n,G,rfl,m3,e23,pw3,f3,fo,by omega,hn,ps⟩
        · rw [aO hm]
          apply dF e23 ?_;obtain ⟨dx,fs,hp,fl⟩:=f3.ob;apply bp hp (fl.no _ (by decide +kernel)) ?_;apply ⟨p,a,df,dg,_,_,F,n,G,f,_,rfl,f3,fo,by omega,by omega,by omega,ha3,hin,htr,hm,fun H4 m4 f4 fo4=>?_⟩;have e4:=fm m4 f3.outS e23;have pw4:=pw3.but m4 f3.not;have ha4:=bu m4 f3.not ha3;apply nwT fun b H5 sb nb eb=>?_;apply bX (sb _ _ e4) (by rw [pw.1]; exact aZ (by omega)) ?_;have f5:=f4.mono sb;have nl5:=f5.lst (sb _ _ e4);have mu:aV [l] H5 (upd H5 l (.lst (xs++[.ref b]))):=(aV.refl _ _).upd (by simp);have nt:NoT H5 [l]:=fun x hx ys=>by rw [List.mem_singleton.mp hx,sb _ _ e4]; intro z; cases z
          have m5:=(m3.trans m4).trans (sb.butL _);have np:∀ x,x∈[p,df,dg]→x∉[l]:=fun x hx z=>nl5 (by rw [← List.mem_singleton.mp z]; exact hx);refine ⟨_,_,_,_,_,_,rfl,fun c o ec nc=>?_,ai,((pw4.mono sb).snoc eb (sb _ _ ha4)).but mu nt,f5.but mu nt (np _ (by simp)) (np _ (by simp)) (np _ (by simp)),fo4,by rw [List.length_append]; show F.length+1≤_; omega,by rw [List.length_append,hn]; show _=((F.length+1:Nat):Int); omega,fun nf hm=>(List.mem_append.mp hm).elim (ps nf) fun z=>by rw [List.mem_singleton.mp z,hn]; exact Int.natCast_nonneg _⟩;rw [aw (aE ec nl)]; exact m5 c o ec nc
    · rintro σ' H1 ⟨o5,o6,xs,F,n,G,rfl,m1,e1,pw,f1,fo,lF,hn,ps⟩
      left;exact k l xs F n G H1 m1 nl e1 pw f1 fo lF hn ps
theorem FOk.up {v:List Key→Int} {wd ht:Nat} {F:List (Int×Fct)} {n m:Int} {G:List Key→List Key×Int} (h:FOk v wd ht F n G) (l:n≤m):FOk v wd ht F m G :=
 ⟨h.inw,h.tr,fun nf hm=>by have:=h.lt nf hm; omega,h.nd,h.gr⟩
noncomputable abbrev FSt:=List (Int×Fct)×Int×(List Key→List Key×Int)
open Classical in
noncomputable def stW (wd ht:Nat) (S:FSt) (row:Str):Option FSt:=match Txt.split row " " with
 | a::ws=>(match bI a,fK ws with
  | some k, some f => if S.2.1 ≤ (k : Nat) ∧ f.inW wd ht ∧ f ∉ S.1.map (·.2) ∧ ¬ Clh S.2.2 f then some (S.1 ++ [(((k : Nat) : Int), f)], ((k : Nat) : Int) + 1, Fm.gN S.2.2 f.tie) else none
  | _, _ => none)
 | []=>none
theorem gf {wd ht:Nat} {S S':FSt} {row:Str} (h:stW wd ht S row=some S'):∃ a ws k f,Txt.split row " "=a::ws∧bI a=some k∧fK ws=some f∧S.2.1≤(k:Nat)∧f.inW wd ht∧f∉S.1.map (·.2)∧¬ Clh S.2.2 f ∧
  S'=(S.1++[(((k:Nat):Int),f)],((k:Nat):Int)+1,Fm.gN S.2.2 f.tie):=by
 unfold stW at h
 split at h
 ·next a ws e =>
  split at h
  ·next k f e1 e2 =>
   split at h
   ·next c=>exact ⟨a,ws,k,f,e,e1,e2,c.1,c.2.1,c.2.2.1,c.2.2.2,(Option.some.inj h).symm⟩
   ·cases h
  ·cases h
 ·cases h
theorem zN {wd ht:Nat} {S:FSt} {row a:Str} {ws:List Str} {k:Nat} {f:Fct} (e:Txt.split row " "=a::ws) (e1:bI a=some k) (e2:fK ws=some f) (h1:S.2.1≤(k:Nat)) (h2:f.inW wd ht) (h3:f∉S.1.map (·.2)) (h4:¬ Clh S.2.2 f) :
  stW wd ht S row=some (S.1++[(((k:Nat):Int),f)],((k:Nat):Int)+1,Fm.gN S.2.2 f.tie):=by
 unfold stW;rw [e];dsimp only;rw [e1,e2];dsimp only;rw [if_pos ⟨h1,h2,h3,h4⟩]
theorem fg {wd ht:Nat} {S:FSt} {row:Str} (h:∀ a ws k f,Txt.split row " "=a::ws→bI a=some k→fK ws=some f→S.2.1≤(k:Nat)→f.inW wd ht→f∉S.1.map (·.2)→Clh S.2.2 f):stW wd ht S row=none:=by
 cases q:stW wd ht S row with
 | none=>rfl
 | some S' =>
  obtain ⟨a,ws,k,f,h1,h2,h3,h4,h5,h6,h7,_⟩:=gf q;exact absurd (h a ws k f h1 h2 h3 h4 h5 h6) h7
def SOk (wd ht:Nat) (S:FSt):Prop:=∃ v,FOk v wd ht S.1 S.2.1 S.2.2
theorem SOk.nil (wd ht:Nat):SOk wd ht ([],0,Fm.lone):=⟨fun _=>0,FOk.nil⟩
theorem SOk.step {wd ht:Nat} {S S':FSt} {row:Str} (o:SOk wd ht S) (h:stW wd ht S row=some S'):SOk wd ht S':=by
 obtain ⟨v,o⟩:=o;obtain ⟨a,ws,k,f,_,_,_,h4,h5,_,h7,rfl⟩:=gf h;obtain ⟨v',o'⟩:=(o.up h4).add h5 h7;exact ⟨v',o'⟩
noncomputable def eg (wd ht:Nat):FSt→List Str→Option FSt
 | S,[]=>some S
 | S,r::rs=>(stW wd ht S r).bind fun S'=>eg wd ht S' rs
theorem lM {wd ht:Nat}:∀ {rs:List Str} {S S':FSt},SOk wd ht S→eg wd ht S rs=some S'→SOk wd ht S'
 | [],S,S',o,h=>by cases h; exact o
 | r::rs,S,S',o,h=>by
  unfold eg at h;obtain ⟨S1,h1,h2⟩:=Option.bind_eq_some_iff.mp h;exact lM (o.step h1) h2
theorem AQ {x:Str} {k:Nat} (h:bI x=some k):k<10 ^ 6:=by
 unfold bI at h;by_cases c:cW x=true
 ·rw [if_pos c] at h;obtain ⟨f,l⟩:=pK c;have e:=(gx c).2;have e2:(nT (PySem.NumText.digitsVal x.cps.toList)).cps.toList=(Nat.toDigits 10 (PySem.NumText.digitsVal x.cps.toList)).map Char.toNat:=PySem.W.KIN.signs_num _;have e3:nT (PySem.NumText.digitsVal x.cps.toList)=x:=e;rw [e3] at e2;have l2:x.length=x.cps.toList.length:=(Array.length_toList).symm;rw [e2,List.length_map] at l2
  cases h;exact (Nat.length_toDigits_le_iff (by decide) (by decide)).mp (by rw [← l2]; exact l)
 ·rw [if_neg c] at h; cases h
theorem w6 {f:Fct} {wd ht:Nat} (lw:wd≤40) (lh:ht≤40) (h:f.inW wd ht):fSm f:=by
 cases f with
 | cell x y c =>
  obtain ⟨h1,h2,h3⟩:=h;exact ⟨⟨h1.1,by omega⟩,⟨h2.1,by omega⟩,⟨by omega,by omega⟩⟩
 | line col k s b =>
  cases col
  ·have h:(0≤k∧k<(ht:Int) - 1)∧0≤s∧s<(wd:Int):=h;exact ⟨⟨by omega,by omega⟩,⟨by omega,by omega⟩⟩
  ·have h:(0≤k∧k<(wd:Int) - 1)∧0≤s∧s<(ht:Int):=h;exact ⟨⟨by omega,by omega⟩,⟨by omega,by omega⟩⟩
theorem mQ {wd ht:Nat}:∀ {a b:List Str} {S:FSt},eg wd ht S (a++b)=(eg wd ht S a).bind fun S'=>eg wd ht S' b
 | [],b,S=>rfl
 | r::a,b,S=>by
  show (stW wd ht S r).bind (fun S'=>eg wd ht S' (a++b))=((stW wd ht S r).bind fun S'=>eg wd ht S' a).bind _
  cases stW wd ht S r with
  | none => rfl
  | some S1 => exact mQ (a := a) (b := b)
theorem jP {wd ht:Nat}:∀ {rs:List Str} {S S':FSt},eg wd ht S rs=some S'→S'.1.length=S.1.length+rs.length
 | [],S,S',h=>by cases h; rfl
 | r::rs,S,S',h=>by
  unfold eg at h;obtain ⟨S1,h1,h2⟩:=Option.bind_eq_some_iff.mp h;obtain ⟨_,_,_,_,_,_,_,_,_,_,_,rfl⟩:=gf h1;rw [jP h2,List.length_append,List.length_cons,List.length_cons,List.length_nil];omega
theorem kq {wd ht:Nat} {a:List Str} {r:Str} {S S1:FSt} (h:eg wd ht S a=some S1):eg wd ht S (a++[r])=stW wd ht S1 r:=by
 rw [mQ,h]
 show (stW wd ht S1 r).bind (fun S'=>some S')=_
 cases stW wd ht S1 r<;>rfl
theorem rM {wd ht:Nat} {rs:List Str} {r:Str} {i:Nat} {S S1:FSt} (h:eg wd ht S (rs.take i)=some S1) (hi:rs[i]?=some r) (hn:stW wd ht S1 r=none):eg wd ht S rs=none:=by
 have e:rs=rs.take (i+1)++rs.drop (i+1):=(List.take_append_drop _ _).symm;have t:rs.take (i+1)=rs.take i++[r]:=by rw [List.take_add_one,hi]; rfl
 rw [e,mQ,t,kq h,hn];rfl
open Classical in
noncomputable def gS (x:Str):Option (Nat×Nat×FSt×Nat):=match Txt.split x "\n" with
 | r::rs=>(match hdW r with
  | some (i, j, k) => (match eg i j ([], 0, Fm.lone) rs with
   | some S=>if S.2.1≤(k:Nat) then some (i,j,S,k) else none
   | none=>none)
  | none => none)
 | []=>none
theorem mK {s:Str} (hs:s.length=1):∀ (ps:List Str),ps.length≤(Str.join s ps).length+1
 | []=>Nat.zero_le _
 | [a]=>Nat.le_add_left _ _
 | a::b::r=>by
  have e:(Str.join s (a::b::r)).length=a.length+s.length+(Str.join s (b::r)).length:=by
   show (a++s++Str.join s (b::r)).length=_
   rw [strLen_append,strLen_append]
  have:=mK hs (b::r)
  rw [e,hs,List.length_cons];omega
theorem kY {x s:Str} (hs:s.length=1):(Txt.split x s).length≤x.length+1:=by
 have:=mK hs (Txt.split x s)
 rwa [StrLaws.join_split] at this
end
section
variable {P:Program} {w:World} {K:W.Frag} {mg:Str→Option Value} {base:Heap} {t:Ad}
theorem fR (y:V) (ys:List V):bN (y::ys) (some 1) none=ys:=by
 exact lZ (xs:=y::ys) (k:=1)
theorem iF {wd ht:Nat}:∀ {rs:List Str} {S S':FSt},eg wd ht S rs=some S'→∀ y∈rs,4≤y.length
 | [],S,S',h=>fun _ z=>nomatch z
 | r::rs,S,S',h=>fun y hy=>by
  unfold eg at h;obtain ⟨S1,h1,h2⟩:=Option.bind_eq_some_iff.mp h;rcases List.mem_cons.mp hy with rfl | hy
  ·obtain ⟨a,ws,k,f,e,_,e2,_⟩:=gf h1;have l4:ws.length=4:=Classical.byContradiction fun z=>by rw [pF z] at e2; cases e2
   have:=kY (x:=y) (s:=" ") (by decide +kernel)
   rw [e,List.length_cons,l4] at this;omega
  ·exact iF h2 y hy
theorem qZ {s:Str} (hs:s.length=1):∀ (a:Str) (r:List Str),(Str.join s (a::r)).length+1=a.length+1+(r.map fun y=>y.length+1).sum
 | a,[]=>rfl
 | a,b::r=>by
  have e:(Str.join s (a::b::r)).length=a.length+s.length+(Str.join s (b::r)).length:=by
   show (a++s++Str.join s (b::r)).length=_
   rw [strLen_append,strLen_append]
  have:=qZ hs b r
  rw [e,hs,List.map_cons,List.sum_cons];omega
theorem sf:∀ {r:List Str},(∀ y∈r,4≤y.length)→5*r.length≤(r.map fun y=>y.length+1).sum
 | [],_=>Nat.le_refl _
 | a::r,h=>by
  have:=sf (r:=r) fun y hy=>h y (List.mem_cons_of_mem _ hy)
  have:=h a List.mem_cons_self
  rw [List.map_cons,List.sum_cons,List.length_cons];omega
theorem mT {r:Str} {rs:List Str} {i:Nat} (h:∀ y∈rs.take i,4≤y.length):5*(rs.take i).length≤(Str.join "\n" (r::rs)).length:=by
 have j:=qZ (s:="\n") (by decide +kernel) r rs;have q:=sf h
 have e:(rs.map fun y=>y.length+1).sum=((rs.take i).map fun y=>y.length+1).sum+((rs.drop i).map fun y=>y.length+1).sum:=by
  rw [← List.sum_append,← List.map_append,List.take_append_drop]
 omega
theorem xt {x:Str} {i j k:Nat} (h:hdW x=some (i,j,k)):i≤40∧j≤40:=by
 unfold hdW at h
 split at h
 ·split at h
  ·split at h
   ·split at h
    ·next c=>cases h; exact ⟨c.1.2,c.2.2⟩
    ·cases h
   ·cases h
  ·cases h
 ·cases h
theorem Fct.no_one {NC BB NL NS X:Addr} {wd ht:Int} {f:Fct} (h:f.no NC BB NL NS wd ht=some X):X=NC∨X=BB∨X=NL∨X=NS:=by
  cases f with
  | cell x y c => dsimp only [Fct.no] at h; repeat' split at h
                  all_goals first | (cases h; simp) | cases h
  | line col k s b => dsimp only [Fct.no] at h; repeat' split at h
                      all_goals first | (cases h; simp) | cases h
def nZ (C BT:Addr):Sp:=fun vs H Q E=>∃ x:Str,vs=[.str x]∧Tx x∧x.length≤950∧(gS x=none→∀ H',ao H H'→E (.ref BT) none H') ∧
 ∀ i j S k,gS x=some (i,j,S,k)→∀ p df dg H',ao H H'→cv C H' p df dg i j S.1 (k:Nat) S.2.2→Q (.ref p) H'
theorem okx_at (T:Txt K mg t):aU P w K mg base (CX1 P w) 8 t.f_at t.d_at ["text"] (nZ t.a_ab t.a_aa):=by
 have GX2_Findsnote:=okx_am (P:=P) (w:=w) (base:=base) T;refine T.F_at.ok1 sc_at (by walk_at "l") (fun _ _ _ s H vs Q E hr h=>?_)
 ·obtain ⟨x,rfl,tx,lx,k1,k2⟩:=h;refine aH (aF 1 sc_at.nd (cy PySem.F.plainAttrs_str PySem.F.slot_str_split PySem.F.type_str_split d8 (pv 0) (aa aj ag))) fun _ _=>aH (aF 2 sc_at.nd (aB (okx_aC T) (rmo hr) rfl T.mg_aC T.F_aC.kp T.b_aC .nil dk (aa (au (az K rfl) (pv 1) ae) ag))) fun _ _=>aH (aF 3 sc_at.nd (au (ay K rfl) (pv 2) ae)) fun _ _=>aH (dR PassesOwn.leaving rfl (cO (aY (bE K rfl) (pv 1) (bA ae) bz)) (aP (i:=4) sc_at.nd rfl (Or.inl rfl)) (aK (aF 5 sc_at.nd (cy PySem.F.plainAttrs_str PySem.F.slot_str_split PySem.F.type_str_split d8 (pv 4) (aa aj ag))) (aK (aF 6 sc_at.nd (aB (okx_ae T) (rmo hr) rfl T.mg_ae T.F_ae.kp T.b_ae .nil dk (aa (au (az K rfl) (pv 5) ae) ag))) (aK (aF 7 sc_at.nd (aB (okx_aI T) (rmo hr) rfl T.mg_aI T.F_aI.kp T.b_aI .nil dk (aa (aY (bE K rfl) (pv 5) (bA ae) bz) ag))) (aK (bG (aB (okx_al T) (rmo hr) rfl T.mg_al T.F_al.kp T.b_al .nil dk (aa (pv 6) (aa (bQ (pv 3) T.cl_ab T.m_ac (ok_ac T).up (rmo hr) T.b_ac .nil dk) ag)))) (aK (bG (iE (pv 3) T.cl_ab T.m_af (ok_af T).up (rmo hr) T.b_af .nil dk (aa (pv 6) ag))) (ak (rE (i:=8) sc_at.nd rfl rfl rfl T.mg_aJ (fun _ _=>(ak (bG (yn (pv 3) T.cl_ab T.m_am GX2_Findsnote (rmo hr) T.b_am .nil yb (aa (pv 7) ag))))) rfl T.mg_aa T.x_aa PySem.F.excBase_ValueError PySem.F.excBase_ValueError (fun _=>(aa aj ag)) (fun _ _ _ h=>h _) (fun _ _ _ _ _ _ _ _ _ _ I a b c d e f g h i j k l m=>vg I a b c d e f g h i j k l m))))))))) fun _ _=>aH (bG (aB (okx_al T) (rmo hr) rfl T.mg_al T.F_al.kp T.b_al .nil dk (aa (au (ay K rfl) (pv 2) ae) (aa (bQ (pv 3) T.cl_ab T.m_ac (ok_ac T).up (rmo hr) T.b_ac .nil dk) ag)))) fun _ _=>aH (bG (iE (pv 3) T.cl_ab T.m_af (ok_af T).up (rmo hr) T.b_af .nil dk (aa (au (ay K rfl) (pv 2) ae) ag))) fun _ _=>cS (aJ (pv 3)) fun _ _=>?_;have bad:gS x=none→∀ H',ao H H'→E (.ref t.a_aa) none H':=k1;apply ⟨rfl,?_⟩;apply ⟨x,"\n",rfl,rfl,by decide +kernel,by have:=tx.1; omega,fun l1 n1=>?_⟩;have s1:=ao.new (o:=HO.lst ((Txt.split x "\n").map V.str)) n1;have e1:=ai (H:=H) (a:=l1) (o:=HO.lst ((Txt.split x "\n").map V.str));generalize upd H l1 (HO.lst ((Txt.split x "\n").map V.str))=H1 at s1 e1 ⊢;have cnt:=kY (x:=x) (s:="\n") (by decide +kernel);have wds:∀ y∈Txt.split x "\n",Tx y:=fun y hy=>tx.word (y:="\n") hy;have ne:=fc x "\n";have jn:=StrLaws.join_split x "\n";unfold gS at k1 k2 bad;generalize Txt.split x "\n"=rows at ne jn e1 cnt wds k1 k2 bad
  cases rows with
  | nil => exact absurd rfl ne
  | cons r rs =>
   dsimp only at k1 k2 bad;apply aL (SqL.of e1) (v:=.str r) (show atI _ ((0:Nat):Int)=_ from cZ rfl) ?_;apply ⟨r,rfl,wds r (by simp),fun hb H2 s2=>bad (by rw [hb]) _ (s1.trans s2),fun wd ht nx hd tp p df dg H2 s2 np ndf ndg htp fd=>?_⟩;rw [hd] at k1 k2 bad;dsimp only at k1 k2 bad;apply aA (SqT.of htp) (v:=.ref p) rfl ?_;apply jc (s2 _ _ e1) fun l3 H3 s3 n3 e3=>?_;have s13:=s1.trans (s2.trans s3);have cut1:bN ((r::rs).map V.str) (some 1) none=rs.map V.str:=fR _ _;rw [cut1] at e3;refine ⟨l3,rfl,⟨_,SqL.of e3⟩,?_⟩;refine dN (xs:=rs.map V.str) (fun i σ' H'=>∃ (o4 o5 o6 o7:Option V) (S:FSt),σ'=[some (.str x),some (.ref l1),some (.ref tp),some (.ref p),o4,o5,o6,o7,none]∧ao H H'∧H' l3=some (.lst (rs.map V.str))∧H' tp=some (.tup [.ref p,.int ((nx:Nat):Int)]) ∧
    cv t.a_ab H' p df dg wd ht S.1 S.2.1 S.2.2∧eg wd ht ([],0,Fm.lone) (rs.take i)=some S)
    ⟨none,none,none,none,([],0,Fm.lone),rfl,s13,e3,s3 _ _ htp,fd.mono s3,rfl⟩ (fun i σ' H' _ ⟨_,_,_,_,_,_,_,e,_⟩=>SqL.of e) ?_ ?_
   ·rintro i v σ' H4 hv ⟨o4,o5,o6,o7,S,rfl,s4,e4,ht4,fd4,hS⟩;rw [List.getElem?_map] at hv;obtain ⟨row,hrow,rfl⟩:=Option.map_eq_some_iff.mp hv;have tr:Tx row:=wds row (by simp [List.mem_of_getElem? hrow]);have so:SOk wd ht S:=lM (SOk.nil wd ht) hS;have lS:=jP hS;have no:stW wd ht S row=none→∀ H',ao H H'→E (.ref t.a_aa) none H':=fun z=>bad (by rw [rM hS hrow z]);apply ⟨rfl,?_⟩;apply ⟨row," ",rfl,rfl,by decide +kernel,by have:=tr.1; omega,fun l5 n5=>?_⟩;have s5:=ao.new (o:=HO.lst ((Txt.split row " ").map V.str)) n5;have e5:=ai (H:=H4) (a:=l5) (o:=HO.lst ((Txt.split row " ").map V.str));generalize upd H4 l5 (HO.lst ((Txt.split row " ").map V.str))=H5 at s5 e5 ⊢;have s45:=s4.trans s5;obtain ⟨wa,ws,hw⟩:∃ a ws,Txt.split row " "=a::ws:=by
     cases q:Txt.split row " " with
     | nil=>exact absurd q (fc _ _)
     | cons a ws=>exact ⟨a,ws,rfl⟩
    have twd:∀ y∈wa::ws,Tx y:=fun y hy=>tr.word (y:=" ") (by rw [hw]; exact hy);rw [hw] at e5;apply aL (SqL.of e5) (v:=.str wa) (show atI _ ((0:Nat):Int)=_ from cZ rfl) ?_;apply ⟨wa,rfl,twd wa (by simp),fun hb H6 s6=>no (fg fun a' ws' k' f' q1 q2=>?_) _ (s45.trans s6),fun hb H6 s6=>?_⟩
    ·rw [hw] at q1; cases q1; rw [gX hb] at q2; cases q2
    have nk:=gY hb;generalize PySem.NumText.digitsVal wa.cps.toList=nk0 at nk ⊢;apply jc (s6 _ _ e5) fun l7 H7 s7 n7 e7=>?_;rw [show bN ((wa::ws).map V.str) (some 1) none=ws.map V.str from fR _ _] at e7;have s47:=s45.trans (s6.trans s7);apply ⟨l7,ws,rfl,e7,fun y hy=>twd y (by simp [hy]),fun hf H8 s8=>no (fg fun a' ws' k' f' q1 q2 q3=>?_) _ (s47.trans s8),fun f hf af H8 s8 haf=>?_⟩
    ·rw [hw] at q1; cases q1; rw [hf] at q3; cases q3
    have s48:=s5.trans (s6.trans (s7.trans s8));have fd8:=fd4.mono s48;obtain ⟨dx,fs,hp8,fl8⟩:=fd8.ob;apply bp hp8 (fl8.no _ (by decide +kernel)) ?_;apply ⟨p,df,dg,wd,ht,_,_,_,rfl,fd8,?_⟩;apply ⟨((nk0:Nat):Int),S.2.1,rfl,fun lt=>no (fg fun a' ws' k' f' q1 q2 q3 q4=>?_) _ (s4.trans s48),fun le=>?_⟩
    ·rw [hw] at q1; cases q1; rw [nk] at q2; cases q2; omega
    apply bp hp8 (fl8.no _ (by decide +kernel)) ?_;apply ⟨p,df,dg,wd,ht,_,_,_,_,rfl,fd8,fun H9 m9 fd9=>?_⟩;left;have out:∀ {b:Addr} {o:HO},H b=some o→b≠p:=fun e=>aE (s1 _ _ e) np;have out1:∀ {b:Addr},b∈[p,df,dg]→H1 b=none:=fun hb=>by
     symm at hb;rcases hb with rfl | rfl | rfl<;>assumption
    have s49:ao H H9:=fun b o e=>m9 b o ((s4.trans s48) _ _ e) (by rw [List.mem_singleton]; exact out e);have nt8:NoT H8 [p]:=fun y hy=>fd8.not y (by rw [List.mem_singleton.mp hy]; simp);have haf9:=bu m9 nt8 haf;obtain ⟨v,fo⟩:=so;have le40:=xt hd;obtain ⟨dx9,fs9,hp9,fl9⟩:=fd9.ob;refine rL ?_;apply bp hp9 (fl9.no _ (by decide +kernel)) ?_;apply ⟨p,af,df,dg,wd,ht,S.1,((nk0:Nat):Int),S.2.2,f,v,rfl,fd9,fo.up le,le40.1,le40.2,by rw [lS]; show 0+_≤400; have:=mT (r:=r) (i:=i) (iF hS); rw [jn] at this; omega,haf9,fun X hX H10 s10=>?_,fun hi hm H10 s10=>?_,fun hi hm cl d r' xs H10 s10 _ _ _ _=>?_,fun hi hm ncl H10 m10 f10=>?_⟩
    ·have ni:¬ f.inW wd ht:=fun z=>by rw [Fct.no_iff.mpr z] at hX; cases hX
     have q:E (.ref t.a_aa) none H10:=no (fg fun a' ws' k' f' q1 q2 q3 q4 q5=>by rw [hw] at q1; cases q1; rw [hf] at q3; cases q3; exact absurd q5 ni) _ (s49.trans s10);rcases Fct.no_one hX with rfl | rfl | rfl | rfl
     ·exact ⟨_,rfl,T.cat_aT,.inl T.x_aT,q⟩
     ·exact ⟨_,rfl,T.cat_aU,.inl T.x_aU,q⟩
     ·exact ⟨_,rfl,T.cat_aN,.inl T.x_aN,q⟩
     ·exact ⟨_,rfl,T.cat_aV,.inl T.x_aV,q⟩
    ·exact ⟨_,rfl,T.cat_a5,.inl T.x_a5,no (fg fun a' ws' k' f' q1 q2 q3 q4 q5 q6=>by rw [hw] at q1; cases q1; rw [hf] at q3; cases q3; exact absurd hm q6) _ (s49.trans s10)⟩
    ·exact ⟨_,rfl,T.cat_ay,.inr T.mx_ay.ei,no (fg fun a' ws' k' f' q1 q2 q3 q4 q5 q6=>by rw [hw] at q1; cases q1; rw [hf] at q3; cases q3; exact cl) _ (s49.trans s10)⟩
    ·left;have st:=zN (S:=S) (wd:=wd) (ht:=ht) hw nk hf le hi hm ncl;have tk:rs.take (i+1)=rs.take i++[row]:=by rw [List.take_add_one,hrow]; rfl
     have e8:=s48 _ _ e4;have e9:H9 l3=some (.lst (rs.map V.str)):=m9 _ _ e8 (fun z=>fd8.lst e8 (by rw [List.mem_singleton.mp z]; simp));have t9:=bu m9 nt8 (s48 _ _ ht4);exact ⟨_,_,_,_,_,rfl,fun b o e=>m10 b o (s49 _ _ e) (fun z=>by have:=out1 z; rw [s1 _ _ e] at this; cases this),m10 _ _ e9 (fd9.lst e9),bu m10 fd9.not t9,f10,by rw [tk,kq hS]; exact st⟩
   ·rintro σ' H4 ⟨o4,o5,o6,o7,S,rfl,s4,e4,ht4,fd4,hS⟩;rw [List.length_map,List.take_length] at hS;rw [hS] at k1 k2 bad;dsimp only at k1 k2 bad;have out:∀ {b:Addr} {o:HO},H b=some o→b≠p:=fun e=>aE (s1 _ _ e) np;obtain ⟨dx,fs,hp4,fl4⟩:=fd4.ob;apply aA (SqT.of ht4) (v:=.int ((nx:Nat):Int)) rfl ?_;apply bp hp4 (fl4.no _ (by decide +kernel)) ?_;apply ⟨p,df,dg,wd,ht,_,_,_,rfl,fd4,?_⟩;apply ⟨((nx:Nat):Int),S.2.1,rfl,fun lt=>bad (if_neg (by omega)) _ s4,fun le=>?_⟩;apply bp hp4 (fl4.no _ (by decide +kernel)) ?_;apply aA (SqT.of ht4) (v:=.int ((nx:Nat):Int)) rfl ?_;apply ⟨p,df,dg,wd,ht,_,_,_,_,rfl,fd4,fun H5 m5 f5=>?_⟩;left;exact k2 _ _ _ _ (if_pos le) p df dg H5 (fun b o e=>m5 b o (s4 _ _ e) (by rw [List.mem_singleton]; exact out e)) f5
def sp_ad (C:Addr):Sp:=fun vs H Q _=>∃ (p df dg:Addr) (wd ht:Nat) (F:List (Int×Fct)) (n j:Int) (G:List Key→List Key×Int) (v:List Key→Int),vs=[.ref p,.int j]∧cv C H p df dg wd ht F n G∧FOk v wd ht F n G∧wd≤40∧ht≤40∧j∈F.map (·.1) ∧
 ∀ dg' G' H',aV [p,df,dg] H H'→H dg'=none→cv C H' p df dg' wd ht (iN F j) n G'→FOk v wd ht (iN F j) n G'→Q .non H'
theorem ok_ad (T:Txt K mg t):aU P w K mg base CX0 5 t.f_ad t.d_ad ["self","number"] (sp_ad t.a_ab) :=
 (okx_ad T).down fun vs H Q E hh=>by
  obtain ⟨p,df,dg,wd,ht,F,n,j,G,v,e,fd,fo,lw,lh,hj,k⟩:=hh;exact ⟨p,df,dg,wd,ht,F,n,j,G,e,fd,lw,lh,fo.inw,fun z=>absurd hj z,fun _ dg' H' m nd f=>k dg' _ H' m nd f (fo.out j)⟩
end
section
variable {K:W.Frag} {σ:L2.St} {H:Hp} {Q:VK} {te:TE} {tt:TT} {cap:List (Option Nat)} {l:Addr}
theorem qJ {a:Addr} {xs:List V} (F:V→V) (p:V→Bool) (hs:SqL K H a xs) (hz:xs.length≤5000) (hl:H l=none)
    (test:∀ x o H' (Q':Bool→Hp→Prop),x∈xs→ao H H'→(∀ H5,ao H' H5→Q' (p x) H5)→tt (((gk (none::cap) σ).set 0 o).set 0 (some x)) H' Q')
    (step:∀ x o H' (Q':VK),x∈xs→p x=true→ao H H'→(∀ H5,ao H' H5→Q' (F x) H5)→te (((gk (none::cap) σ).set 0 o).set 0 (some x)) H' Q')
    (fin:∀ H',ao H H'→H' l=some (.lst ((xs.filter p).map F))→Q (.ref l) H'):js (Itl K a) (d7 0) tt te (none::cap) l σ H Q:=by
  refine ⟨xs.length,fun i ys σ' H'=>ys=((xs.take i).filter p).map F∧(∃ o,σ'=(gk (none::cap) σ).set 0 o)∧ao H H'∧H' l=some (.lst ys),⟨rfl,⟨none,rfl⟩,ao.new hl,ai⟩,?_,?_⟩
  · rintro i ys σ' H' hi ⟨rfl,⟨o,rfl⟩,s,e⟩
    refine ⟨⟨xs,xs[i],s.seq hs,by simp [hi]⟩,fun x H2 y=>?_⟩;obtain ⟨e2,y⟩:=y;subst e2;have hx:=y xs (s.seq hs)
    have tk:((xs.take (i+1)).filter p).map F=((xs.take i).filter p).map F++(if p x=true then [F x] else []):=by
      rw [List.take_add_one,hx,List.filter_append,List.map_append]
      congr 1
      cases hp:p x<;>simp [hp]
    refine c8 (test x o H2 _ (List.mem_of_getElem? hx) s fun H5 s5=>?_);by_cases hp:p x=true
    · rw [if_pos hp]
      rw [if_pos hp] at tk;refine step x o H5 _ (List.mem_of_getElem? hx) hp (s.trans s5) fun H6 s6=>⟨s6 _ _ (s5 _ _ e),?_,?_⟩
      · have:(((xs.take i).filter p).map F).length≤xs.length:=by
          rw [List.length_map];exact Nat.le_trans (List.length_filter_le _ _) (by rw [List.length_take]; omega)
        exact Nat.lt_of_le_of_lt (Nat.le_trans this hz) (by decide)
      · exact ⟨tk.symm,⟨_,List.set_set ..⟩,((s.trans s5).trans s6).later hl,ai⟩
    · rw [if_neg hp]
      rw [if_neg hp,List.append_nil] at tk;exact ⟨tk.symm,⟨_,List.set_set ..⟩,s.trans s5,s5 _ _ e⟩
  · rintro ys σ' H' ⟨rfl,_,s,e⟩
    rw [List.take_of_length_le (Nat.le_refl _)] at e;exact ⟨⟨xs,s.seq hs,Nat.le_refl _⟩,fin H' s e⟩
end
section
variable {P:Program} {w:World} {K:W.Frag} {mg:Str→Option Value} {base:Heap} {t:Ad}
def sp_ar (C:Addr):Sp:=fun vs H Q _=>∃ (p dx:Addr) (wd ht:Nat),vs=[.ref p,.int wd,.int ht]∧H p=some (.ins C dx [])∧(1≤wd∧wd≤40)∧(1≤ht∧ht≤40) ∧
 ∀ df dg H',aV [p] H H'→H df=none→H dg=none→cv C H' p df dg wd ht [] 0 Fm.lone→Q .non H'
theorem ok_ar (T:Txt K mg t):aU P w K mg base CX0 4 t.f_ar t.d_ar ["self","wide","tall"] (sp_ar t.a_ab) :=
 (okx_ar T).one.down fun vs H Q E hh=>by
  obtain ⟨p,dx,wd,ht,e,hp,hw,hh',k⟩:=hh;have s1:cu ((wd:Nat):Int)=true:=by unfold cu; rw [aM (by omega),aM (by omega)]; rfl
  have s2:cu ((ht:Nat):Int)=true:=by unfold cu; rw [aM (by omega),aM (by omega)]; rfl
  refine ⟨p,dx,wd,ht,e,hp,fun z=>(by rw [s1,s2] at z; cases z),fun _ df dg H' m n1 n2 f=>?_⟩;rw [Int.toNat_natCast,Int.toNat_natCast] at f;exact k df dg H' m n1 n2 f
noncomputable def fZ (nf:Int×Fct):PyData:=.tuple [.int nf.1,nf.2.dat]
theorem mS {H:Hp} {b a:Addr} {nf:Int×Fct} (hb:H b=some (.tup [.int nf.1,.ref a])) (ha:H a=some (.tup nf.2.vs)):Rep H (fZ nf) (.ref b):=by
 have:=Fct.rep ha
 unfold fZ;simp only [Rep,RepL];exact ⟨b,_,rfl,hb,_,_,rfl,rfl,_,_,rfl,this,rfl⟩
theorem Fct.dep (f:Fct):f.dat.depth=1:=by cases f<;>simp only [Fct.dat,PyData.depth,PyData.depthAll]<;>decide
theorem mR (nf:Int×Fct):(fZ nf).canLay0=true∧(fZ nf).depth=2:=by
 constructor
 ·unfold fZ; simp only [PyData.canLay0,PyData.canLayAll0,nf.2.lay.1]; decide
 ·unfold fZ; simp only [PyData.depth,PyData.depthAll,nf.2.dep]; decide
theorem rO (nf:Int×Fct):SeqAt.shaped (fZ nf)=true:=by
 unfold SeqAt.shaped;rw [(mR nf).1,(mR nf).2]; decide
theorem zw (a b:Int×Fct):PyData.eqv (fZ a) (fZ b)=decide (a=b):=by
 obtain ⟨i,f⟩:=a;obtain ⟨j,g⟩:=b;unfold fZ;simp only [PyData.eqv,PyData.eqvAll,Fct.eqv,Bool.and_true];by_cases h1:i=j<;>by_cases h2:f=g<;>simp [h1,h2]
theorem oS {H:Hp}:∀ {xs:List V} {F:List (Int×Fct)},PwP H xs F→RepL H (F.map fZ) xs
 | [],[],_=>by simp only [List.map_nil,RepL]
 | [],_::_,h=>by have:=h.1; simp at this
 | _::_,[],h=>by have:=h.1; simp at this
 | x::xs,f::fs,h=>by
  simp only [List.map_cons,RepL];obtain ⟨b,a,rfl,hb,ha⟩:=h.2 0 x f rfl rfl;refine ⟨_,_,rfl,mS hb ha,oS ⟨?_,fun i v g h1 h2=>h.2 (i+1) v g (by simpa using h1) (by simpa using h2)⟩⟩;have:=h.1
  simpa using this
theorem rP:∀ F:List (Int×Fct),PyData.canLayAll0 (F.map fZ)=true∧PyData.depthAll (F.map fZ)≤3
 | []=>⟨rfl,Nat.zero_le _⟩
 | f::F=>by
  have h1:=mR f;have h2:=rP F;rw [List.map_cons];exact ⟨by rw [PyData.canLayAll0,h1.1,h2.1]; rfl,by rw [PyData.depthAll]; omega⟩
theorem zx (F:List (Int×Fct)):SeqAt.shaped (.list (F.map fZ))=true:=by
 have h:=rP F;unfold SeqAt.shaped;rw [Bool.and_eq_true];refine ⟨h.1,aM ?_⟩;rw [PyData.depth]; omega
theorem rQ {H:Hp} {lf:Addr} {xs:List V} {F:List (Int×Fct)} (hl:H lf=some (.lst xs)) (h:PwP H xs F):Rep H (.list (F.map fZ)) (.ref lf):=by
 simp only [Rep];exact ⟨lf,xs,rfl,hl,oS h⟩
theorem AN {H:Hp} {l:Addr} (hl:H l=some (.lst [])):Rep H (.list []) (.ref l):=by
 simp only [Rep,RepL];exact ⟨l,[],rfl,hl,rfl⟩
theorem zh {H:Hp} {Q:VK} {lf l:Addr} {xs:List V} {F:List (Int×Fct)} (hl:H lf=some (.lst xs)) (h:PwP H xs F) (hn:H l=some (.lst [])) (q:Q (.bl (!decide (F=[]))) H):yz true (.ref lf) (.ref l) H Q :=
 ⟨_,_,rQ hl h,AN hn,zx F,by decide,by
  rw [if_pos rfl];have:PyData.eqv (.list (F.map fZ)) (.list [])=decide (F=[]):=by cases F<;>rfl
  rw [this]; exact q⟩
theorem zj {H:Hp} {Q:VK} {b b' a a':Addr} {nf nf':Int×Fct} (hb:H b=some (.tup [.int nf.1,.ref a])) (ha:H a=some (.tup nf.2.vs)) (hb':H b'=some (.tup [.int nf'.1,.ref a'])) (ha':H a'=some (.tup nf'.2.vs)) (q:Q (.bl (!decide (nf=nf'))) H):yz true (.ref b) (.ref b') H Q :=
 ⟨_,_,mS hb ha,mS hb' ha',rO nf,rO nf',by rw [if_pos rfl,zw]; exact q⟩
theorem PwP.filter {H:Hp} {p:V→Bool} {g:Int×Fct→Bool}:∀ {xs:List V} {F:List (Int×Fct)},PwP H xs F→(∀ (i:Nat) x nf,xs[i]?=some x→F[i]?=some nf→p x=g nf)→PwP H (xs.filter p) (F.filter g)
 | [],[],_,_=>⟨rfl,fun i v nf h1=>by simp at h1⟩
 | [],_::_,h,_=>by have:=h.1; simp at this
 | _::_,[],h,_=>by have:=h.1; simp at this
 | x::xs,nf::F,h,hp=>by
  have h0:=hp 0 x nf rfl rfl;have e0:=h.2 0 x nf rfl rfl;have ht:PwP H xs F:=⟨by have:=h.1; simpa using this,fun i v g h1 h2=>h.2 (i+1) v g (by simpa using h1) (by simpa using h2)⟩
  have ih:=PwP.filter (p:=p) (g:=g) ht fun i x nf h1 h2=>hp (i+1) x nf (by simpa using h1) (by simpa using h2);rw [List.filter_cons,List.filter_cons,h0];by_cases c:g nf=true
  ·rw [if_pos c,if_pos c];refine ⟨by rw [List.length_cons,List.length_cons,ih.1],fun i v nf' h1 h2=>?_⟩
   cases i with
   | zero =>
    simp only [List.getElem?_cons_zero,Option.some.injEq] at h1 h2;subst h1 h2;exact e0
   | succ i=>simp only [List.getElem?_cons_succ] at h1 h2; exact ih.2 i v nf' h1 h2
  ·rw [if_neg c,if_neg c]; exact ih
theorem AV {F:List (Int×Fct)} (nd:(F.map (·.1)).Nodup) {nf:Int×Fct} (h:nf∈F):F.filter (fun g=>!decide (g=nf))=iN F nf.1:=by
 unfold iN;refine List.filter_congr fun g hg=>?_;rw [Bool.eq_iff_iff,Bool.not_eq_true',decide_eq_false_iff_not,decide_eq_true_eq];refine not_congr ⟨fun z=>by rw [z],fun z=>?_⟩;obtain ⟨i,hi,rfl⟩:=List.mem_iff_getElem.mp hg;obtain ⟨j,hj,rfl⟩:=List.mem_iff_getElem.mp h;have:i=j:=by
  have:=(List.getElem_inj (xs:=F.map (·.1)) (i:=i) (j:=j) (h₀:=by simpa using hi) (h₁:=by simpa using hj) nd).mp (by simpa using z)
  exact this
 subst this; rfl
noncomputable def uB (H:Hp):V→V
 | .ref b=>match H b with
  | some (.tup [x, _]) => x
  | _ => .non
 | _=>.non
def sp_aW (C:Addr):Sp:=fun vs H Q _=>∃ (p q ls df dg:Addr) (zs:List Int) (s:Int) (cs rs:List Int),vs=[.ref p,.ref q,.ref ls]∧eC true H q s cs rs∧cv C H p df dg (cs.length+1) (rs.length+1) [] 0 Fm.lone∧H ls=some (.lst (zs.map V.int))∧69≤zs.length ∧
 ∀ l dg' F n G H',aV [p,df,dg] H H'→cv C H' p df dg' (cs.length+1) (rs.length+1) F n G→FOk (vP s cs rs) (cs.length+1) (rs.length+1) F n G→F.length≤14→0≤n→n≤14→(∀ nf∈F,0≤nf.1)→Q (.ref l) H'
theorem ok_aW (T:Txt K mg t):aU P w K mg base CX0 8 t.f_aW t.d_aW ["_law_finds","_law_plan","_law_some"] (sp_aW t.a_ab):=by
  refine T.F_aW.ok sc_aW (fun vs H Q E h=>?_) (fun cdv A outer s H vs Q E hr h=>?_)
  · obtain ⟨p,q,ls,df,dg,zs,s,cs,rs,rfl,_⟩:=h; rfl
  · obtain ⟨p,q,ls,df,dg,zs,s,cs,rs,rfl,pl,fd,hls,lz,k⟩:=h
    have lc:=pl.bc.1;have lr:=pl.br.1;have os:=fd.outS;refine aH (aF 3 sc_aW.nd (aB (ok_aO T) (rmo hr) rfl T.mg_aO T.F_aO.kp T.b_aO .nil bo (aa (pv 0) (aa (pv 1) (aa (aY (bE K rfl) (pv 2) (bA ae) bz) (aa (av aR (au (az K rfl) (pv 2) ae) ae) ag)))))) fun _ _=>aH (dR PassesOwn.never rfl (dQ rfl T.no_a8 (aa (av aR (au (az K rfl) (pv 2) ae) ae) ag)) (aP (i:=4) sc_aW.nd rfl (Or.inl rfl)) (ak (aW (aT (x9 hr.units) (pv 3) (bP ag)) (aK (jb (i:=5) sc_aW.nd rfl (Or.inr rfl) (au (az K rfl) (pv 3) (av aR (au (az K rfl) (pv 2) (av bf ae (pv 4))) (aC (cn K rfl) rfl T.no_len (by rfl) (aa (pv 3) ag))))) (aK (bG (iE (pv 0) T.cl_ab T.m_ad (ok_ad T) (rmo hr) T.b_ad .nil bo (aa (au (ay K rfl) (pv 5) ae) ag))) (ak (uS (i:=3) sc_aW.nd rfl (Or.inl rfl) (N:=["_law_one","_law_row_here"]) (cap:=[none,some 5]) rfl ⟨rfl,rfl,rfl,rfl,rfl,rfl⟩ (cO (pv 3)) (fun _ _ _=>(aP (i:=0) (show (["_law_one","_law_row_here"]:List Str).Nodup by decide +kernel) rfl (Or.inl rfl))) (fun _ _ _=>(A2 (aT (x9 hr.units) (pv 0) (pv 1)))) (fun _ _ _=>(pv 0)) (by rfl))))) aI))) fun _ _=>cS (aJ (pv 3)) fun _ _=>?_;apply jc hls fun lh H1 s1 _ e1=>?_;have e1:H1 lh=some (.lst ((zs.drop 20).map V.int)):=e1.trans (congrArg (fun x=>some (HO.lst x)) (iy (k:=20)));apply aL (SqL.of (s1 _ _ hls)) (bj (i:=12) (by decide) (by omega)) ?_;generalize zs.getD (12:Int).toNat 0=z12;apply bB (by decide) ?_;obtain ⟨m,em,hm⟩:∃ m:Nat,z12%15=(m:Int)∧m<15:=⟨(z12%15).toNat,by omega,by omega⟩
    rw [em];apply ⟨p,q,lh,df,dg,m,zs.drop 20,s,cs,rs,rfl,pl.mono s1,fd.mono s1,e1,by omega,by rw [List.length_drop]; omega,fun lf0 xs0 F0 n0 G0 H2 m2 nlf e2 pw2 f2 fo2 lF0 hn0 ps0=>?_⟩;have hls2:=fm m2 (fd.mono s1).outS (s1 _ _ hls);have m02:aV [p,df,dg] H H2:=(s1.butL _).trans m2;apply aL (SqL.of hls2) (bj (i:=13) (by decide) (by omega)) ?_;generalize zs.getD (13:Int).toNat 0=z13;apply bB (by decide) ?_;apply ⟨_,rfl,by omega,by omega,?_⟩;refine eW (fun i σ' H'=>∃ (o4 o5:Option V) (lf dg':Addr) (xs:List V) (F:List (Int×Fct)) (G:List Key→List Key×Int),σ'=[some (.ref p),some (.ref q),some (.ref ls),some (.ref lf),o4,o5]∧aV [p,df,dg] H H'∧(dg'=dg∨H dg'=none)∧H' ls=some (.lst (zs.map V.int))∧H' lf=some (.lst xs)∧PwP H' xs F ∧
        cv t.a_ab H' p df dg' (cs.length+1) (rs.length+1) F n0 G∧FOk (vP s cs rs) (cs.length+1) (rs.length+1) F n0 G∧F.length≤14∧∀ nf∈F,0≤nf.1)
      ⟨none,none,lf0,dg,xs0,F0,G0,rfl,m02,.inl rfl,hls2,e2,pw2,f2,fo2,by omega,ps0⟩ ?_ ?_
    · rintro i σ' H11 hi ⟨o4,o5,lf,dg',xs,F,G,rfl,m11,hdg,es11,e11,pw11,f11,fo11,lF11,ps⟩
      rw [Int.zero_add];apply ⟨Nat.zero_le _,fun l12 n12=>?_⟩;have s12:=ao.new (o:=HO.lst []) n12;have e12:=ai (H:=H11) (a:=l12) (o:=HO.lst []);generalize upd H11 l12 (HO.lst [])=H12 at s12 e12 ⊢;have m12:=m11.trans (s12.butL _);have es12:=s12 _ _ es11;have el12:=s12 _ _ e11;have pw12:=pw11.mono s12;have f12:=f11.mono s12;apply zh el12 pw12 e12 ?_;by_cases hF:F=[]
      · rw [aM hF]
        left;exact ⟨_,_,lf,dg',xs,F,G,rfl,m12,hdg,es12,el12,pw12,f12,fo11,lF11,ps⟩
      · rw [aO hF]
        have lp:0<F.length:=List.length_pos_iff.mpr hF;apply aL (SqL.of es12) (bj (i:=64+((i:Nat):Int)) (by omega) (by omega)) ?_;apply b9 el12 ?_;left;have lx:=pw12.1;refine bB (show (0:Int)<(xs.length:Nat) by omega) ?_;generalize zs.getD (64+((i:Nat):Int)).toNat 0=zi;have q0:=Int.emod_nonneg zi (show ((xs.length:Nat):Int)≠0 by omega);have q1:=Int.emod_lt_of_pos zi (show (0:Int)<(xs.length:Nat) by omega);obtain ⟨ix,hix,ixl⟩:∃ ix:Nat,zi%((xs.length:Nat):Int)=ix∧ix<xs.length:=⟨(zi%((xs.length:Nat):Int)).toNat,by omega,by omega⟩
        rw [hix];obtain ⟨u,hu⟩:∃ u,xs[ix]?=some u:=⟨_,List.getElem?_eq_getElem ixl⟩
        have ixF:ix<F.length:=by omega
        obtain ⟨b,fa,rfl,hb,hfa⟩:=pw12.2 ix u _ hu (List.getElem?_eq_getElem ixF);have nfm:F[ix]∈F:=List.getElem_mem ixF;generalize F[ix]=nf at hb hfa nfm;apply aL (SqL.of el12) (cZ hu) ?_;left;obtain ⟨dx',fs,hp,fl⟩:=f12.ob;refine bp hp (fl.no _ (by decide +kernel)) ?_;apply aA (SqT.of hb) (v:=.int nf.1) rfl ?_;apply ⟨p,df,dg',_,_,F,n0,nf.1,G,_,rfl,f12,fo11,by omega,by omega,List.mem_map.mpr ⟨nf,nfm,rfl⟩,fun dgn G' H13 m13 nd13 f13 fo13=>?_⟩;have os:=f12.outS;have es13:=fm m13 os es12;have el13:=fm m13 os el12;have pw13:=pw12.but m13 os.noT;have hb13:=bu m13 os.noT hb;have hfa13:=bu m13 os.noT hfa;have mm:aV [p,df,dg] H H13:=fun c o ec nc=>m13 c o (m12 c o ec nc) fun z=>by
          simp only [List.mem_cons,List.not_mem_nil,or_false] at z nc;rcases z with z | z | z
          · exact nc (.inl z)
          · exact nc (.inr (.inl z))
          · rcases hdg with y | y
            · exact nc (.inr (.inr (z.trans y)))
            · rw [z,y] at ec; cases ec
        have ndn:dgn=dg∨H dgn=none:=by
          cases qd:H dgn with
          | none=>exact .inr rfl
          | some o =>
            obtain ⟨_,_,h1,_⟩:=f12.ob;obtain ⟨_,h2,_⟩:=f12.fa;refine .inl (Classical.byContradiction fun y=>?_);rw [m12 _ _ qd fun z=>?_] at nd13
            · cases nd13
            symm at z;rcases z with z | z | z
            · rw [z,h1] at nd13; cases nd13
            · rw [z,h2] at nd13; cases nd13
            · exact y z
        apply ⟨⟨_,SqL.of el13⟩,fun l14 n14=>?_⟩;have fstE:∀ {b' a':Addr} {g:Int×Fct},H13 b'=some (.tup [.int g.1,.ref a'])→uB H13 (.ref b')=.int g.1:=fun {b' a' g} h=>by simp only [uB,h]
        have eqn:∀ g∈F,decide (g=nf)=decide (g.1=nf.1):=fun g hg=>decide_eq_decide.mpr ⟨fun z=>by rw [z],fun z=>by
          have h1:g∉iN F nf.1:=fun m=>by
            have:=(List.mem_filter.mp m).2
            rw [decide_eq_true_eq] at this;exact this z
          rw [← AV fo11.nd nfm] at h1;by_cases e:g=nf
          · exact e
          · exact absurd (List.mem_filter.mpr ⟨hg,by rw [aO e]; rfl⟩) h1⟩
        refine qJ id (fun y=>!decide (uB H13 y=.int nf.1)) (SqL.of el13) (by omega) n14 (fun y o H' Q' hy s14 q=>?_) (fun y o H' Q' hy _ s14 q=>?_) (fun H14 s14 e14=>?_)
        · obtain ⟨b',a',g,rfl,hg,hb',ha'⟩:=pw13.mem hy
          apply zj (nf:=g) (nf':=nf) (s14 _ _ hb') (s14 _ _ ha') (s14 _ _ hb13) (s14 _ _ hfa13) ?_;rw [fstE hb'] at q;have ev:decide (V.int g.1=V.int nf.1)=decide (g=nf):=by rw [eqn g hg]; exact decide_eq_decide.mpr ⟨fun z=>by injection z,fun z=>by rw [z]⟩
          rw [ev] at q;left;exact q H' (ao.refl _)
        · left
          exact q H' (ao.refl _)
        · rw [List.map_id] at e14
          have pw14:PwP H14 (xs.filter fun y=>!decide (uB H13 y=.int nf.1)) (iN F nf.1):=(pw13.filter (g:=fun g=>decide (g.1≠nf.1)) fun i' y g h1 h2=>by
            obtain ⟨b',a',rfl,hb',ha'⟩:=pw13.2 i' y g h1 h2;rw [fstE hb',Bool.eq_iff_iff,Bool.not_eq_true',decide_eq_false_iff_not,decide_eq_true_eq];exact not_congr ⟨fun z=>by injection z,fun z=>by rw [z]⟩).mono s14
          left;exact ⟨_,_,l14,dgn,_,_,G',rfl,mm.trans (s14.butL _),ndn,s14 _ _ es13,e14,pw14,f13.mono s14,fo13,by have:=List.length_filter_le (fun g:Int×Fct=>decide (g.1≠nf.1)) F; show (iN F nf.1).length≤14; unfold iN; omega,fun g hg=>ps g (List.mem_filter.mp hg).1⟩
    · rintro σ' H11 ⟨o4,o5,lf,dg',xs,F,G,rfl,m11,hdg,es11,e11,pw11,f11,fo11,lF11,ps⟩
      left;exact k lf dg' F n0 G H11 m11 f11 fo11 lF11 (by omega) (by omega) ps
theorem gb {X:Cx} (K:W.Frag) (h:X.K=K):SlR X D7:=BC
def TxN (n:Nat) (x:Str):Prop:=x.length≤n∧∀ c∈x.cps.toList,c<128
theorem TxN.tx {n:Nat} {x:Str} (h:TxN n x) (hn:n≤1000):Tx x:=⟨Nat.le_trans h.1 hn,h.2⟩
theorem TxN.le {n m:Nat} {x:Str} (h:TxN n x) (l:n≤m):TxN m x:=⟨Nat.le_trans h.1 l,h.2⟩
theorem Dv {x:Str} {lo hi:Option Int} {c:Nat} (h:c∈(Txt.slice x lo hi).cps.toList):c∈x.cps.toList:=by
 unfold Txt.slice at h
 split at h
 ·exact h
 ·rw [List.toList_toArray] at h;obtain ⟨i,_,e⟩:=List.mem_filterMap.mp h;rw [← Array.getElem?_toList] at e;exact List.mem_of_getElem? e
theorem TxN.sl {n:Nat} {x:Str} (h:TxN n x) (lo hi:Option Int):TxN n (Txt.slice x lo hi):=⟨Nat.le_trans (Txt.slice_le x lo hi) h.1,fun c hc=>h.2 c (Dv hc)⟩
theorem TxN.cat {n m:Nat} {x y:Str} (h:TxN n x) (h':TxN m y):TxN (n+m) (x++y):=by
 refine ⟨by rw [strLen_append]; exact Nat.add_le_add h.1 h'.1,fun c hc=>?_⟩;rw [wR] at hc;rcases List.mem_append.mp hc with z | z
 ·exact h.2 c z
 ·exact h'.2 c z
theorem TxN.sg {c:Nat} (h:c<128):TxN 1 (sgn c):=⟨Nat.le_refl _,fun d hd=>by
 have:d=c:=by simpa [sgn] using hd
 rw [this]; exact h⟩
noncomputable def wts (ps:List Str):Nat:=(ps.map (·.length)).sum+ps.length
theorem cR (a b:List Str):wts (a++b)=wts a+wts b:=by unfold wts; rw [List.map_append,List.sum_append,List.length_append]; omega
theorem dW (ps:List Str) (p:Nat):wts (ps.take p)+wts (ps.drop p)=wts ps:=by rw [← cR,List.take_append_drop]
theorem qA {ps:List Str} {q:Str} (h:q∈ps):wts [q]≤wts ps:=by
 obtain ⟨a,b,rfl⟩:=List.append_of_mem h;rw [show a++q::b=a++([q]++b) from rfl,cR,cR]; omega
theorem BM {ps:List Str} {q:Str} (h:q∈ps):q.length+1≤wts ps:=by
 have:=qA h
 have e:wts [q]=q.length+1:=by unfold wts; simp
 omega
theorem iw {ps:List Str}:ps.length≤wts ps:=by unfold wts; omega
theorem pI {s:Str} (hs:s.length=1):∀ {ps:List Str},ps≠[]→(Str.join s ps).length+1=wts ps
 | [a],_=>by show a.length+1=_; unfold wts; simp
 | a::b::r,_=>by
  have ih:=pI hs (ps:=b::r) (by simp)
  have e:(Str.join s (a::b::r)).length=a.length+s.length+(Str.join s (b::r)).length:=by
   show (a++s++Str.join s (b::r)).length=_
   rw [strLen_append,strLen_append]
  rw [show a::b::r=[a]++(b::r) from rfl,cR,← ih];rw [show [a]++(b::r)=a::b::r from rfl,e,hs];unfold wts;simp
  omega
theorem sY {s:Str} (hs:s.length=1) {ps:List Str}:(Str.join s ps).length≤wts ps:=by
 cases ps with
 | nil=>exact Nat.zero_le _
 | cons a r=>have:=pI hs (ps:=a::r) (by simp); omega
theorem qW {s:Str} {c:Nat}:∀ {ps:List Str},c∈(Str.join s ps).cps.toList→c∈s.cps.toList∨∃ p∈ps,c∈p.cps.toList
 | [],h=>by cases h
 | [a],h=>.inr ⟨a,List.mem_cons_self,h⟩
 | a::b::r,h=>by
  rw [mx] at h;rcases List.mem_append.mp h with z | z
  ·rcases List.mem_append.mp z with z | z
   ·exact .inr ⟨a,List.mem_cons_self,z⟩
   ·exact .inl z
  ·rcases qW z with q | ⟨p,hp,q⟩
   ·exact .inl q
   ·exact .inr ⟨p,List.mem_cons_of_mem _ hp,q⟩
def SmS (ps:List Str):Prop:=∀ p∈ps,∀ c∈p.cps.toList,c<128
theorem iu {s:Str} {n:Nat} {ps:List Str} (hs:TxN 1 s) (h1:s.length=1) (hp:SmS ps) (hw:wts ps≤n):TxN n (Txt.join s ps):=by
 rw [jw];refine ⟨Nat.le_trans (sY h1) hw,fun c hc=>?_⟩;rcases qW hc with z | ⟨p,hp',z⟩
 ·exact hs.2 c z
 ·exact hp p hp' c z
theorem mG {s:Str} {ps:List Str} (h1:s.length=1) (hw:wts ps≤700):JoinOk s ps=true:=by
 refine oE 700 (fun y hy=>?_) ?_
 ·have:=BM hy
  omega
 ·have:=iw (ps:=ps)
  rw [h1];have:ps.length≤700:=by omega
  omega
theorem Am {x s:Str} (h1:s.length=1):wts (Txt.split x s)=x.length+1:=by
 have:=pI h1 (ps:=Txt.split x s) (fc _ _)
 rw [StrLaws.join_split] at this;omega
theorem zG {x s:Str} {n:Nat} (h:TxN n x):SmS (Txt.split x s):=fun p hp c hc=>h.2 c (oU hp c hc)
theorem fQ {ws:List Str} {p:Nat}:bN (ws.map V.str) none (some (p:Int))=(ws.take p).map V.str:=by rw [sL,List.map_take]
theorem fP {ws:List Str} {p:Nat}:bN (ws.map V.str) (some (p:Int)) none=(ws.drop p).map V.str:=by rw [lZ,List.map_drop]
theorem uV {H:Hp} {Q:VK} {z:Str} {i:Int} (hl:z.length≤sizeLine) (h0:0≤i) (h1:i<z.length) (ha:z.cps.toList.all (fun c=>decide (c<128))=true) (q:∀ c,c<128→Q (.str (sgn c)) H):CY (.str z) (.int i) H Q:=by
 obtain ⟨n,rfl⟩:∃ n:Nat,i=n:=⟨i.toNat,by omega⟩
 have hz:n<z.cps.toList.length:=by rw [Array.length_toList]; show n<z.length; omega
 refine ⟨z,_,z.cps.toList[n],rfl,rfl,hl,cZ (List.getElem?_eq_getElem hz),q _ ?_⟩;exact of_decide_eq_true (List.all_eq_true.mp ha _ (List.getElem_mem hz))
theorem xO {a:Int} {L:Nat} (h:0<L):∃ p:Nat,a%(L:Int)=(p:Int)∧p<L:=by
 have h1:=Int.emod_nonneg a (show (L:Int)≠0 by omega);have h2:=Int.emod_lt_of_pos a (show (0:Int)<L by omega);exact ⟨(a%(L:Int)).toNat,by omega,by omega⟩
def sp_aG:Sp:=fun vs H Q _=>∃ (x:Str) (l:Addr) (zs:List Int),vs=[.str x,.ref l]∧TxN 300 x∧H l=some (.lst (zs.map V.int))∧4≤zs.length∧∀ y H',TxN 950 y→ao H H'→Q (.str y) H'
theorem ok_aG (T:Txt K mg t):aU P w K mg base CX0 1 t.f_aG t.d_aG ["_law_text","_law_some"] sp_aG:=by
 refine T.F_aG.ok sc_aG (by walk_at "l") (fun _ _ _ s H vs Q E hr h=>?_)
 ·obtain ⟨x,l,zs,rfl,tx,el,hz,k⟩:=h;refine aH (aF 2 sc_aG.nd aj) fun _ _=>aH (aF 3 sc_aG.nd (av aR (aC j2 rfl T.no_abs (by rfl) (aa (au (az K rfl) (pv 1) ae) ag)) (av bf (aC jy rfl T.no_len (by rfl) (aa (pv 0) ag)) ae))) fun _ _=>aH (aF 4 sc_aG.nd (au (lJ K rfl) (pv 2) (av aR (aC j2 rfl T.no_abs (by rfl) (aa (au (az K rfl) (pv 1) ae) ag)) (aC jy rfl T.no_len (by rfl) (aa (pv 2) ag))))) fun _ _=>aH (eR (aW (aT bU (av aR (au (az K rfl) (pv 1) ae) ae) ae) (ak (aF 4 sc_aG.nd (au (lJ K rfl) aj (av aR (aC j2 rfl T.no_abs (by rfl) (aa (au (az K rfl) (pv 1) ae) ag)) ae)))) aI)) fun _ _=>aH (aF 5 sc_aG.nd (cy PySem.F.plainAttrs_str PySem.F.slot_str_split PySem.F.type_str_split d8 (pv 0) (aa aj ag))) fun _ _=>aH (aF 6 sc_aG.nd (av aR (aC j2 rfl T.no_abs (by rfl) (aa (au (az K rfl) (pv 1) ae) ag)) (aC (cn K rfl) rfl T.no_len (by rfl) (aa (pv 5) ag)))) fun _ _=>aH (aF 7 sc_aG.nd (av aR (au (az K rfl) (pv 1) ae) ae)) fun _ _=>aH (aW (aT bU (pv 7) ae) (ak (aJ (av bh (av bh (aY (gb K rfl) (pv 0) bz (bA (pv 3))) (pv 4)) (aY (gb K rfl) (pv 0) (bA (pv 3)) bz)))) aI) fun _ _=>aH (aW (aT bU (pv 7) ae) (ak (aJ (av bh (aY (gb K rfl) (pv 0) bz (bA (pv 3))) (aY (gb K rfl) (pv 0) (bA (av bf (pv 3) ae)) bz)))) aI) fun _ _=>aH (aW (aT bU (pv 7) ae) (ak (aJ (av bh (av bh (aY (gb K rfl) (pv 0) bz (bA (pv 3))) (pv 4)) (aY (gb K rfl) (pv 0) (bA (av bf (pv 3) ae)) bz)))) aI) fun _ _=>aH (aW (aT bU (pv 7) ae) (ak (aJ (cy PySem.F.plainAttrs_str PySem.F.slot_str_join PySem.F.type_str_join iB aj (aa (av cT (aY (bE K rfl) (pv 5) bz (bA (pv 6))) (aY (bE K rfl) (pv 5) (bA (av bf (pv 6) ae)) bz)) ag)))) aI) fun _ _=>aH (aW (aT bU (pv 7) ae) (ak (aJ (cy PySem.F.plainAttrs_str PySem.F.slot_str_join PySem.F.type_str_join iB aj (aa (av cT (av cT (aY (bE K rfl) (pv 5) bz (bA (pv 6))) (bP (aa (au (az K rfl) (pv 5) (pv 6)) ag))) (aY (bE K rfl) (pv 5) (bA (pv 6)) bz)) ag)))) aI) fun _ _=>aH (aW (aT bU (pv 7) ae) (ak (aJ (cy PySem.F.plainAttrs_str PySem.F.slot_str_join PySem.F.type_str_join iB aj (aa (av cT (aY (bE K rfl) (pv 5) (bA (pv 6)) bz) (aY (bE K rfl) (pv 5) bz (bA (pv 6)))) ag)))) aI) fun _ _=>aH (aF 8 sc_aG.nd (cy PySem.F.plainAttrs_str PySem.F.slot_str_split PySem.F.type_str_split d8 (pv 0) (aa aj ag))) fun _ _=>aH (aF 9 sc_aG.nd (av aR (aC j2 rfl T.no_abs (by rfl) (aa (au (az K rfl) (pv 1) ae) ag)) (aC (cn K rfl) rfl T.no_len (by rfl) (aa (pv 8) ag)))) fun _ _=>aH (aW (aT bU (pv 7) ae) (ak (aJ (cy PySem.F.plainAttrs_str PySem.F.slot_str_join PySem.F.type_str_join iB aj (aa (av cT (aY (bE K rfl) (pv 8) bz (bA (pv 9))) (aY (bE K rfl) (pv 8) (bA (av bf (pv 9) ae)) bz)) ag)))) aI) fun _ _=>cS (aJ (cy PySem.F.plainAttrs_str PySem.F.slot_str_join PySem.F.type_str_join iB aj (aa (av cT (av cT (aY (bE K rfl) (pv 8) bz (bA (pv 9))) (bP (aa (au (az K rfl) (pv 8) (pv 9)) ag))) (aY (bE K rfl) (pv 8) (bA (pv 9)) bz)) ag))) fun _ _=>?_;have xl:=tx.1;have xline:x.length≤sizeLine:=Nat.le_trans xl (by decide);have big:(1000:Nat)≤sizeLine:=by decide
  have I0:atI (zs.map V.int) 0=_:=bj (by decide) (by omega);have I1:atI (zs.map V.int) 1=_:=bj (by decide) (by omega);have I2:atI (zs.map V.int) 2=_:=bj (by decide) (by omega);have I3:atI (zs.map V.int) 3=_:=bj (by decide) (by omega);generalize zs.getD (0:Int).toNat 0=z0 at I0;generalize zs.getD (1:Int).toNat 0=z1 at I1;generalize zs.getD (2:Int).toNat 0=z2 at I2;generalize zs.getD (3:Int).toNat 0=z3 at I3;apply aL (SqL.of el) I1 ?_;apply jN xline ?_;apply bB (by omega) ?_;generalize (if z1<0 then -z1 else z1)=a1;obtain ⟨p,ep,hp⟩:=xO (a:=a1) (L:=x.length+1) (by omega);rw [show (((x.length:Nat):Int)+1)=((x.length+1:Nat):Int) by omega,ep];apply aL (SqL.of el) I2 ?_;apply jN (by decide +kernel) ?_;apply bB (by decide +kernel) ?_;apply uV (by decide +kernel) (Int.emod_nonneg _ (by decide +kernel)) (Int.emod_lt_of_pos _ (by decide +kernel)) (by decide +kernel) fun c hc=>?_;generalize (" !\"#$&'()*+,-./0123456789:;<=>?@ABCDEFGHIJKLMNOPQRSTUVWXYZ[]^_`abcdefghijklmnopqrstuvwxyz{|}~\n":Str)=SG;apply eS (fun σ' H'=>∃ c,c<128∧σ'=[some (.str x),some (.ref l),some (.str SG),some (.int (p:Nat)),some (.str (sgn c)),none,none,none,none,none]∧H'=H) ?_ ?_
  ·apply aL (SqL.of el) I3 ?_;apply bB (by decide) ?_;left;by_cases h3:z3%2=0
   ·rw [aM h3];apply aL (SqL.of el) I2 ?_;apply bB (by decide) ?_;apply uV (by decide +kernel) (Int.emod_nonneg _ (by decide)) (Int.lt_of_lt_of_le (Int.emod_lt_of_pos _ (show (0:Int)<6 by decide)) (by decide +kernel)) (by decide +kernel) fun c2 hc2=>?_;left;exact ⟨c2,hc2,rfl,rfl⟩
   ·rw [aO h3];left;exact ⟨c,hc,rfl,rfl⟩
  clear hc c;rintro σ' H' ⟨c,hc,rfl,eH⟩;rw [eH];clear eH H';have tc:=TxN.sg hc;have lsg:(sgn c).length=1:=rfl;apply ⟨rfl,?_⟩;apply ⟨x,"\n",rfl,rfl,by decide +kernel,by omega,fun lr nr=>?_⟩;have s1:=ao.new (o:=HO.lst ((Txt.split x "\n").map V.str)) nr;have e1:=ai (H:=H) (a:=lr) (o:=HO.lst ((Txt.split x "\n").map V.str));generalize upd H lr (HO.lst ((Txt.split x "\n").map V.str))=H1 at s1 e1 ⊢;have el:=s1 _ _ el;have w1:("\n":Str).length=1:=by decide +kernel
  have w2:(" ":Str).length=1:=by decide +kernel
  have t1:TxN 1 "\n":=⟨by decide +kernel,by decide +kernel⟩
  have t2:TxN 1 " ":=⟨by decide +kernel,by decide +kernel⟩
  have wr:=Am (x:=x) w1;have sr:=zG (s:="\n") tx;have ne1:=List.length_pos_iff.mpr (fc x "\n");generalize Txt.split x "\n"=ws at e1 wr sr ne1;apply aL (SqL.of el) I1 ?_;apply b9 e1 ?_;rw [List.length_map];apply bB (by omega) ?_;generalize (if z1<0 then -z1 else z1)=a2;obtain ⟨q,eq,hq⟩:=xO (a:=a2) (L:=ws.length) ne1;rw [eq];apply aL (SqL.of el) I0 ?_;apply bB (by decide) ?_;generalize z0%8=wy;left;by_cases w0k:wy=0
  ·rw [aM w0k];apply ⟨x,rfl,xline,?_⟩;left;have q1:=(tx.sl none (some ((p:Nat):Int))).cat tc;refine ⟨_,_,rfl,rfl,by have:=(tx.sl none (some ((p:Nat):Int))).1; omega,?_⟩;apply ⟨x,rfl,xline,?_⟩;left;have q2:=q1.cat (tx.sl (some ((p:Nat):Int)) none);refine ⟨_,_,rfl,rfl,by have:=q1.1; have:=(tx.sl (some ((p:Nat):Int)) none).1; omega,?_⟩;left;exact k _ _ (q2.le (by decide)) s1
  rw [aO w0k];left;by_cases w1k:wy=1
  ·rw [aM w1k];apply ⟨x,rfl,xline,?_⟩;apply ⟨x,rfl,xline,?_⟩;left;have q2:=(tx.sl none (some ((p:Nat):Int))).cat (tx.sl (some (((p:Nat):Int)+1)) none);refine ⟨_,_,rfl,rfl,by have:=(tx.sl none (some ((p:Nat):Int))).1; have:=(tx.sl (some (((p:Nat):Int)+1)) none).1; omega,?_⟩;left;exact k _ _ (q2.le (by decide)) s1
  rw [aO w1k];left;by_cases w2k:wy=2
  ·rw [aM w2k];apply ⟨x,rfl,xline,?_⟩;left;have q1:=(tx.sl none (some ((p:Nat):Int))).cat tc;refine ⟨_,_,rfl,rfl,by have:=(tx.sl none (some ((p:Nat):Int))).1; omega,?_⟩;apply ⟨x,rfl,xline,?_⟩;left;have q2:=q1.cat (tx.sl (some (((p:Nat):Int)+1)) none);refine ⟨_,_,rfl,rfl,by have:=q1.1; have:=(tx.sl (some (((p:Nat):Int)+1)) none).1; omega,?_⟩;left;exact k _ _ (q2.le (by decide)) s1
  rw [aO w2k];left;by_cases w3k:wy=3
  ·rw [aM w3k];apply ⟨rfl,?_⟩;apply dh (e1) fun l2 n2=>?_;have s2:=ao.new (o:=HO.lst (bN (ws.map V.str) none (some ((q:Nat):Int)))) n2;have e2:=ai (H:=H1) (a:=l2) (o:=HO.lst (bN (ws.map V.str) none (some ((q:Nat):Int))));generalize upd H1 l2 (HO.lst (bN (ws.map V.str) none (some ((q:Nat):Int))))=H2 at s2 e2 ⊢;rw [fQ] at e2;left;rw [show (((q:Nat):Int)+1)=((q+1:Nat):Int) by omega];refine dh (s2 _ _ (e1)) fun l3 n3=>?_;have s3:=ao.new (o:=HO.lst (bN (ws.map V.str) (some ((q+1:Nat):Int)) none)) n3;have e3:=ai (H:=H2) (a:=l3) (o:=HO.lst (bN (ws.map V.str) (some ((q+1:Nat):Int)) none));generalize upd H2 l3 (HO.lst (bN (ws.map V.str) (some ((q+1:Nat):Int)) none))=H3 at s3 e3 ⊢;rw [fP] at e3;left;have ww:=dW ws q;have wv:=dW ws (q+1);have hw:wts (ws.take q++ws.drop (q+1))≤700:=by rw [cR]; omega
   have hlen:=iw (ps:=ws.take q++ws.drop (q+1));refine dG (s3 _ _ e2) e3 (by rw [List.length_map,List.length_map,← List.length_append]; omega) fun l4 H4 s4 _ e4=>?_;rw [← List.map_append] at e4;apply ⟨"\n",l4,_,rfl,rfl,e4,mG w1 (by omega),?_⟩;apply k _ _ ((iu t1 w1 (fun p hp=>?_) hw).le (by decide)) ((s1.trans (s2.trans s3)).trans s4);rcases List.mem_append.mp hp with z | z
   ·exact sr p (List.mem_of_mem_take z)
   ·exact sr p (List.mem_of_mem_drop z)
  rw [aO w3k];left;by_cases w4k:wy=4
  ·rw [aM w4k];apply ⟨rfl,?_⟩;apply dh (e1) fun l2 n2=>?_;have s2:=ao.new (o:=HO.lst (bN (ws.map V.str) none (some ((q:Nat):Int)))) n2;have e2:=ai (H:=H1) (a:=l2) (o:=HO.lst (bN (ws.map V.str) none (some ((q:Nat):Int))));generalize upd H1 l2 (HO.lst (bN (ws.map V.str) none (some ((q:Nat):Int))))=H2 at s2 e2 ⊢;rw [fQ] at e2;left;have eb:=s2 _ _ (e1);refine aL (SqL.of eb) (v:=.str ws[q]) (cZ (by rw [List.getElem?_map,List.getElem?_eq_getElem hq]; rfl)) ?_;apply nwL fun ln H3 sln nln eln=>?_;left;have ww:=dW ws q;have wo:=qA (List.getElem_mem hq:ws[q]∈ws);have hw1:wts (ws.take q++[ws[q]])≤700:=by rw [cR]; omega
   have hw:wts (ws.take q++[ws[q]]++ws.drop q)≤700:=by rw [cR,cR]; omega
   have hlen1:=iw (ps:=ws.take q++[ws[q]]);have hlen:=iw (ps:=ws.take q++[ws[q]]++ws.drop q);refine dG (sln _ _ e2) eln (by rw [List.length_map]; rw [List.length_append] at hlen1; show _+1≤_; have:([ws[q]]:List Str).length=1:=rfl; omega) fun l4 H4 s4 _ e4=>?_;rw [show (ws.take q).map V.str++[V.str ws[q]]=(ws.take q++[ws[q]]).map V.str by rw [List.map_append]; rfl] at e4;apply dh (s4 _ _ (sln _ _ eb)) fun l5 n5=>?_;have s5:=ao.new (o:=HO.lst (bN (ws.map V.str) (some ((q:Nat):Int)) none)) n5;have e5:=ai (H:=H4) (a:=l5) (o:=HO.lst (bN (ws.map V.str) (some ((q:Nat):Int)) none));generalize upd H4 l5 (HO.lst (bN (ws.map V.str) (some ((q:Nat):Int)) none))=H5 at s5 e5 ⊢;rw [fP] at e5;apply dG (s5 _ _ e4) e5 (by rw [List.length_map,List.length_map,← List.length_append]; omega) fun l6 H6 s6 _ e6=>?_;rw [← List.map_append] at e6;apply ⟨"\n",l6,_,rfl,rfl,e6,mG w1 (by omega),?_⟩;apply k _ _ ((iu t1 w1 (fun p hp=>?_) hw).le (by decide)) ((((s1.trans (s2.trans sln)).trans s4).trans s5).trans s6);rcases List.mem_append.mp hp with z | z
   ·rcases List.mem_append.mp z with z | z
    ·exact sr p (List.mem_of_mem_take z)
    ·rw [List.mem_singleton.mp z]; exact sr _ (List.getElem_mem hq)
   ·exact sr p (List.mem_of_mem_drop z)
  rw [aO w4k];left;by_cases w5k:wy=5
  ·rw [aM w5k];apply ⟨rfl,?_⟩;apply dh (e1) fun l2 n2=>?_;have s2:=ao.new (o:=HO.lst (bN (ws.map V.str) (some ((q:Nat):Int)) none)) n2;have e2:=ai (H:=H1) (a:=l2) (o:=HO.lst (bN (ws.map V.str) (some ((q:Nat):Int)) none));generalize upd H1 l2 (HO.lst (bN (ws.map V.str) (some ((q:Nat):Int)) none))=H2 at s2 e2 ⊢;rw [fP] at e2;apply dh (s2 _ _ (e1)) fun l3 n3=>?_;have s3:=ao.new (o:=HO.lst (bN (ws.map V.str) none (some ((q:Nat):Int)))) n3;have e3:=ai (H:=H2) (a:=l3) (o:=HO.lst (bN (ws.map V.str) none (some ((q:Nat):Int))));generalize upd H2 l3 (HO.lst (bN (ws.map V.str) none (some ((q:Nat):Int))))=H3 at s3 e3 ⊢;rw [fQ] at e3;left;have ww:=dW ws q;have hw:wts (ws.drop q++ws.take q)≤700:=by rw [cR]; omega
   have hlen:=iw (ps:=ws.drop q++ws.take q);refine dG (s3 _ _ e2) e3 (by rw [List.length_map,List.length_map,← List.length_append]; omega) fun l4 H4 s4 _ e4=>?_;rw [← List.map_append] at e4;apply ⟨"\n",l4,_,rfl,rfl,e4,mG w1 (by omega),?_⟩;apply k _ _ ((iu t1 w1 (fun p hp=>?_) hw).le (by decide)) ((s1.trans (s2.trans s3)).trans s4);rcases List.mem_append.mp hp with z | z
   ·exact sr p (List.mem_of_mem_drop z)
   ·exact sr p (List.mem_of_mem_take z)
  rw [aO w5k];apply ⟨rfl,?_⟩;apply ⟨x," ",rfl,rfl,by decide +kernel,by omega,fun lv nv=>?_⟩;have s1b:=s1.trans (ao.new (o:=HO.lst ((Txt.split x " ").map V.str)) nv);have el:=ao.new (o:=HO.lst ((Txt.split x " ").map V.str)) nv _ _ el;have e7:=ai (H:=H1) (a:=lv) (o:=HO.lst ((Txt.split x " ").map V.str));generalize upd H1 lv (HO.lst ((Txt.split x " ").map V.str))=H7 at s1b e7 el ⊢;have wr2:=Am (x:=x) w2;have sr2:=zG (s:=" ") tx;have ne2:=List.length_pos_iff.mpr (fc x " ");generalize Txt.split x " "=vs at e7 wr2 sr2 ne2;apply aL (SqL.of el) I1 ?_;apply b9 e7 ?_;rw [List.length_map];apply bB (by omega) ?_;generalize (if z1<0 then -z1 else z1)=a3;obtain ⟨r,er,hr2⟩:=xO (a:=a3) (L:=vs.length) ne2;rw [er];left;by_cases w6k:wy=6
  ·rw [aM w6k];apply ⟨rfl,?_⟩;apply dh (e7) fun l2 n2=>?_;have s2:=ao.new (o:=HO.lst (bN (vs.map V.str) none (some ((r:Nat):Int)))) n2;have e2:=ai (H:=H7) (a:=l2) (o:=HO.lst (bN (vs.map V.str) none (some ((r:Nat):Int))));generalize upd H7 l2 (HO.lst (bN (vs.map V.str) none (some ((r:Nat):Int))))=H2 at s2 e2 ⊢;rw [fQ] at e2;left;rw [show (((r:Nat):Int)+1)=((r+1:Nat):Int) by omega];refine dh (s2 _ _ (e7)) fun l3 n3=>?_;have s3:=ao.new (o:=HO.lst (bN (vs.map V.str) (some ((r+1:Nat):Int)) none)) n3;have e3:=ai (H:=H2) (a:=l3) (o:=HO.lst (bN (vs.map V.str) (some ((r+1:Nat):Int)) none));generalize upd H2 l3 (HO.lst (bN (vs.map V.str) (some ((r+1:Nat):Int)) none))=H3 at s3 e3 ⊢;rw [fP] at e3;left;have ww:=dW vs r;have wv:=dW vs (r+1);have hw:wts (vs.take r++vs.drop (r+1))≤700:=by rw [cR]; omega
   have hlen:=iw (ps:=vs.take r++vs.drop (r+1));refine dG (s3 _ _ e2) e3 (by rw [List.length_map,List.length_map,← List.length_append]; omega) fun l4 H4 s4 _ e4=>?_;rw [← List.map_append] at e4;apply ⟨" ",l4,_,rfl,rfl,e4,mG w2 (by omega),?_⟩;apply k _ _ ((iu t2 w2 (fun p hp=>?_) hw).le (by decide)) ((s1b.trans (s2.trans s3)).trans s4);rcases List.mem_append.mp hp with z | z
   ·exact sr2 p (List.mem_of_mem_take z)
   ·exact sr2 p (List.mem_of_mem_drop z)
  rw [aO w6k];apply ⟨rfl,?_⟩;apply dh (e7) fun l2 n2=>?_;have s2:=ao.new (o:=HO.lst (bN (vs.map V.str) none (some ((r:Nat):Int)))) n2;have e2:=ai (H:=H7) (a:=l2) (o:=HO.lst (bN (vs.map V.str) none (some ((r:Nat):Int))));generalize upd H7 l2 (HO.lst (bN (vs.map V.str) none (some ((r:Nat):Int))))=H2 at s2 e2 ⊢;rw [fQ] at e2;left;have eb:=s2 _ _ (e7);refine aL (SqL.of eb) (v:=.str vs[r]) (cZ (by rw [List.getElem?_map,List.getElem?_eq_getElem hr2]; rfl)) ?_;apply nwL fun ln H3 sln nln eln=>?_;left;have ww:=dW vs r;have wo:=qA (List.getElem_mem hr2:vs[r]∈vs);have hw1:wts (vs.take r++[vs[r]])≤700:=by rw [cR]; omega
  have hw:wts (vs.take r++[vs[r]]++vs.drop r)≤700:=by rw [cR,cR]; omega
  have hlen1:=iw (ps:=vs.take r++[vs[r]]);have hlen:=iw (ps:=vs.take r++[vs[r]]++vs.drop r);refine dG (sln _ _ e2) eln (by rw [List.length_map]; rw [List.length_append] at hlen1; show _+1≤_; have:([vs[r]]:List Str).length=1:=rfl; omega) fun l4 H4 s4 _ e4=>?_;rw [show (vs.take r).map V.str++[V.str vs[r]]=(vs.take r++[vs[r]]).map V.str by rw [List.map_append]; rfl] at e4;apply dh (s4 _ _ (sln _ _ eb)) fun l5 n5=>?_;have s5:=ao.new (o:=HO.lst (bN (vs.map V.str) (some ((r:Nat):Int)) none)) n5;have e5:=ai (H:=H4) (a:=l5) (o:=HO.lst (bN (vs.map V.str) (some ((r:Nat):Int)) none));generalize upd H4 l5 (HO.lst (bN (vs.map V.str) (some ((r:Nat):Int)) none))=H5 at s5 e5 ⊢;rw [fP] at e5;apply dG (s5 _ _ e4) e5 (by rw [List.length_map,List.length_map,← List.length_append]; omega) fun l6 H6 s6 _ e6=>?_;rw [← List.map_append] at e6;apply ⟨" ",l6,_,rfl,rfl,e6,mG w2 (by omega),?_⟩;apply k _ _ ((iu t2 w2 (fun p hp=>?_) hw).le (by decide)) ((((s1b.trans (s2.trans sln)).trans s4).trans s5).trans s6);rcases List.mem_append.mp hp with z | z
  ·rcases List.mem_append.mp z with z | z
   ·exact sr2 p (List.mem_of_mem_take z)
   ·rw [List.mem_singleton.mp z]; exact sr2 _ (List.getElem_mem hr2)
  ·exact sr2 p (List.mem_of_mem_drop z)
def EI (d:PyData):Prop:=(∃ i,d=.int i)∨(∃ b,d=.bool b)∨d=.none∨∃ x,d=.str x∧PyData.strOk x=true
def OkS (S:PyData→Prop) (d:PyData):Prop:=EI d∨(∃ ds,d=.list ds∧ds.length≤1000∧∀ e∈ds,S e)∨∃ ds,d=.tuple ds∧ds.length≤1000∧∀ e∈ds,S e
def lR (S:PyData→Prop):Sp:=fun vs H Q _=>∃ (x y:V) (d:PyData),vs=[x,y]∧S d∧Rep H d x∧Rep H d y∧∀ H',ao H H'→Q (.bl true) H'
theorem f6 {S:PyData→Prop} {n:Nat} (T:Txt K mg t) (G_a1:aU P w K mg base CX0 n t.f_a1 t.d_a1 ["_law_told","_law_due"] (lR S)):aU P w K mg base CX0 (n+1) t.f_a1 t.d_a1 ["_law_told","_law_due"] (lR (OkS S)):=by
 refine T.F_a1.ok sc_a1 (by walk_at "l") (fun _ _ _ s H vs Q E hr h=>?_)
 ·obtain ⟨x,y,d,rfl,ok,rx,ry,k⟩:=h;refine aH (aW (PW.pt (fC (aT eM (aC (bH K rfl) rfl T.no_aY (by rfl) (aa (pv 0) (aa (cz (v:=.ty "bool") rfl T.no_bool (by rfl:bootBuiltins "bool"=some (.type "bool")) rfl) ag))) (aC (bH K rfl) rfl T.no_aY (by rfl) (aa (pv 1) (aa (cz (v:=.ty "bool") rfl T.no_bool (by rfl:bootBuiltins "bool"=some (.type "bool")) rfl) ag)))) (eX (aT eM (aC (bH K rfl) rfl T.no_aY (by rfl) (aa (pv 0) (aa (cz (v:=.ty "int") rfl T.no_int (by rfl:bootBuiltins "int"=some (.type "int")) rfl) ag))) (aC (bH K rfl) rfl T.no_aY (by rfl) (aa (pv 1) (aa (cz (v:=.ty "int") rfl T.no_int (by rfl:bootBuiltins "int"=some (.type "int")) rfl) ag))))))) (ak (aJ fz)) aI) fun _ _=>aH (aW (PW.pt (fC (aT eM (aC (bH K rfl) rfl T.no_aY (by rfl) (aa (pv 0) (aa (cz (v:=.ty "list") rfl T.no_list (by rfl:bootBuiltins "list"=some (.type "list")) rfl) ag))) (aC (bH K rfl) rfl T.no_aY (by rfl) (aa (pv 1) (aa (cz (v:=.ty "list") rfl T.no_list (by rfl:bootBuiltins "list"=some (.type "list")) rfl) ag)))) (eX (aT eM (aC (bH K rfl) rfl T.no_aY (by rfl) (aa (pv 0) (aa (cz (v:=.ty "tuple") rfl T.no_bd (by rfl:bootBuiltins "tuple"=some (.type "tuple")) rfl) ag))) (aC (bH K rfl) rfl T.no_aY (by rfl) (aa (pv 1) (aa (cz (v:=.ty "tuple") rfl T.no_bd (by rfl:bootBuiltins "tuple"=some (.type "tuple")) rfl) ag))))))) (ak (aJ fz)) aI) fun _ _=>aH (aW (PW.pt (cG (dD (cF (aC (bH K rfl) rfl T.no_aY (by rfl) (aa (pv 1) (aa (cz (v:=.ty "list") rfl T.no_list (by rfl:bootBuiltins "list"=some (.type "list")) rfl) ag))))) (dE (dD (cF (aC (bH K rfl) rfl T.no_aY (by rfl) (aa (pv 1) (aa (cz (v:=.ty "tuple") rfl T.no_bd (by rfl:bootBuiltins "tuple"=some (.type "tuple")) rfl) ag)))))))) (ak (aJ (kj (iV bU (aC (bH K rfl) rfl T.no_aY (by rfl) (aa (pv 0) (aa (cz (v:=.ty "str") rfl T.no_str (by rfl:bootBuiltins "str"=some (.type "str")) rfl) ag))) (aC (bH K rfl) rfl T.no_aY (by rfl) (aa (pv 1) (aa (cz (v:=.ty "str") rfl T.no_str (by rfl:bootBuiltins "str"=some (.type "str")) rfl) ag)))) (km (iV (pQ hr.units) (pv 0) (pv 1)))))) aI) fun _ _=>cS (aJ (kj (iV bU (aC (cn K rfl) rfl T.no_len (by rfl) (aa (pv 0) ag)) (aC (cn K rfl) rfl T.no_len (by rfl) (aa (pv 1) ag))) (km (aC (lC K rfl rfl) rfl T.no_all (by rfl) (aa (eQ (N:=["_law_one","_law_other"]) (cap:=[none,none]) rfl ⟨rfl,rfl,rfl,rfl,rfl,rfl⟩ (AZ rfl T.no_zip (aa (pv 0) (aa (pv 1) ag))) (fun _ _ _=>(gA (n:=2) K rfl rfl (bJ (aP (i:=0) (show (["_law_one","_law_other"]:List Str).Nodup by decide +kernel) rfl (Or.inl rfl)) (bJ (aP (i:=1) (show (["_law_one","_law_other"]:List Str).Nodup by decide +kernel) rfl (Or.inl rfl)) fB)))) (fun _ _ _=>dZ) (fun _ _ _=>(aB G_a1 (rmo hr) rfl T.mg_a1 T.F_a1.kp T.b_a1 .nil bo (aa (pv 0) (aa (pv 1) ag))))) ag))))) fun _ _=>?_;apply de rx.ty (rf d) ?_;apply de ry.ty (rf d) ?_;left;rw [aM rfl];apply de rx.ty (uE d) ?_;apply de ry.ty (uE d) ?_;left;rw [aM rfl];apply de rx.ty (mB d) ?_;apply de ry.ty (mB d) ?_;left;rw [aM rfl];apply de rx.ty (iA d) ?_;apply de ry.ty (iA d) ?_;left;rw [aM rfl];apply de ry.ty (mB d) ?_;left;rcases ok with sc | ⟨ds,rfl,hl,hS⟩ | ⟨ds,rfl,hl,hS⟩
  ·have e1:isD "list" d=false:=by rcases sc with ⟨i,rfl⟩ | ⟨b,rfl⟩ | rfl | ⟨x,rfl,hx⟩<;>simp [isD]
   have e2:isD "tuple" d=false:=by rcases sc with ⟨i,rfl⟩ | ⟨b,rfl⟩ | rfl | ⟨x,rfl,hx⟩<;>simp [isD]
   rw [e1];apply de ry.ty (iA d) ?_;rw [e2];apply de rx.ty (uF d) ?_;apply de ry.ty (uF d) ?_;left;rw [aM rfl];left;have sd:SeqAt.shaped d=true:=by rcases sc with ⟨i,rfl⟩ | ⟨b,rfl⟩ | rfl | ⟨x,rfl,hx⟩<;>first | rfl | simp [SeqAt.shaped,PyData.canLay0,PyData.depth,hx]
   refine ⟨d,d,rx,ry,sd,sd,?_⟩;have e3:PyData.eqv d d=true:=by rcases sc with ⟨i,rfl⟩ | ⟨b,rfl⟩ | rfl | ⟨x,rfl,hx⟩<;>simp [PyData.eqv]
   rw [e3];exact k _ (ao.refl _)
  ·have e1:isD "list" (.list ds)=true:=by simp [isD]
   rw [e1];simp only [Rep] at rx ry;obtain ⟨a,xs,rfl,ha,ra⟩:=rx;obtain ⟨b,ys,rfl,hb,rb⟩:=ry;obtain ⟨l1,g1⟩:=hV ra;obtain ⟨l2,g2⟩:=hV rb;apply b9 ha ?_;apply b9 hb ?_;left;rw [aM (by omega:(xs.length:Int)=ys.length)];apply ⟨a,b,rfl,.inl ⟨⟨_,SqL.of ha⟩,⟨_,SqL.of hb⟩,fun l hn=>?_⟩⟩;refine vk (fun _=>.bl true) ha hb (by omega) (by omega) hn (fun i x y H' Q' ex ey s1 q=>?_) (fun H' s1 e=>?_)
   ·left;obtain ⟨d,hd,rd⟩:=g1 i x ex;obtain ⟨d',hd',rd'⟩:=g2 i y ey;rw [hd] at hd'
    cases hd';exact ⟨x,y,d,rfl,hS d (List.mem_of_getElem? hd),rd.mono s1,rd'.mono s1,q⟩
   ·left;have e':H' l=some (.lst (((List.range xs.length).map fun _=>true).map V.bl)):=by rw [e,List.map_map]; rfl
    refine mP e' ?_;have e4:((List.range xs.length).map fun _=>true).all id=true:=by simp
    rw [e4];exact k H' s1
  ·have e1:isD "list" (.tuple ds)=false:=by simp [isD]
   have e2:isD "tuple" (.tuple ds)=true:=by simp [isD]
   rw [e1];apply de ry.ty (iA _) ?_;rw [e2];simp only [Rep] at rx ry;obtain ⟨a,xs,rfl,ha,ra⟩:=rx;obtain ⟨b,ys,rfl,hb,rb⟩:=ry;obtain ⟨l1,g1⟩:=hV ra;obtain ⟨l2,g2⟩:=hV rb;apply uW ha ?_;apply uW hb ?_;left;rw [aM (by omega:(xs.length:Int)=ys.length)];apply ⟨a,b,rfl,.inr ⟨⟨_,SqT.of ha⟩,⟨_,SqT.of hb⟩,fun l hn=>?_⟩⟩;refine sJ (fun _=>.bl true) ha hb (by omega) (by omega) hn (fun i x y H' Q' ex ey s1 q=>?_) (fun H' s1 e=>?_)
   ·left;obtain ⟨d,hd,rd⟩:=g1 i x ex;obtain ⟨d',hd',rd'⟩:=g2 i y ey;rw [hd] at hd'
    cases hd';exact ⟨x,y,d,rfl,hS d (List.mem_of_getElem? hd),rd.mono s1,rd'.mono s1,q⟩
   ·left;have e':H' l=some (.lst (((List.range xs.length).map fun _=>true).map V.bl)):=by rw [e,List.map_map]; rfl
    refine mP e' ?_;have e4:((List.range xs.length).map fun _=>true).all id=true:=by simp
    rw [e4];exact k H' s1
def Ok3:PyData→Prop:=OkS (OkS (OkS fun _=>False))
theorem ok_a1 (T:Txt K mg t):aU P w K mg base CX0 3 t.f_a1 t.d_a1 ["_law_told","_law_due"] (lR Ok3) :=
 f6 T (f6 T (f6 T ⟨fun vs H Q E h=>(by obtain ⟨_,_,_,_,h,_⟩:=h; exact h.elim),fun A outer s H args us vs Q E _ _ _ _ h=>(by obtain ⟨_,_,_,_,h,_⟩:=h; exact h.elim)⟩))
theorem gy {S:PyData→Prop} (i:Int):OkS S (.int i):=.inl (.inl ⟨i,rfl⟩)
theorem mH {S:PyData→Prop} (i:Bool):OkS S (.bool i):=.inl (.inr (.inl ⟨i,rfl⟩))
theorem jG {S:PyData→Prop} {x:Str} (h:PyData.strOk x=true):OkS S (.str x):=.inl (.inr (.inr (.inr ⟨x,rfl,h⟩)))
theorem xT {S:PyData→Prop} {ns:List Int} (h:ns.length≤1000):OkS (OkS S) (.list (ns.map PyData.int)) :=
 .inr (.inl ⟨_,rfl,by rw [List.length_map]; exact h,fun e he=>by obtain ⟨i,_,rfl⟩:=List.mem_map.mp he; exact gy i⟩)
theorem CM {X:Cx} (K:W.Frag) (h:X.K=K):OpR X (compareOp .In) (rIn K false):=by subst h; exact vR
theorem gw {x:Str} {k:Nat} (h:bI x=some k):nT k=x:=by
 unfold bI at h;by_cases c:cW x=true
 ·rw [if_pos c] at h; cases h; exact (gx c).2
 ·rw [if_neg c] at h; cases h
theorem vt {ws:List Str} {f:Fct} (h:fK ws=some f):fwS f=ws:=by
 by_cases l4:ws.length=4
 ·obtain ⟨a,b,c,d,rfl⟩:=vy l4
  cases nb:bI b with
  | none => rw [sS nb] at h; cases h
  | some i =>
   cases nc:bI c with
   | none=>rw [sU nc] at h; cases h
   | some j =>
    rw [j3 nb nc] at h;have eb:=gw nb;have ec:=gw nc;by_cases ca:a="cell"
    ·rw [if_pos ca] at h
     cases nd:bI d with
     | none=>rw [nd] at h; cases h
     | some k =>
      rw [nd] at h
      cases h;have ed:=gw nd
      show (["cell",nT i,nT j,nT k]:List Str)=_
      rw [eb,ec,ed,ca]
    ·rw [if_neg ca] at h;by_cases cw:(a="col"∨a="row")∧(d="sewn"∨d="bare")
     ·rw [if_pos cw] at h
      cases h
      show [wyS (decide (a="col")),nT i,nT j,sbS (decide (d="sewn"))]=_
      rw [eb,ec]
      have e1:wyS (decide (a="col"))=a:=by
       rcases cw.1 with rfl | rfl<;>decide +kernel
      have e2:sbS (decide (d="sewn"))=d:=by
       rcases cw.2 with rfl | rfl<;>decide +kernel
      rw [e1,e2]
     ·rw [if_neg cw] at h; cases h
 ·rw [pF l4] at h; cases h
theorem oQ {wd ht:Nat}:∀ {rs:List Str} {S S':FSt},eg wd ht S rs=some S'→S'.1.map (fun nf=>gM nf.1 nf.2)=S.1.map (fun nf=>gM nf.1 nf.2)++rs
 | [],S,S',h=>by cases h; rw [List.append_nil]
 | r::rs,S,S',h=>by
  unfold eg at h;obtain ⟨S1,h1,h2⟩:=Option.bind_eq_some_iff.mp h;obtain ⟨a,ws,k,f,e,e1,e2,_,_,_,_,rfl⟩:=gf h1;rw [oQ h2,List.map_append,List.append_assoc]
  congr 1
  show gM ((k:Nat):Int) f::rs=r::rs
  have:gM ((k:Nat):Int) f=r:=by
   show Str.join " " (nT k::fwS f)=r
   rw [gw e1,vt e2,← e,StrLaws.join_split]
  rw [this]
theorem lN {wd ht:Nat}:∀ {rs:List Str} {S S':FSt},eg wd ht S rs=some S'→(∀ nf∈S.1,0≤nf.1)→0≤S.2.1→(∀ nf∈S'.1,0≤nf.1)∧0≤S'.2.1
 | [],S,S',h,a,b=>by cases h; exact ⟨a,b⟩
 | r::rs,S,S',h,a,b=>by
  unfold eg at h;obtain ⟨S1,h1,h2⟩:=Option.bind_eq_some_iff.mp h;obtain ⟨_,_,k,f,_,_,_,_,_,_,_,rfl⟩:=gf h1;refine lN h2 (fun nf hm=>?_) (by show (0:Int)≤(k:Nat)+1; omega);rcases List.mem_append.mp hm with z | z
  ·exact a nf z
  ·rw [List.mem_singleton.mp z]; show (0:Int)≤(k:Nat); omega
theorem xw {r:Str} {i j k:Nat} (h:hdW r=some (i,j,k)):hdS i j (k:Nat)=r∧k<10 ^ 6:=by
 by_cases l4:(Txt.split r " ").length=4
 ·obtain ⟨a,b,c,d,e⟩:=vy l4;by_cases ca:a="finds"
  ·cases nb:bI b with
   | none=>rw [fL e (.inr (.inl nb))] at h; cases h
   | some i' =>
    cases nc:bI c with
    | none=>rw [fL e (.inr (.inr (.inl nc)))] at h; cases h
    | some j' =>
     cases nd:bI d with
     | none=>rw [fL e (.inr (.inr (.inr nd)))] at h; cases h
     | some k' =>
      rw [xr e ca nb nc nd] at h
      split at h
      ·cases h;refine ⟨?_,AQ nd⟩
       show Str.join " " ["finds",nT i,nT j,nT k]=r
       rw [gw nb,gw nc,gw nd,← ca,← e,StrLaws.join_split]
      ·cases h
  ·rw [fL e (.inl ca)] at h; cases h
 ·rw [xu l4] at h; cases h
structure DJ (x:Str) (i j:Nat) (S:FSt) (k:Nat):Prop where
 tx:xh i j (k:Nat) S.1=x
 wd:i≤40
 ht:j≤40
 ns:nSm (k:Nat)
 ln:5*S.1.length≤x.length
 sm:∀ nf∈S.1,nSm nf.1∧fSm nf.2
theorem xj {x:Str} {i j:Nat} {S:FSt} {k:Nat} (h:gS x=some (i,j,S,k)):DJ x i j S k:=by
 have jn:=StrLaws.join_split x "\n";unfold gS at h;generalize Txt.split x "\n"=rows at jn h
 cases rows with
 | nil=>cases h
 | cons r rs =>
  dsimp only at h
  cases hd:hdW r with
  | none => rw [hd] at h; cases h
  | some q =>
   obtain ⟨i',j',k'⟩:=q;rw [hd] at h;dsimp only at h
   cases hr:eg i' j' ([],0,Fm.lone) rs with
   | none=>rw [hr] at h; cases h
   | some S' =>
    rw [hr] at h;dsimp only at h
    split at h
    ·next le =>
     cases h;obtain ⟨h1,h2⟩:=xw hd;obtain ⟨l1,l2⟩:=xt hd;have rw':=oQ hr;have hp:=lN hr (fun _ z=>nomatch z) (Int.le_refl _);obtain ⟨v,so⟩:=lM (SOk.nil i j) hr;have ll:=jP hr;have few:=mT (r:=r) (i:=rs.length) (rs:=rs) (fun y hy=>iF hr y (List.mem_of_mem_take hy));rw [List.take_length,jn] at few;have ll:S.1.length=rs.length:=by rw [ll]; show 0+_=_; omega
     refine ⟨?_,l1,l2,⟨by omega,by omega⟩,by omega,fun nf hm=>?_⟩
     ·show Str.join "\n" (hdS i j (k:Nat)::S.1.map fun nf=>gM nf.1 nf.2)=x
      rw [h1,rw',← jn];rfl
     ·have:=so.lt nf hm
      exact ⟨⟨hp.1 nf hm,by omega⟩,w6 l1 l2 (so.inw nf hm)⟩
    ·cases h
noncomputable def qU (x:Str):PyData:=match gS x with
 | none=>.tuple [.str "no",.bool true,.bool false]
 | some (i,j,S,_)=>.tuple [.str "yes",.list ([((i:Nat):Int),((j:Nat):Int)].map PyData.int),.list (S.1.map fZ),.str x]
theorem sQ {x:Str} (h:gS x=none):qU x=.tuple [.str "no",.bool true,.bool false]:=by unfold qU; rw [h]
theorem mh {x:Str} {i j k:Nat} {S:FSt} (h:gS x=some (i,j,S,k)):qU x=.tuple [.str "yes",.list ([((i:Nat):Int),((j:Nat):Int)].map PyData.int),.list (S.1.map fZ),.str x]:=by unfold qU; rw [h]
theorem zt {H:Hp} {tp:Addr} (h:H tp=some (.tup [.str "no",.bl true,.bl false])):Rep H (.tuple [.str "no",.bool true,.bool false]) (.ref tp):=by
 simp only [Rep,RepL];exact ⟨tp,_,rfl,h,_,_,rfl,rfl,_,_,rfl,rfl,_,_,rfl,rfl,rfl⟩
theorem uY {H:Hp} {tp l lk:Addr} {a b:Int} {ys:List V} {F:List (Int×Fct)} {x:Str} (h:H tp=some (.tup [.str "yes",.ref l,.ref lk,.str x])) (hl:H l=some (.lst (([a,b]:List Int).map V.int))) (hk:H lk=some (.lst ys)) (pw:PwP H ys F) :
  Rep H (.tuple [.str "yes",.list ([a,b].map PyData.int),.list (F.map fZ),.str x]) (.ref tp):=by
 have r1:=zr hl;have r2:=rQ hk pw;rw [Rep];refine ⟨tp,_,rfl,h,?_⟩;simp only [RepL];exact ⟨_,_,rfl,by simp only [Rep],_,_,rfl,r1,_,_,rfl,r2,_,_,rfl,by simp only [Rep],rfl⟩
theorem AS {S:PyData→Prop} (f:Fct):OkS (OkS S) f.dat:=by
 cases f with
 | cell x y c =>
  refine .inr (.inr ⟨_,rfl,by simp,fun e he=>?_⟩);symm at he;rcases he with rfl | rfl | rfl | rfl
  ·exact jG (by decide +kernel)
  ·exact gy _
  ·exact gy _
  ·exact gy _
 | line col kk s b =>
  refine .inr (.inr ⟨_,rfl,by simp,fun e he=>?_⟩);symm at he;rcases he with rfl | rfl | rfl | rfl
  ·exact jG (Ck col)
  ·exact gy _
  ·exact gy _
  ·exact mH _
theorem xU {F:List (Int×Fct)} (h:F.length≤1000):OkS Ok3 (.list (F.map fZ)):=by
 refine .inr (.inl ⟨_,rfl,by rw [List.length_map]; exact h,fun e he=>?_⟩);obtain ⟨nf,_,rfl⟩:=List.mem_map.mp he;refine .inr (.inr ⟨_,rfl,by simp,fun e he=>?_⟩);symm at he;rcases he with rfl | rfl
 ·exact gy _
 ·exact AS _
theorem Cv {x:Str} (tx:Tx x):OkS (OkS Ok3) (qU x):=by
 cases h:gS x with
 | none =>
  rw [sQ h];refine .inr (.inr ⟨_,rfl,by show 3≤1000; decide,fun e he=>?_⟩);symm at he;rcases he with rfl | rfl | rfl
  ·exact jG (by decide +kernel)
  ·exact mH _
  ·exact mH _
 | some q =>
  obtain ⟨i,j,S,k⟩:=q;rw [mh h];have o:=xj h;refine .inr (.inr ⟨_,rfl,by show 4≤1000; decide,fun e he=>?_⟩);symm at he;rcases he with rfl | rfl | rfl | rfl
  ·exact jG (by decide +kernel)
  ·exact xT (by show 2≤1000; decide)
  ·exact xU (by have:=o.ln; have:=tx.1; omega)
  ·exact jG tx.ok
theorem vN (T:Txt K mg t):aU P w K mg base CX0 5 t.f_a1 t.d_a1 ["_law_told","_law_due"] (lR (OkS (OkS Ok3))):=f6 T (f6 T (ok_a1 T))
def sp_a6:Sp:=fun vs H Q _=>∃ x:Str,vs=[.str x]∧Tx x∧x.length≤950∧∀ tp H',ao H H'→Rep H' (qU x) (.ref tp)→Q (.ref tp) H'
theorem ok_a6 (T:Txt K mg t):aU P w K mg base CX0 9 t.f_a6 t.d_a6 ["_law_text"] sp_a6:=by
 refine T.F_a6.ok sc_a6 (by walk_at "l") (fun _ _ _ s H vs Q E hr h=>?_)
 ·obtain ⟨x,rfl,tx,lx,k⟩:=h;refine ⟨_,(aK (CT (i:=2) sc_a6.nd rfl rfl rfl T.mg_aJ (fun _ _=>(ak (aF 1 sc_a6.nd (yd (okx_at T) (rmo hr) rfl T.mg_at T.F_at.kp T.b_at .nil DZ (aa (pv 0) ag))))) (fun _=>(aK (aF 3 sc_a6.nd (bP (aa (aC (cm K rfl) rfl T.no_aY (by rfl) (aa (pv 2) (aa (dC (v:=.ref _) rfl T.mg_aM rfl) ag))) (aa (aC (cm K rfl) rfl T.no_aY (by rfl) (aa (pv 2) (aa (dC (v:=.ref _) rfl T.mg_aU rfl) ag))) (aa (aC (cm K rfl) rfl T.no_aY (by rfl) (aa (pv 2) (aa (dC (v:=.ref _) rfl T.mg_ay rfl) ag))) (aa (aC (cm K rfl) rfl T.no_aY (by rfl) (aa (pv 2) (aa (dC (v:=.ref _) rfl T.mg_a5 rfl) ag))) ag)))))) (aK (aF 3 sc_a6.nd (av cT (pv 3) (bP (aa (aC (cm K rfl) rfl T.no_aY (by rfl) (aa (pv 2) (aa (dC (v:=.ref _) rfl T.mg_aT rfl) ag))) (aa (aC (cm K rfl) rfl T.no_aY (by rfl) (aa (pv 2) (aa (dC (v:=.ref _) rfl T.mg_aN rfl) ag))) (aa (aC (cm K rfl) rfl T.no_aY (by rfl) (aa (pv 2) (aa (dC (v:=.ref _) rfl T.mg_aV rfl) ag))) ag)))))) (ak (aJ (aQ (aa aj (aa (aC (cm K rfl) rfl T.no_aY (by rfl) (aa (pv 2) (aa (dC (v:=.ref _) rfl T.mg_aa rfl) ag))) (aa (lK (CM K rfl) fz (pv 3) rfl) ag)))))))))) (ak (aJ (aQ (aa aj (aa (bP (aa (bQ (pv 1) T.cl_ab T.m_ak (ok_ak T) (rmo hr) T.b_ak .nil bo) (aa (bQ (pv 1) T.cl_ab T.m_aj (ok_aj T) (rmo hr) T.b_aj .nil bo) ag))) (aa (bQ (pv 1) T.cl_ab T.m_au (ok_au T) (rmo hr) T.b_au .nil bo) (aa (aB (ok_as T) (rmo hr) rfl T.mg_as T.F_as.kp T.b_as .nil bo (aa (pv 1) ag)) ag)))))))),?_⟩;apply ⟨x,rfl,tx,lx,fun hb H1 s1=>⟨t.a_aa,rfl,T.cat_aa,fun e he=>?_⟩,fun i j S kk hq p df dg H1 s1 fd=>?_⟩
  ·have s2:=ao.new (o:=sC e t.a_aa none) he;have ee:=ai (H:=H1) (a:=e) (o:=sC e t.a_aa none);generalize upd H1 e (sC e t.a_aa none)=H2 at s2 ee ⊢;apply fE ee T.xi_aa T.kt_aa_aM ?_;apply fE ee T.xi_aa T.kt_aa_aU ?_;apply fE ee T.xi_aa T.kt_aa_ay ?_;apply fE ee T.xi_aa T.kt_aa_a5 ?_;apply nwL fun l1 H3 sl1 nl1 el1=>?_;left;have ee:=sl1 _ _ ee;refine fE ee T.xi_aa T.kt_aa_aT ?_;apply fE ee T.xi_aa T.kt_aa_aN ?_;apply fE ee T.xi_aa T.kt_aa_aV ?_;apply nwL fun l2 H4 sl2 nl2 el2=>?_;apply dG (sl2 _ _ el1) el2 (by show 4+3≤sizeLine; decide) fun l3 H5 s5 _ e5=>?_;left;have ee:=s5 _ _ (sl2 _ _ ee);refine fE ee T.xi_aa T.kt_aa_aa ?_;apply ⟨l3,_,rfl,.inl (SqL.of e5),rfl,rfl,?_⟩;have ei:(if false=true then !inV (.bl true) ([V.bl false,V.bl false,V.bl false,V.bl false]++[V.bl false,V.bl false,V.bl false]) else inV (.bl true) ([V.bl false,V.bl false,V.bl false,V.bl false]++[V.bl false,V.bl false,V.bl false]))=false:=by decide
   rw [ei];apply nwT fun tq H6 stq ntq etq=>?_;dsimp only [Dh];left;exact k tq H6 (s1.trans (s2.trans (sl1.trans (sl2.trans (s5.trans stq))))) (by rw [sQ hb]; exact zt etq)
  ·obtain ⟨dx,fs,hp,fl⟩:=fd.ob;have o:=xj hq;apply bp hp (fl.no _ (by decide +kernel)) ?_;apply ⟨p,_,_,rfl,fd.sz,?_⟩;apply bp hp (fl.no _ (by decide +kernel)) ?_;apply ⟨p,_,_,rfl,fd.sz,?_⟩;apply nwL fun l1 H2 sl1 nl1 el1=>?_;apply bp (sl1 _ _ hp) (fl.no _ (by decide +kernel)) ?_;apply ⟨p,df,dg,i,j,S.1,_,S.2.2,rfl,fd.mono sl1,fun lk ys H3 s3 _ ek pw=>?_⟩;left;have lS:=o.ln;refine ⟨p,df,dg,i,j,S.1,_,S.2.2,rfl,(fd.mono sl1).mono s3,o.wd,o.ht,o.ns,by omega,o.sm,fun H4 s4=>?_⟩;rw [o.tx];apply nwT fun tp H5 stp ntp etp=>?_;refine k tp H5 (s1.trans (sl1.trans (s3.trans (s4.trans stp)))) ?_;rw [mh hq];exact uY etp (stp _ _ (s4 _ _ (s3 _ _ el1))) (stp _ _ (s4 _ _ ek)) ((pw.mono s4).mono stp)
theorem vJ {x:Str} (h:bI x=none):aX x=-1:=by unfold aX; rw [h]
theorem AO (x:Str):-1≤aX x:=by
 unfold aX
 split
 ·omega
 ·omega
theorem CA {r a b c d:Str} (e:Txt.split r " "=[a,b,c,d]) (ha:a="finds") (hb:1≤aX b∧aX b≤40) (hc:1≤aX c∧aX c≤40) :
  hdW r=(bI d).map fun k=>((aX b).toNat,(aX c).toNat,k):=by
 obtain ⟨i,hi,ei⟩:=eP (x:=b) (by omega);obtain ⟨j,hj,ej⟩:=eP (x:=c) (by omega)
 cases nd:bI d with
 | none=>exact fL e (.inr (.inr (.inr nd)))
 | some k =>
  rw [xr e ha hi hj nd,ei,ej,if_pos ⟨⟨by omega,by omega⟩,by omega,by omega⟩];rfl
theorem AK {r a b c d:Str} (e:Txt.split r " "=[a,b,c,d]) (h:¬ ((1≤aX b∧aX b≤40)∧1≤aX c∧aX c≤40)):hdW r=none:=by
 cases q:hdW r with
 | none=>rfl
 | some z =>
  obtain ⟨i,j,k⟩:=z;refine absurd ?_ h;unfold hdW at q;rw [e] at q;dsimp only at q
  split at q
  ·split at q
   ·next i' j' k' h1 h2 h3 =>
    split at q
    ·next c =>
     rw [iD h1,iD h2];omega
    ·cases q
   ·cases q
  ·cases q
theorem fu {x r:Str} {rs:List Str} (e:Txt.split x "\n"=r::rs) (h:hdW r=none):gS x=none:=by
 unfold gS; rw [e]; dsimp only; rw [h]
theorem xi {x r:Str} {rs:List Str} {i j k:Nat} (e:Txt.split x "\n"=r::rs) (h:hdW r=some (i,j,k)) (hb:eg i j ([],0,Fm.lone) rs=none):gS x=none:=by
 unfold gS; rw [e]; dsimp only; rw [h]; dsimp only; rw [hb]
theorem uA {x r:Str} {rs:List Str} {i j k:Nat} {S:FSt} (e:Txt.split x "\n"=r::rs) (h:hdW r=some (i,j,k)) (hb:eg i j ([],0,Fm.lone) rs=some S):gS x=if S.2.1≤(k:Nat) then some (i,j,S,k) else none:=by
 unfold gS; rw [e]; dsimp only; rw [h]; dsimp only; rw [hb]
def sp_aA:Sp:=fun vs H Q _=>∃ x:Str,vs=[.str x]∧Tx x∧x.length≤950∧∀ tp H',ao H H'→Rep H' (qU x) (.ref tp)→Q (.ref tp) H'
theorem ok_aA (T:Txt K mg t):aU P w K mg base CX0 4 t.f_aA t.d_aA ["_law_text"] sp_aA:=by
  refine T.F_aA.ok sc_aA (fun vs H Q E h=>?_) (fun cdv A outer s H vs Q E hr h=>?_)
  · obtain ⟨x,rfl,_⟩:=h; rfl
  · obtain ⟨x,rfl,tx,lx,k⟩:=h
    refine aH (aF 1 sc_aA.nd (cy PySem.F.plainAttrs_str PySem.F.slot_str_split PySem.F.type_str_split d8 (pv 0) (aa aj ag))) fun _ _=>aH (aF 2 sc_aA.nd (cy PySem.F.plainAttrs_str PySem.F.slot_str_split PySem.F.type_str_split d8 (au (az K rfl) (pv 1) ae) (aa aj ag))) fun _ _=>aH (aW (PW.pt (fC (aT eM (aC (cn K rfl) rfl T.no_len (by rfl) (aa (pv 2) ag)) ae) (eX (aT eM (au (az K rfl) (pv 2) ae) aj)))) (ak (aJ (aQ (aa aj (aa fz (aa fz ag)))))) aI) fun _ _=>aH (tM (eQ (N:=["_law_word"]) (cap:=[none]) rfl ⟨rfl,rfl,rfl,rfl,rfl,rfl⟩ (cO (aY (bE K rfl) (pv 2) (bA ae) bz)) (fun _ _ _=>(aP (i:=0) (show (["_law_word"]:List Str).Nodup by decide +kernel) rfl (Or.inl rfl))) (fun _ _ _=>dZ) (fun _ _ _=>(aB (ok_az T) (rmo hr) rfl T.mg_az T.F_az.kp T.b_az .nil bo (aa (pv 0) ag)))) (AY (n:=3) K rfl rfl (bJ (aP (i:=3) sc_aA.nd rfl (Or.inl rfl)) (bJ (aP (i:=4) sc_aA.nd rfl (Or.inl rfl)) (bJ (aP (i:=5) sc_aA.nd rfl (Or.inl rfl)) fB))))) fun _ _=>aH (aW (PW.pt (fC (dD (d9 fW fW ae (pv 3) ae)) (eX (dD (d9 fW fW ae (pv 4) ae))))) (ak (aJ (aQ (aa aj (aa fz (aa fz ag)))))) aI) fun _ _=>aH (aF 6 sc_aA.nd (bP ag)) fun _ _=>aH (aF 7 sc_aA.nd (uO qz ae)) fun _ _=>aH (dR PassesOwn.never rfl (cO (aY (bE K rfl) (pv 1) (bA ae) bz)) (aP (i:=8) sc_aA.nd rfl (Or.inl rfl)) (aK (aF 9 sc_aA.nd (cy PySem.F.plainAttrs_str PySem.F.slot_str_split PySem.F.type_str_split d8 (pv 8) (aa aj ag))) (aK (aF 10 sc_aA.nd (aB (ok_az T) (rmo hr) rfl T.mg_az T.F_az.kp T.b_az .nil bo (aa (au (az K rfl) (pv 9) ae) ag))) (aK (aF 11 sc_aA.nd (aB (ok_aP T) (rmo hr) rfl T.mg_aP T.F_aP.kp T.b_aP .nil bo (aa (aY (bE K rfl) (pv 9) (bA ae) bz) (aa (pv 3) (aa (pv 4) ag))))) (aK (aW (PW.pt (fC (aT fW (pv 10) (pv 7)) (fC (aT CN (pv 11) ja) (fC (dY (x8 hr.units) (pv 11) (eQ (N:=["_law_one"]) (cap:=[none]) rfl ⟨rfl,rfl,rfl,rfl,rfl,rfl⟩ (cO (pv 6)) (fun _ _ _=>(aP (i:=0) (show (["_law_one"]:List Str).Nodup by decide +kernel) rfl (Or.inl rfl))) (fun _ _ _=>dZ) (fun _ _ _=>(au (ay K rfl) (pv 0) ae))) rfl) (eX (cF (aB (ok_aF T) (rmo hr) rfl T.mg_aF T.F_aF.kp T.b_aF .nil bo (aa (pv 6) (aa (pv 11) ag))))))))) (ak (aJ (aQ (aa aj (aa fz (aa fz ag)))))) aI) (aK (bG (cy PySem.F.plainAttrs_list PySem.F.slot_list_append PySem.F.type_list_append cf (pv 6) (aa (aQ (aa (pv 10) (aa (pv 11) ag))) ag))) (ak (aF 7 sc_aA.nd (pv 10))))))))) fun _ _=>aH (aW (aT fW (pv 5) (pv 7)) (ak (aJ (aQ (aa aj (aa fz (aa fz ag)))))) aI) fun _ _=>cS (aJ (aQ (aa aj (aa (bP (aa (pv 3) (aa (pv 4) ag))) (aa (pv 6) (aa (pv 0) ag)))))) fun _ _=>?_;have no:gS x=none→∀ tp H',ao H H'→H' tp=some (.tup [.str "no",.bl true,.bl false])→Q (.ref tp) H':=fun hn tp H' s' e'=>k tp H' s' (by rw [sQ hn]; exact zt e');apply ⟨rfl,?_⟩;apply ⟨x,"\n",rfl,rfl,by decide +kernel,by have:=tx.1; omega,fun l1 n1=>?_⟩;have s1:=ao.new (o:=HO.lst ((Txt.split x "\n").map V.str)) n1;have e1:=ai (H:=H) (a:=l1) (o:=HO.lst ((Txt.split x "\n").map V.str));generalize upd H l1 (HO.lst ((Txt.split x "\n").map V.str))=H1 at s1 e1 ⊢;have wds:∀ y∈Txt.split x "\n",Tx y:=fun y hy=>tx.word (y:="\n") hy;have jn:=StrLaws.join_split x "\n";obtain ⟨r,rs,hx⟩:∃ r rs,Txt.split x "\n"=r::rs:=by
      cases q:Txt.split x "\n" with
      | nil=>exact absurd q (fc _ _)
      | cons a ws=>exact ⟨a,ws,rfl⟩
    rw [hx] at e1 wds jn;apply aL (SqL.of e1) (v:=.str r) (show atI _ ((0:Nat):Int)=_ from cZ rfl) ?_;apply ⟨rfl,?_⟩;left;have tr:Tx r:=wds r (by simp);refine ⟨r," ",rfl,rfl,by decide +kernel,by have:=tr.1; omega,fun l2 n2=>?_⟩;have s2:=ao.new (o:=HO.lst ((Txt.split r " ").map V.str)) n2;have e2:=ai (H:=H1) (a:=l2) (o:=HO.lst ((Txt.split r " ").map V.str));generalize upd H1 l2 (HO.lst ((Txt.split r " ").map V.str))=H2 at s2 e2 ⊢;have s12:=s1.trans s2;apply b9 e2 ?_;rw [List.length_map];left;by_cases c4:(Txt.split r " ").length=4
    rotate_left
    · rw [show decide ((((Txt.split r " ").length:Nat):Int)=4)=false from aO (by omega)]
      apply nwT fun tq H3 stq ntq etq=>?_;exact no (fu hx (xu c4)) tq H3 (s12.trans stq) etq
    rw [show decide ((((Txt.split r " ").length:Nat):Int)=4)=true from aM (by omega)];obtain ⟨a,b,c,d,hq⟩:=vy c4;rw [hq] at e2;have twd:∀ y∈[a,b,c,d],Tx y:=fun y hy=>tr.word (y:=" ") (by rw [hq]; exact hy);apply aL (SqL.of e2) (v:=.str a) rfl ?_;apply ko ?_;by_cases ca:a="finds"
    rotate_left
    · rw [aO ca]
      apply nwT fun tq H3 stq ntq etq=>?_;exact no (fu hx (fL hq (.inl ca))) tq H3 (s12.trans stq) etq
    rw [aM ca];apply jc e2 fun l3 H3 s3 _ e3=>?_;rw [show bN ([a,b,c,d].map V.str) (some 1) none=[b,c,d].map V.str from fR _ _] at e3;refine ⟨l3,rfl,⟨_,SqL.of e3⟩,fun l4 n4=>?_⟩;refine gm (fun v=>match v with | .str y=>.int (aX y) | _=>.non) (SqL.of e3) (by show 3≤1000; decide) n4 (fun v o H' Q' hv s' q=>?_) (fun H4 s4 e4=>?_)
    · obtain ⟨y,hy,rfl⟩:=List.mem_map.mp hv
      left;exact ⟨y,rfl,twd y (List.mem_cons_of_mem _ hy),fun H5 s5=>q H5 s5⟩
    have e4:H4 l4=some (.lst [.int (aX b),.int (aX c),.int (aX d)]):=e4;have s14:=s12.trans (s3.trans s4);have e14:=s4 _ _ (s3 _ _ (s2 _ _ e1));refine ⟨l4,_,rfl,SqL.of e4,rfl,?_⟩;clear e4 s3 s4 e3;have ha:=AO d;have hw:=CA (r:=r) hq ca;have hbd:=AK (r:=r) hq;have nd:bI d=none→aX d=-1:=vJ;have nd':∀ k,bI d=some k→aX d=(k:Nat):=fun k=>iD;generalize aX b=ib at hw hbd ⊢;generalize aX c=ic at hw hbd ⊢;generalize aX d=id at ha nd nd' ⊢;left;by_cases b1:1≤ib
    rotate_left
    · rw [aO b1]
      apply nwT fun tq H5 stq ntq etq=>?_;exact no (fu hx (hbd (by omega))) tq H5 (s14.trans stq) etq
    rw [aM b1];left;by_cases b2:ib≤40
    rotate_left
    · rw [aO b2]
      apply nwT fun tq H5 stq ntq etq=>?_;exact no (fu hx (hbd (by omega))) tq H5 (s14.trans stq) etq
    rw [aM b2];left;by_cases b3:1≤ic
    rotate_left
    · rw [aO b3]
      apply nwT fun tq H5 stq ntq etq=>?_;exact no (fu hx (hbd (by omega))) tq H5 (s14.trans stq) etq
    rw [aM b3];left;by_cases b4:ic≤40
    rotate_left
    · rw [aO b4]
      apply nwT fun tq H5 stq ntq etq=>?_;exact no (fu hx (hbd (by omega))) tq H5 (s14.trans stq) etq
    rw [aM b4];left;have hw:=hw ⟨b1,b2⟩ ⟨b3,b4⟩;clear hbd;obtain ⟨wd,rfl⟩:=Int.eq_ofNat_of_zero_le (show 0≤ib by omega);obtain ⟨ht,rfl⟩:=Int.eq_ofNat_of_zero_le (show 0≤ic by omega);rw [Int.toNat_natCast,Int.toNat_natCast] at hw;refine nwL fun lf H5 slf nlf elf=>?_;have nlf:H lf=none:=s14.free nlf;have s15:=s14.trans slf;have e15:=slf _ _ e14;apply jc e15 fun l6 H6 s6 n6 e6=>?_;rw [show bN ((r::rs).map V.str) (some 1) none=rs.map V.str from fR _ _] at e6;have ne6:l6≠lf:=fun z=>by rw [z,elf] at n6; cases n6
    refine ⟨l6,rfl,⟨_,SqL.of e6⟩,?_⟩;refine dN (xs:=rs.map V.str) (fun i σ' H'=>∃ (o8 o9 o10 o11:Option V) (S:FSt) (xs:List V),σ'=[some (.str x),some (.ref l1),some (.ref l2),some (.int (wd:Nat)),some (.int (ht:Nat)),some (.int id),some (.ref lf),some (.int (S.2.1 - 1)),o8,o9,o10,o11]∧ao H H'∧H' l6=some (.lst (rs.map V.str))∧H' lf=some (.lst xs)∧PwP H' xs S.1∧eg wd ht ([],0,Fm.lone) (rs.take i)=some S)
        ⟨none,none,none,none,([],0,Fm.lone),[],rfl,s15.trans s6,e6,s6 _ _ elf,⟨rfl,fun i v nf h1=>by simp at h1⟩,rfl⟩ (fun i σ' H' _ ⟨_,_,_,_,_,_,_,_,e,_⟩=>SqL.of e) ?_ ?_
    · rintro i v σ' H7 hv ⟨o8,o9,o10,o11,S,xs,rfl,s7,e7,el7,pw7,hS⟩
      rw [List.getElem?_map] at hv;obtain ⟨row,hrow,rfl⟩:=Option.map_eq_some_iff.mp hv;have tw:Tx row:=wds row (by simp [List.mem_of_getElem? hrow]);have so:SOk wd ht S:=lM (SOk.nil wd ht) hS;have lS:=jP hS;have sp:=(lN hS (fun _ z=>nomatch z) (Int.le_refl _)).2;have nor:stW wd ht S row=none→∀ tp H',ao H H'→H' tp=some (.tup [.str "no",.bl true,.bl false])→Q (.ref tp) H':=fun z=>no (by
        cases q:bI d with
        | none=>rw [q] at hw; exact fu hx hw
        | some kd=>rw [q] at hw; exact xi hx hw (rM hS hrow z))
      apply ⟨rfl,?_⟩;apply ⟨row," ",rfl,rfl,by decide +kernel,by have:=tw.1; omega,fun l8 n8=>?_⟩;have s8:=ao.new (o:=HO.lst ((Txt.split row " ").map V.str)) n8;have e8:=ai (H:=H7) (a:=l8) (o:=HO.lst ((Txt.split row " ").map V.str));generalize upd H7 l8 (HO.lst ((Txt.split row " ").map V.str))=H8 at s8 e8 ⊢;obtain ⟨wa,ws,hw'⟩:∃ a ws,Txt.split row " "=a::ws:=by
        cases q:Txt.split row " " with
        | nil=>exact absurd q (fc _ _)
        | cons a ws=>exact ⟨a,ws,rfl⟩
      have twd':∀ y∈wa::ws,Tx y:=fun y hy=>tw.word (y:=" ") (by rw [hw']; exact hy);rw [hw'] at e8;apply aL (SqL.of e8) (v:=.str wa) (show atI _ ((0:Nat):Int)=_ from cZ rfl) ?_;apply ⟨wa,rfl,twd' wa (by simp),fun H9 s9=>?_⟩;apply jc (s9 _ _ e8) fun l10 H10 s10 _ e10=>?_;rw [show bN ((wa::ws).map V.str) (some 1) none=ws.map V.str from fR _ _] at e10;have s710:=s8.trans (s9.trans s10);apply ⟨l10,ws,(wd:Nat),(ht:Nat),rfl,e10,fun y hy=>twd' y (by simp [hy]),fun hn H11 s11=>?_,fun f hf hin af H11 s11 haf=>?_⟩
      · have s711:=s710.trans s11
        left;by_cases cl:aX wa≤S.2.1 - 1
        · rw [aM cl]
          apply nwT fun tq H12 stq ntq etq=>?_;exact nor (fg fun a' ws' k' f' q1 q2 q3 q4 q5=>by rw [hw'] at q1; cases q1; exact absurd q5 (hn f' q3)) tq H12 (s7.trans (s711.trans stq)) etq
        · rw [aO cl]
          apply ⟨rfl,_,rfl,?_⟩;rw [aM rfl];apply nwT fun tq H12 stq ntq etq=>?_;exact nor (fg fun a' ws' k' f' q1 q2 q3 q4 q5=>by rw [hw'] at q1; cases q1; exact absurd q5 (hn f' q3)) tq H12 (s7.trans (s711.trans stq)) etq
      · have s711:=s710.trans s11
        left;by_cases cl:aX wa≤S.2.1 - 1
        · rw [aM cl]
          apply nwT fun tq H12 stq ntq etq=>?_;exact nor (fg fun a' ws' k' f' q1 q2 q3 q4 q5=>by rw [hw'] at q1; cases q1; rw [iD q2] at cl; omega) tq H12 (s7.trans (s711.trans stq)) etq
        · rw [aO cl]
          apply ⟨rfl,_,rfl,?_⟩;rw [aO (by intro z; cases z)];left;have el11:=s711 _ _ el7;have pw11:=pw7.mono s711;have lw5:=mT (r:=r) (i:=i) (iF hS);rw [jn] at lw5;have lS:S.1.length=(rs.take i).length:=by rw [lS]; show 0+_=_; omega
          have lxs:=pw11.1;refine ⟨⟨_,SqL.of el11⟩,fun l12 n12=>?_⟩;refine gm (kX H11) (SqL.of el11) (by omega) n12 (fun y o H' Q' hy s' q=>?_) (fun H12 s12' e12=>?_)
          · obtain ⟨b',a',nf,rfl,_,hb',_⟩:=pw11.mem hy
            apply aA (SqT.of (s' _ _ hb')) (v:=.ref a') rfl ?_;have es:kX H11 (.ref b')=.ref a':=by simp only [kX,hb']
            rw [es] at q;exact q H' (ao.refl _)
          have s712:=s711.trans s12';have pw12:=pw11.mono s12';have el12:=s12' _ _ el11;have haf12:=s12' _ _ haf;refine y7 e12 (pw11.snds.mono s12') haf12 ?_;by_cases hm:f∈S.1.map (·.2)
          · rw [aM hm]
            apply nwT fun tq H13 stq ntq etq=>?_;exact nor (fg fun a' ws' k' f' q1 q2 q3 q4 q5 q6=>by rw [hw'] at q1; cases q1; rw [hf] at q3; cases q3; exact absurd hm q6) tq H13 (s7.trans (s712.trans stq)) etq
          rw [aO hm];obtain ⟨vv,fo⟩:=so;apply ⟨lf,af,xs,S.1,_,S.2.2,vv,wd,ht,f,rfl,el12,pw12,by omega,fo,by omega,by omega,haf12,hin,fun bb H13 s13 hbb=>?_⟩
          cases bb with
          | true =>
            apply nwT fun tq H14 stq ntq etq=>?_;exact nor (fg fun a' ws' k' f' q1 q2 q3 q4 q5 q6=>by rw [hw'] at q1; cases q1; rw [hf] at q3; cases q3; exact hbb.mp rfl) tq H14 (s7.trans (s712.trans (s13.trans stq))) etq
          | false =>
            have ncl:¬ Clh S.2.2 f:=fun z=>by have:=hbb.mpr z; cases this
            obtain ⟨kn,hk,ek⟩:=eP (x:=wa) (by omega);rw [ek];left;have s713:=s712.trans s13;have el13:=s13 _ _ el12;have pw13:=pw12.mono s13;have haf13:=s13 _ _ haf12;refine dF el13 ?_;apply nwT fun b3 H14 sb3 nb3 eb3=>?_;apply bX (sb3 _ _ el13) (aZ (by omega)) ?_;have st:=zN (S:=S) (wd:=wd) (ht:=ht) hw' hk hf (by omega) hin hm ncl;have tk:rs.take (i+1)=rs.take i++[row]:=by rw [List.take_add_one,hrow]; rfl
            have mu:aV [lf] H14 (upd H14 lf (.lst (xs++[.ref b3]))):=(aV.refl _ _).upd (by simp);have nt:NoT H14 [lf]:=fun y hy ys=>by rw [List.mem_singleton.mp hy,sb3 _ _ el13]; intro z; cases z
            have s714:=s713.trans sb3;apply ⟨some (.str row),some (.ref l8),some (.int ((kn:Nat):Int)),some (.ref af),(S.1++[(((kn:Nat):Int),f)],((kn:Nat):Int)+1,Fm.gN S.2.2 f.tie),_,?_,(s7.trans s714).later nlf,?_,ai,((pw13.mono sb3).snoc eb3 (sb3 _ _ haf13)).but mu nt,by rw [tk,kq hS]; exact st⟩
            · show _=[_,_,_,_,_,_,_,some (V.int (((kn:Nat):Int)+1 - 1)),_,_,_,_]
              rw [show ((kn:Nat):Int)+1 - 1=(kn:Nat) by omega];rfl
            · rw [aw ne6]; exact s714 _ _ e7
    · rintro σ' H7 ⟨o8,o9,o10,o11,S,xs,rfl,s7,e7,el7,pw7,hS⟩
      rw [List.length_map,List.take_length] at hS;have sp:=(lN hS (fun _ z=>nomatch z) (Int.le_refl _)).2;left;by_cases cl:id≤S.2.1 - 1
      · rw [aM cl]
        apply nwT fun tq H8 stq ntq etq=>?_;refine no ?_ tq H8 (s7.trans stq) etq
        cases q:bI d with
        | none=>rw [q] at hw; exact fu hx hw
        | some kd =>
          rw [q] at hw;have:=nd' kd q
          rw [uA hx hw hS,if_neg (by omega)]
      · rw [aO cl]
        obtain ⟨kd,q⟩:∃ kd,bI d=some kd:=by
          cases q:bI d with
          | none=>have:=nd q; omega
          | some kd=>exact ⟨kd,rfl⟩
        rw [q] at hw;have ek:=nd' kd q;have fin:=uA hx hw hS;rw [if_pos (by omega)] at fin;apply nwL fun la H8 sla nla ela=>?_;apply nwT fun tq H9 stq ntq etq=>?_;refine k tq H9 (s7.trans (sla.trans stq)) ?_;rw [mh fin];exact uY etq (stq _ _ ela) (stq _ _ (sla _ _ el7)) ((pw7.mono sla).mono stq)
end
section
noncomputable def Em:Expr→Option Str
 | .Constant (.str x) _ _=>some x
 | _=>none
noncomputable def nj:List Expr→Option (List Str)
 | []=>some []
 | e::es=>(Em e).bind fun x=>(nj es).map (x::·)
def u7 (xs:List Str):TA:=fun _ H Q=>Q (xs.map V.str) H
theorem uN {X:Cx}:∀ {es:List Expr} {xs:List Str},nj es=some xs→PA X es (u7 xs)
 | [],xs,h=>by cases h; exact ag
 | e::es,xs,h=>by
  unfold nj at h
  cases e with
  | Constant k j pos =>
   cases k with
   | str x =>
    cases e1:nj es with
    | none=>rw [e1] at h; cases h
    | some ys =>
     rw [e1] at h; cases h;exact aa (t:=u7 ys) aj (uN e1) rfl
   | _=>cases h
  | _ => cases h
structure PSW (X:Cx) (st:Stmt) (t:TS):Prop where
 h:PS X st t
theorem DT {X:Cx} {s:Stmt} {ss:List Stmt} {r:TS} {C:TS→Prop} (d:PSW X s r) (k:∀ r',r'=r→∃ ts,PSs X ss ts∧C (BH r' ts)):∃ ts,PSs X (s::ss) ts∧C ts:=aH d.h k
theorem tP {X:Cx} {i:Nat} {x:Str} {es:List Expr} {xs:List Str} {p1 p2 p3:Pos} (hN:X.N.Nodup) (hi:X.N[i]?=some x) (hx:Loc X.env.scope x) (h:nj es=some xs) (hf:X.fn x=true∨X.env.scope.names.lookup x=some .local:=by first | exact .inl rfl | exact .inr rfl | assumption) :
  PSW X (.Assign [.Name x p1] (.List es p2) p3) (wu (Dz (u7 xs)) (d7 i)):=⟨jb hN hi hx (bP (uN h)) rfl hf⟩
theorem Bw {xs:List Str} {ys:List V} {σ:L2.St} {H:Hp} {Q:List V→Hp→Prop} (e:xs.map V.str=ys) (q:Q ys H):u7 xs σ H Q:=by subst e; exact q
end
section
variable {P:Program} {w:World} {K:W.Frag} {mg:Str→Option Value} {base:Heap} {t:Ad}
theorem jF:∀ n,n<100→(nT n).length≤2∧∀ c∈(nT n).cps.toList,c<128:=by
 have h:((List.range 100).all fun n=>decide ((nT n).length≤2)&&(nT n).cps.toList.all fun c=>decide (c<128))=true:=by decide +kernel
 intro n hn;have:=List.all_eq_true.mp h n (List.mem_range.mpr hn)
 rw [Bool.and_eq_true,List.all_eq_true] at this;exact ⟨of_decide_eq_true this.1,fun c hc=>of_decide_eq_true (this.2 c hc)⟩
theorem qy {L:List Str} {n:Nat} (h:(L.all fun x=>decide (x.length≤n)&&x.cps.toList.all fun c=>decide (c<128))=true):∀ y∈L,TxN n y:=fun y hy=>by
 have:=List.all_eq_true.mp h y hy
 rw [Bool.and_eq_true,List.all_eq_true] at this;exact ⟨of_decide_eq_true this.1,fun c hc=>of_decide_eq_true (this.2 c hc)⟩
theorem Al {n:Nat}:∀ {ps:List Str},(∀ p∈ps,TxN n p)→wts ps≤ps.length*(n+1)
 | [],_=>Nat.zero_le _
 | p::ps,h=>by
  have a:=(h p List.mem_cons_self).1;have b:=Al (ps:=ps) fun q hq=>h q (List.mem_cons_of_mem _ hq);have e:wts (p::ps)=p.length+1+wts ps:=by unfold wts; rw [List.map_cons,List.sum_cons,List.length_cons]; omega
  rw [e,List.length_cons,Nat.add_mul];omega
theorem Du {a:Int} {f:Fct} {wd ht:Nat} (h0:0≤a) (h1:a<100) (lw:wd≤40) (lh:ht≤40) (hi:f.inW wd ht):TxN 19 (gM a f):=by
 have t1:TxN 1 " ":=⟨by decide +kernel,by decide +kernel⟩
 have na:TxN 2 (nT a.toNat):=jF _ (by omega);have go:∀ {u v x y:Str},TxN 4 u→TxN 2 v→TxN 2 x→TxN 4 y→TxN 19 (Str.join " " [nT a.toNat,u,v,x,y]):=fun {u v x y} h1 h2 h3 h4=>by
  rw [← jw];refine iu t1 (by decide +kernel) (fun p hp=>?_) ?_
  ·symm at hp;rcases hp with rfl | rfl | rfl | rfl | rfl
   ·exact na.2
   ·exact h1.2
   ·exact h2.2
   ·exact h3.2
   ·exact h4.2
  ·have:=na.1; have:=h1.1; have:=h2.1; have:=h3.1; have:=h4.1
   unfold wts;simp only [List.map_cons,List.map_nil,List.sum_cons,List.sum_nil,List.length_cons,List.length_nil];omega
 cases f with
 | cell x y c =>
  obtain ⟨h1,h2,h3⟩:=hi;exact go (qy (L:=["cell"]) (by decide +kernel) _ List.mem_cons_self) (jF _ (by omega)) (jF _ (by omega)) (TxN.le (jF _ (by omega)) (by decide))
 | line col k s b =>
  have hk:(0≤k∧k<100)∧0≤s∧s<100:=by
   cases col
   ·have h:(0≤k∧k<(ht:Int) - 1)∧0≤s∧s<(wd:Int):=hi;omega
   ·have h:(0≤k∧k<(wd:Int) - 1)∧0≤s∧s<(ht:Int):=hi;omega
  exact go (by cases col<;>exact ⟨by decide +kernel,by decide +kernel⟩) (jF _ (by omega)) (jF _ (by omega)) (by cases b<;>exact ⟨by decide +kernel,by decide +kernel⟩)
theorem DV {wd ht:Nat} {n:Int} (h0:0≤n) (h1:n<100) (lw:wd≤40) (lh:ht≤40):TxN 15 (hdS wd ht n):=by
 have t1:TxN 1 " ":=⟨by decide +kernel,by decide +kernel⟩
 have h1:TxN 2 (nT wd):=jF _ (by omega);have h2:TxN 2 (nT ht):=jF _ (by omega);have h3:TxN 2 (nT n.toNat):=jF _ (by omega);have hf:TxN 5 "finds":=⟨by decide +kernel,by decide +kernel⟩
 unfold hdS;rw [← jw];refine iu t1 (by decide +kernel) (fun p hp=>?_) ?_
 ·symm at hp;rcases hp with rfl | rfl | rfl | rfl
  ·exact hf.2
  ·exact h1.2
  ·exact h2.2
  ·exact h3.2
 ·have:=hf.1; have:=h1.1; have:=h2.1; have:=h3.1
  unfold wts;simp only [List.map_cons,List.map_nil,List.sum_cons,List.sum_nil,List.length_cons,List.length_nil];omega
theorem Cy {wd ht:Nat} {n:Int} {F:List (Int×Fct)} (h0:0≤n) (h1:n≤14) (lw:wd≤40) (lh:ht≤40) (lF:F.length≤14) (hF:∀ nf∈F,(0≤nf.1∧nf.1<n)∧nf.2.inW wd ht):TxN 300 (xh wd ht n F):=by
 have t1:TxN 1 "\n":=⟨by decide +kernel,by decide +kernel⟩
 have a:=DV (n:=n) h0 (by omega) lw lh;have b:∀ p∈F.map fun nf=>gM nf.1 nf.2,TxN 19 p:=fun p hp=>by
  obtain ⟨nf,hm,rfl⟩:=List.mem_map.mp hp;have:=hF nf hm
  exact Du this.1.1 (by omega) lw lh this.2
 have c:=Al b;unfold xh;rw [← jw];refine iu t1 (by decide +kernel) (fun p hp=>?_) ?_
 ·rcases List.mem_cons.mp hp with rfl | hp
  ·exact a.2
  ·exact (b p hp).2
 ·have e:wts (hdS wd ht n::F.map fun nf=>gM nf.1 nf.2)=(hdS wd ht n).length+1+wts (F.map fun nf=>gM nf.1 nf.2):=by unfold wts; rw [List.map_cons,List.sum_cons,List.length_cons]; omega
  have:=a.1
  rw [List.length_map] at c;rw [e];omega
def Nr (H:Hp) (l:Addr) (m:Nat):Prop:=∃ ys:List Str,H l=some (.lst (ys.map V.str))∧ys.length=m∧∀ y∈ys,TxN 950 y
theorem Nr.mono {H H':Hp} {l:Addr} {m:Nat} (h:Nr H l m) (s:ao H H'):Nr H' l m:=let ⟨ys,a,b,c⟩:=h; ⟨ys,s _ _ a,b,c⟩
theorem oP {H:Hp} {Q:VK} {a b:Addr} {m:Nat} {zs:List Str} (h:Nr H a m) (hm:m≤100) (hb:H b=some (.lst (zs.map V.str))) (hz:(zs.all fun x=>decide (x.length≤950)&&x.cps.toList.all fun c=>decide (c<128))=true) (lz:zs.length≤100)
  (k:∀ l H',ao H H'→Nr H' l (m+zs.length)→Q (.ref l) H'):A3 (.ref a) (.ref b) H Q:=by
 obtain ⟨ys,e1,ly,ty⟩:=h;refine dG e1 hb (by rw [List.length_map,List.length_map,ly]; exact Nat.le_trans (Nat.add_le_add hm lz) (by decide)) fun l H' s _ e=>k l H' s ⟨ys++zs,by rw [e,List.map_append],by rw [List.length_append,ly],fun y hy=>?_⟩;rcases List.mem_append.mp hy with z | z
 ·exact ty y z
 ·exact qy hz y z
def sp_law (K:W.Frag):Sp:=fun vs H Q _=>∃ (a:Addr) (ns:List Int),vs=[.ref a]∧SqL K H a (ns.map V.int)∧ns.length≤63∧∀ H',Q (.bl true) H'
theorem CJ (T:Txt K mg t):aU P w K mg base CX0 16 t.f_law t.d_law ["_law_script"] (sp_law K):=by
  refine T.F_law.ok dJ (fun vs H Q E h=>?_) (fun cdv A outer s H vs Q E hr h=>?_)
  · obtain ⟨a,ns,rfl,_⟩:=h; rfl
  · obtain ⟨a,ns,rfl,hS,hl,z⟩:=h
    refine aH (jb (i:=1) dJ.nd rfl (Or.inr rfl) (aB (ok_aR T) (rmo hr) rfl T.mg_aR T.F_aR.kp T.b_aR .nil bo (aa (pv 0) (aa ae ag)))) fun _ _=>aH (aF 2 dJ.nd (aB (ok_aZ T) (rmo hr) rfl T.mg_aZ T.F_aZ.kp T.b_aZ .nil bo (aa (pv 1) ag))) fun _ _=>aH (aF 3 dJ.nd (AX T.mk_ab (ok_ar T) (rmo hr) rfl T.mg_ab T.b_ar .nil bo (aa (av bf (aC (cn K rfl) rfl T.no_len (by rfl) (aa (au (ay K rfl) (pv 2) ae) ag)) ae) (aa (av bf (aC (cn K rfl) rfl T.no_len (by rfl) (aa (au (ay K rfl) (pv 2) ae) ag)) ae) ag)))) fun _ _=>aH (bG (aB (ok_aW T) (rmo hr) rfl T.mg_aW T.F_aW.kp T.b_aW .nil bo (aa (pv 3) (aa (pv 2) (aa (pv 1) ag))))) fun _ _=>aH (jb (i:=4) dJ.nd rfl (Or.inr rfl) (aB (ok_as T) (rmo hr) rfl T.mg_as T.F_as.kp T.b_as .nil bo (aa (pv 3) ag))) fun _ _=>aH (aF 5 dJ.nd aj) fun _ _=>DT (tP (i:=6) (xs:=["","finds","finds 1 1","finds 1 1 0","finds 1 1 999999","finds 1 1 1000000","finds 0 1 0"]) dJ.nd rfl (Or.inl rfl) rfl) fun _ _=>aH (aF 6 dJ.nd (av cT (pv 6) (bP (aa aj (aa aj (aa aj (aa aj (aa aj ag)))))))) fun _ _=>aH (aF 6 dJ.nd (av cT (pv 6) (bP (aa (av bh (pv 5) aj) (aa (av bh (pv 5) aj) (aa (av bh (pv 5) aj) (aa (av bh (pv 5) aj) ag))))))) fun _ _=>aH (aF 6 dJ.nd (av cT (pv 6) (bP (aa (av bh (pv 5) aj) (aa (av bh (pv 5) aj) (aa (av bh (pv 5) aj) ag)))))) fun _ _=>aH (aF 6 dJ.nd (av cT (pv 6) (bP (aa (av bh (pv 5) aj) (aa (av bh (pv 5) aj) ag))))) fun _ _=>aH (aF 6 dJ.nd (av cT (pv 6) (bP (aa (av bh (pv 5) aj) (aa (av bh (pv 5) aj) ag))))) fun _ _=>aH (aF 6 dJ.nd (av cT (pv 6) (bP (aa (av bh (pv 5) aj) (aa (av bh (pv 5) aj) ag))))) fun _ _=>aH (uS (i:=7) dJ.nd rfl (Or.inl rfl) (N:=["_law_k","_law_text","_law_some"]) (cap:=[none,some 4,some 1]) rfl ⟨rfl,rfl,rfl,rfl,rfl,rfl⟩ (dQ rfl T.no_a8 (aa ae ag)) (fun _ _ _=>(aP (i:=0) (show (["_law_k","_law_text","_law_some"]:List Str).Nodup by decide +kernel) rfl (Or.inl rfl))) (fun _ _ _=>dZ) (fun _ _ _=>(aB (ok_aG T) (rmo hr) rfl T.mg_aG T.F_aG.kp T.b_aG .nil bo (aa (pv 1) (aa (aY (bE K rfl) (pv 2) (bA (av bf ae (av dP ae (pv 0)))) bz) ag)))) (by rfl)) fun _ _=>cS (aJ (aC (lC K rfl rfl) rfl T.no_all (by rfl) (aa (eQ (N:=["_law_one"]) (cap:=[none]) rfl ⟨rfl,rfl,rfl,rfl,rfl,rfl⟩ (cO (av cT (av cT (pv 6) (pv 7)) (bP (aa (pv 4) ag)))) (fun _ _ _=>(aP (i:=0) (show (["_law_one"]:List Str).Nodup by decide +kernel) rfl (Or.inl rfl))) (fun _ _ _=>dZ) (fun _ _ _=>(aB (vN T) (rmo hr) rfl T.mg_a1 T.F_a1.kp T.b_a1 .nil bo (aa (aB (ok_a6 T) (rmo hr) rfl T.mg_a6 T.F_a6.kp T.b_a6 .nil bo (aa (pv 0) ag)) (aa (aB (ok_aA T) (rmo hr) rfl T.mg_aA T.F_aA.kp T.b_aA .nil bo (aa (pv 0) ag)) ag))))) ag))) fun _ _=>?_;apply ⟨a,150,ns,rfl,hS,hl,by decide,fun ls zs H1 s1 es lz _ sm=>?_⟩;apply ⟨ls,zs,rfl,es,by omega,fun pp s cs rs H2 s2 pl=>?_⟩;have es:=s2 _ _ es;clear s1 s2;obtain ⟨⟨c,r,hq,hc,hr'⟩,sh,bc,br⟩:=id pl;have lc:=bc.1;have lr:=br.1;apply aA (SqT.of hq) (v:=.ref c) rfl ?_;apply b9 hc ?_;rw [List.length_map];apply aA (SqT.of hq) (v:=.ref r) rfl ?_;apply b9 hr' ?_;rw [List.length_map];left;intro x dx nx ndx nex;have s6:ao H2 (upd (upd H2 dx (.own x)) x (.ins t.a_ab dx [])):=(ao.new ndx).later nx;refine ⟨x,dx,cs.length+1,rs.length+1,rfl,ai,⟨by omega,by omega⟩,⟨by omega,by omega⟩,fun df dg0 H3 m3 n1 n2 f3=>⟨rfl,?_⟩⟩;have s3:ao H2 H3:=fun b o e=>m3 b o (s6 b o e) (by rw [List.mem_singleton]; exact aE e nx);apply ⟨x,pp,ls,df,dg0,zs,s,cs,rs,rfl,pl.mono s3,f3,s3 _ _ es,by omega,fun lg dg' F n G H4 m4 f4 fo lF n0 n14 ps=>?_⟩;have es4:=fm m4 f3.outS (s3 _ _ es);left;have hF:∀ nf∈F,(0≤nf.1∧nf.1<n)∧nf.2.inW ((cs.length+1:Nat):Int) ((rs.length+1:Nat):Int):=fun nf hm=>⟨⟨ps nf hm,fo.lt nf hm⟩,fo.inw nf hm⟩
    refine ⟨x,df,dg',_,_,F,n,G,rfl,f4,by omega,by omega,⟨n0,by omega⟩,by omega,fun nf hm=>⟨⟨ps nf hm,by have:=fo.lt nf hm; omega⟩,w6 (by omega) (by omega) (fo.inw nf hm)⟩,fun H5 s5=>?_⟩;have tn:=Cy n0 n14 (show cs.length+1≤40 by omega) (show rs.length+1≤40 by omega) lF hF;generalize xh (cs.length+1) (rs.length+1) n F=tx at tn ⊢;have es5:=s5 _ _ es4;clear es es4 s5 m4 f4 fo hF ps f3 s3 m3 s6 pl hq hc hr' n1 n2 nx ndx;apply Bw (ys:=(["","finds","finds 1 1","finds 1 1 0","finds 1 1 999999","finds 1 1 1000000","finds 0 1 0"]:List Str).map V.str) rfl ?_;refine ⟨by show 7≤sizeLine; decide,fun la na=>?_⟩;have sa:=ao.new (o:=HO.lst ((["","finds","finds 1 1","finds 1 1 0","finds 1 1 999999","finds 1 1 1000000","finds 0 1 0"]:List Str).map V.str)) na;have nr:Nr (upd H5 la (HO.lst ((["","finds","finds 1 1","finds 1 1 0","finds 1 1 999999","finds 1 1 1000000","finds 0 1 0"]:List Str).map V.str))) la 7:=⟨_,ai,rfl,qy (by decide +kernel)⟩
    generalize upd H5 la (HO.lst ((["","finds","finds 1 1","finds 1 1 0","finds 1 1 999999","finds 1 1 1000000","finds 0 1 0"]:List Str).map V.str))=H6 at sa nr ⊢;have es6:=sa _ _ es5;clear sa es5 na;apply nwL fun lb H7 slb nlb elb=>?_;apply oP (zs:=["finds 41 1 0","finds 01 1 0","finds 1 1 -1","Finds 1 1 0","finds 1 1 0\n"]) (nr.mono slb) (by decide) elb (by decide +kernel) (by decide) fun ln H8 sn nr=>?_;have nr:Nr H8 ln 12:=nr;have es8:=sn _ _ (slb _ _ es6);clear elb slb sn es6;apply ⟨_,_,rfl,rfl,by decide +kernel,?_⟩;apply ⟨_,_,rfl,rfl,by decide +kernel,?_⟩;apply ⟨_,_,rfl,rfl,by decide +kernel,?_⟩;apply ⟨_,_,rfl,rfl,by decide +kernel,?_⟩;apply nwL fun lb H9 slb nlb elb=>?_;apply oP (zs:=["finds 2 2 9\n"++"0 cell 0 0 2","finds 2 2 9\n"++"0 cell 2 0 1","finds 2 2 9\n"++"9 cell 0 0 1","finds 2 2 9\n"++"8 cell 0 0 1"]) (nr.mono slb) (by decide) elb (by decide +kernel) (by decide) fun ln H10 sn nr=>?_;have nr:Nr H10 ln 16:=nr;have es10:=sn _ _ (slb _ _ es8);clear elb slb sn es8;apply ⟨_,_,rfl,rfl,by decide +kernel,?_⟩;apply ⟨_,_,rfl,rfl,by decide +kernel,?_⟩;apply ⟨_,_,rfl,rfl,by decide +kernel,?_⟩;apply nwL fun lb H11 slb nlb elb=>?_;apply oP (zs:=["finds 2 2 9\n"++"0 cell 0 0 1\n0 cell 1 1 1","finds 2 2 9\n"++"0 col 0 1 True","finds 2 2 9\n"++"0 col 1 0 sewn"]) (nr.mono slb) (by decide) elb (by decide +kernel) (by decide) fun ln H12 sn nr=>?_;have nr:Nr H12 ln 19:=nr;have es12:=sn _ _ (slb _ _ es10);clear elb slb sn es10;apply ⟨_,_,rfl,rfl,by decide +kernel,?_⟩;apply ⟨_,_,rfl,rfl,by decide +kernel,?_⟩;apply nwL fun lb H13 slb nlb elb=>?_;apply oP (zs:=["finds 2 2 9\n"++"0 row 0 2 bare","finds 2 2 9\n"++"0 row 0 1 bare\n1 row 0 0 bare"]) (nr.mono slb) (by decide) elb (by decide +kernel) (by decide) fun ln H14 sn nr=>?_;have nr:Nr H14 ln 21:=nr;have es14:=sn _ _ (slb _ _ es12);clear elb slb sn es12;apply ⟨_,_,rfl,rfl,by decide +kernel,?_⟩;apply ⟨_,_,rfl,rfl,by decide +kernel,?_⟩;apply nwL fun lb H15 slb nlb elb=>?_;apply oP (zs:=["finds 2 2 9\n"++"0 row 0 1 bare\n1 row 0 0 sewn","finds 2 2 9\n"++"1 cell 0 0 1\n4 cell 0 0 1"]) (nr.mono slb) (by decide) elb (by decide +kernel) (by decide) fun ln H16 sn nr=>?_;have nr:Nr H16 ln 23:=nr;have es16:=sn _ _ (slb _ _ es14);clear elb slb sn es14;apply ⟨_,_,rfl,rfl,by decide +kernel,?_⟩;apply ⟨_,_,rfl,rfl,by decide +kernel,?_⟩;apply nwL fun lb H17 slb nlb elb=>?_;apply oP (zs:=["finds 2 2 9\n"++"4 cell 0 0 1\n1 cell 0 1 1","finds 2 2 9\n"++"0 diag 0 0 sewn"]) (nr.mono slb) (by decide) elb (by decide +kernel) (by decide) fun ln H18 sn nr=>?_;have nr:Nr H18 ln 25:=nr;have es18:=sn _ _ (slb _ _ es16);clear elb slb sn es16;left;obtain ⟨ys0,en,ly0,ty0⟩:=nr;refine ⟨10,rfl,by decide,by decide,fun lk nk=>?_⟩;refine pC (fun i v H'=>∃ y:Str,v=.str y∧TxN 950 y) (by decide) nk (fun i v H1 H2 _ h=>h) (fun i o H' Q' hi s' _ q=>?_) (fun ys Hk sk ek ly hR=>?_)
    · have hi8:i<10:=hi
      apply bB (by first | trivial | (unfold As; omega)) ?_;left;rw [show (70:Int)+4*((0:Int)+(i:Nat))=((70+4*i:Nat):Int) by omega];refine jc (s' _ _ es18) fun lz Hc sz _ ez=>?_;rw [iy] at ez;left;exact ⟨tx,lz,zs.drop (70+4*i),rfl,tn,ez,by rw [List.length_drop]; omega,fun y H5 ty s5=>q _ _ (sz.trans s5) ⟨y,rfl,ty⟩⟩
    · have ly:ys.length=10:=ly
      apply dG (sk _ _ en) ek (by rw [List.length_map,ly0,ly]; decide) fun lp Hp' s19 _ e19=>?_;apply nwL fun lm Hm slm nlm elm=>?_;apply dG (slm _ _ e19) elm (by rw [List.length_append,List.length_map,ly0,ly]; show 25+10+1≤sizeLine; decide) fun lx Hx s21 _ e21=>?_;apply ⟨⟨_,SqL.of e21⟩,fun lw nw=>?_⟩;refine gm (fun _=>.bl true) (SqL.of e21) (by rw [List.length_append,List.length_append,List.length_map,ly0,ly]; show 25+10+1≤1000; decide) nw (fun v o H' Q' hv s' q=>?_) (fun H22 s22 e22=>?_)
      · obtain ⟨y,rfl,ty⟩:∃ y,v=.str y∧TxN 950 y:=by
          rcases List.mem_append.mp hv with h | h
          · rcases List.mem_append.mp h with h | h
            · obtain ⟨y,hy,rfl⟩:=List.mem_map.mp h
              exact ⟨y,rfl,ty0 y hy⟩
            · obtain ⟨i,hi⟩:=List.getElem?_of_mem h
              exact hR i v hi
          · exact ⟨tx,List.mem_singleton.mp h,tn.le (by decide)⟩
        have ty':=ty.tx (by decide);apply ⟨y,rfl,ty',ty.1,fun t1 Ha sa r1=>?_⟩;apply ⟨y,rfl,ty',ty.1,fun t2 Hb sb r2=>?_⟩;left;exact ⟨.ref t1,.ref t2,qU y,rfl,Cv ty',r1.mono sb,r2,fun Hc sc=>q _ ((sa.trans sb).trans sc)⟩
      · left
        generalize ys0.map V.str++ys++[V.str tx]=L at e22;have e22:H22 lw=some (.lst ((L.map fun _=>true).map V.bl)):=by rw [e22,List.map_map]; rfl
        refine mP e22 ?_;rw [List.all_map,show L.all (id∘fun _=>true)=true from List.all_eq_true.mpr fun _ _=>rfl];exact z _
end
end My
namespace PySem.W.Fast
theorem tw9337836338429780422:True:=⟨⟩
theorem tw4048359535750446282:True:=⟨⟩
theorem tw10694430686947894931:True:=⟨⟩
theorem tw11242910965723681840:True:=⟨⟩
theorem tw4097772550915421177:True:=⟨⟩
theorem tw7206337395017682067:True:=⟨⟩
theorem tw14926520587044225151:True:=⟨⟩
theorem tw1706690969525199920:True:=⟨⟩
theorem tw815731245526571432:True:=⟨⟩
theorem tw12985640436914216292:True:=⟨⟩
theorem tw1922844205291827230:True:=⟨⟩
theorem tw2049200647167669816:True:=⟨⟩
theorem tw10641307993372840041:True:=⟨⟩
theorem tw16107790996765337416:True:=⟨⟩
theorem tw4391733609660902507:True:=⟨⟩
theorem tw5199096741943868976:True:=⟨⟩
theorem tw12744484254986950483:True:=⟨⟩
theorem tw3883244826993107552:True:=⟨⟩
theorem tw345488487398059854:True:=⟨⟩
theorem tw5892899385111566658:True:=⟨⟩
theorem tw14800911550856512126:True:=⟨⟩
theorem tw7532363819092581029:True:=⟨⟩
theorem tw17447609319611760391:True:=⟨⟩
theorem tw18282125253015119037:True:=⟨⟩
theorem tw10479005905861056937:True:=⟨⟩
theorem tw7146838508878410533:True:=⟨⟩
theorem tw4121043414782362915:True:=⟨⟩
theorem tw5150675142992863460:True:=⟨⟩
theorem tw15650914681457106967:True:=⟨⟩
theorem tw14629402162648037867:True:=⟨⟩
theorem tw17087013314317573904:True:=⟨⟩
theorem tw2983857660594259732:True:=⟨⟩
theorem tw18301760155221369817:True:=⟨⟩
theorem tw12389722683223076824:True:=⟨⟩
theorem tw2926088081520954588:True:=⟨⟩
theorem tw4651236472205647500:True:=⟨⟩
theorem tw5128577489474533453:True:=⟨⟩
theorem tw2011707814599126949:True:=⟨⟩
theorem tw4871182226481963176:True:=⟨⟩
theorem tw7401243716672709147:True:=⟨⟩
theorem tw2982058765358270062:True:=⟨⟩
theorem tw3205542939672557932:True:=⟨⟩
theorem tw10136660079751259802:True:=⟨⟩
theorem tw11352360695432449343:True:=⟨⟩
theorem tw6586533728083400093:True:=⟨⟩
theorem tw14573138625374262122:True:=⟨⟩
theorem tw15603974955561600920:True:=⟨⟩
theorem tw1310221519695715352:True:=⟨⟩
theorem tw13236088100965011909:True:=⟨⟩
theorem tw10001284752287086837:True:=⟨⟩
theorem tw16635607647755560106:True:=⟨⟩
theorem tw3291329778243504287:True:=⟨⟩
theorem tw10895736156495503992:True:=⟨⟩
theorem tw9157096176242003787:True:=⟨⟩
theorem tw15929488965123072895:True:=⟨⟩
theorem tw1169773698325060548:True:=⟨⟩
theorem tw7512482749624185864:True:=⟨⟩
theorem tw8359026996987520193:True:=⟨⟩
theorem tw7210806932791744548:True:=⟨⟩
theorem tw11361783131831509772:True:=⟨⟩
theorem tw8780460027220657113:True:=⟨⟩
theorem tw2775245971694505998:True:=⟨⟩
theorem tw14682922428733183126:True:=⟨⟩
theorem tw9864008288868182326:True:=⟨⟩
theorem tw4347555061743357941:True:=⟨⟩
theorem tw17086035320703328075:True:=⟨⟩
theorem tw15727191978816481010:True:=⟨⟩
theorem tw4059804300806811918:True:=⟨⟩
theorem tw16716945865078830174:True:=⟨⟩
theorem tw17937665669204586185:True:=⟨⟩
theorem tw11442835807695188833:True:=⟨⟩
theorem tw15529724270145109210:True:=⟨⟩
theorem tw10590322553741206297:True:=⟨⟩
theorem tw7972976672683057299:True:=⟨⟩
theorem tw14577369339844777320:True:=⟨⟩
theorem tw3077799085539860389:True:=⟨⟩
theorem tw12173290442458733770:True:=⟨⟩
theorem tw9134786303589997237:True:=⟨⟩
theorem tw15368789998730853368:True:=⟨⟩
theorem tw11183303696750681952:True:=⟨⟩
theorem tw2560899021443632339:True:=⟨⟩
theorem tw8590608164067114011:True:=⟨⟩
theorem tw6406213052788834644:True:=⟨⟩
theorem tw2548365177635920762:True:=⟨⟩
theorem tw16843545075081482663:True:=⟨⟩
theorem tw2298252798818420384:True:=⟨⟩
theorem tw10827332287133855407:True:=⟨⟩
theorem tw5721287577712173367:True:=⟨⟩
theorem tw2399697716455954467:True:=⟨⟩
theorem tw13055454126037002619:True:=⟨⟩
theorem tw17284638510234000190:True:=⟨⟩
theorem tw13139419663259089893:True:=⟨⟩
theorem tw18420759659774360572:True:=⟨⟩
theorem tw1143910805524588773:True:=⟨⟩
theorem tw13162096790120551339:True:=⟨⟩
theorem tw13821938040693535345:True:=⟨⟩
theorem tw6570154387500215693:True:=⟨⟩
theorem tw1744476253847859248:True:=⟨⟩
theorem tw4345400306362057044:True:=⟨⟩
theorem tw12170805674634032584:True:=⟨⟩
theorem tw7983933444036072318:True:=⟨⟩
theorem tw11840140288478347755:True:=⟨⟩
theorem tw742273084034803323:True:=⟨⟩
theorem tw17444669277751072104:True:=⟨⟩
theorem tw17665815214114208061:True:=⟨⟩
theorem tw18320980426611822810:True:=⟨⟩
theorem tw15295574824625358196:True:=⟨⟩
theorem tw6054551152978739817:True:=⟨⟩
theorem tw10684097645052375023:True:=⟨⟩
theorem tw15340151499928498840:True:=⟨⟩
theorem tw7265643242483741936:True:=⟨⟩
theorem tw9599247985056272503:True:=⟨⟩
theorem tw14877174543319612859:True:=⟨⟩
theorem tw5375362588142657860:True:=⟨⟩
theorem tw3777805684726409715:True:=⟨⟩
theorem tw17984502356877117547:True:=⟨⟩
theorem tw13800234119395803617:True:=⟨⟩
theorem tw8327874305834241426:True:=⟨⟩
theorem tw15117910144920126929:True:=⟨⟩
theorem tw1632512549561805857:True:=⟨⟩
theorem tw17457819873609790914:True:=⟨⟩
theorem tw4226851030224959457:True:=⟨⟩
theorem tw13826231090989502542:True:=⟨⟩
theorem tw1148309590283961587:True:=⟨⟩
theorem tw378390670915337915:True:=⟨⟩
theorem tw2472461389731364735:True:=⟨⟩
theorem tw15582466666109210223:True:=⟨⟩
theorem tw4800472613687707892:True:=⟨⟩
theorem tw16722230371741842090:True:=⟨⟩
theorem tw7817510535739528132:True:=⟨⟩
theorem tw3957328674700931505:True:=⟨⟩
theorem tw10476085559865986220:True:=⟨⟩
theorem tw3366712382685736710:True:=⟨⟩
theorem tw6135085777391812710:True:=⟨⟩
theorem tw13047921483372416644:True:=⟨⟩
theorem tw17067262872905095871:True:=⟨⟩
theorem tw2485331602922573794:True:=⟨⟩
theorem tw10106752192312191131:True:=⟨⟩
theorem tw15030791675768910694:True:=⟨⟩
theorem tw5916691219791584796:True:=⟨⟩
theorem tw12454458287876100768:True:=⟨⟩
theorem tw3742489193202349095:True:=⟨⟩
theorem tw17226393532307363307:True:=⟨⟩
theorem tw5500089082753993209:True:=⟨⟩
theorem tw13425049548411955543:True:=⟨⟩
theorem tw6328610805378710868:True:=⟨⟩
theorem tw11160066764644561136:True:=⟨⟩
theorem tw8478616709636400437:True:=⟨⟩
theorem tw8353147617342487103:True:=⟨⟩
theorem tw16365037902649052333:True:=⟨⟩
theorem tw11942899854299734823:True:=⟨⟩
theorem tw6771048242719191092:True:=⟨⟩
theorem tw2174474696648504936:True:=⟨⟩
theorem tw1976896638802223788:True:=⟨⟩
theorem tw9605206928602056792:True:=⟨⟩
theorem tw3541214569311528537:True:=⟨⟩
theorem tw1013268354029968337:True:=⟨⟩
theorem tw16586546396628605969:True:=⟨⟩
theorem tw6167489436267726566:True:=⟨⟩
theorem tw10419154583845167327:True:=⟨⟩
theorem tw11851208407245342261:True:=⟨⟩
theorem tw4515545305698869437:True:=⟨⟩
theorem tw11718803907543131730:True:=⟨⟩
theorem tw8279851169307592962:True:=⟨⟩
theorem tw6371312845374305157:True:=⟨⟩
theorem tw6168109211687370109:True:=⟨⟩
theorem tw15660784794365900018:True:=⟨⟩
theorem tw18254541448884086552:True:=⟨⟩
theorem tw1292662339990281057:True:=⟨⟩
theorem tw16803411634036065455:True:=⟨⟩
theorem tw368728332945023674:True:=⟨⟩
theorem tw5222638328672287711:True:=⟨⟩
theorem tw7906755440948323721:True:=⟨⟩
theorem tw7408200341356190429:True:=⟨⟩
theorem tw199711610808453956:True:=⟨⟩
theorem tw12880273658229535666:True:=⟨⟩
theorem tw987288605051755808:True:=⟨⟩
theorem tw5551793355018725650:True:=⟨⟩
theorem tw16812225710490380054:True:=⟨⟩
theorem tw9563641059057356408:True:=⟨⟩
theorem tw5056913146785551588:True:=⟨⟩
theorem tw12734748003032646337:True:=⟨⟩
theorem tw4653142262109707311:True:=⟨⟩
theorem tw3629861602033290837:True:=⟨⟩
theorem tw14363019129845271111:True:=⟨⟩
theorem tw9636157883789390054:True:=⟨⟩
theorem tw9500461315411651589:True:=⟨⟩
theorem tw12918555708353171246:True:=⟨⟩
theorem tw5480023143445053170:True:=⟨⟩
theorem tw5894241349736029727:True:=⟨⟩
theorem tw1132603291865061602:True:=⟨⟩
theorem tw7647122926570792284:True:=⟨⟩
theorem tw3792148936910127567:True:=⟨⟩
theorem tw5879857909435896072:True:=⟨⟩
theorem tw16772831100167082419:True:=⟨⟩
theorem tw3276247296995299201:True:=⟨⟩
theorem tw81672257861955854:True:=⟨⟩
theorem tw8626745494384574793:True:=⟨⟩
theorem tw3420591429017310978:True:=⟨⟩
theorem tw15184114676528954776:True:=⟨⟩
theorem tw18132878627836854291:True:=⟨⟩
theorem tw2712998625864573065:True:=⟨⟩
theorem tw14805535415399767365:True:=⟨⟩
theorem tw6855282941643493637:True:=⟨⟩
theorem tw16408508615980555113:True:=⟨⟩
theorem tw7090935427777699668:True:=⟨⟩
theorem tw17062841887246867146:True:=⟨⟩
theorem tw7808911359865374802:True:=⟨⟩
theorem tw4807715169827266445:True:=⟨⟩
theorem tw3900072742206057743:True:=⟨⟩
theorem tw13456557177718732887:True:=⟨⟩
theorem tw17214226743415055986:True:=⟨⟩
theorem tw4013096312280207812:True:=⟨⟩
theorem tw6386622900113332413:True:=⟨⟩
theorem tw5435541364560967603:True:=⟨⟩
theorem tw4627370760563825481:True:=⟨⟩
theorem tw319766490908605575:True:=⟨⟩
theorem tw2625102492908057461:True:=⟨⟩
theorem tw11342182767595863496:True:=⟨⟩
theorem tw2490468019918318899:True:=⟨⟩
theorem tw6662743520136862567:True:=⟨⟩
theorem tw5293881173208619920:True:=⟨⟩
theorem tw9315203706027686323:True:=⟨⟩
theorem tw9856727126132472333:True:=⟨⟩
theorem tw11793414368383715646:True:=⟨⟩
theorem tw9895895190978650871:True:=⟨⟩
theorem tw9637798463797554341:True:=⟨⟩
theorem tw14153485454216603749:True:=⟨⟩
theorem tw15498315770347919993:True:=⟨⟩
theorem tw2157077341510087794:True:=⟨⟩
theorem tw7915862916848272528:True:=⟨⟩
theorem tw3853998521172368099:True:=⟨⟩
theorem tw18236657616424145182:True:=⟨⟩
theorem tw9599247745696784319:True:=⟨⟩
theorem tw12953653581809306659:True:=⟨⟩
theorem tw7627642430853399989:True:=⟨⟩
theorem tw4061438729653981576:True:=⟨⟩
theorem tw3938289198468395620:True:=⟨⟩
theorem tw7892630080833409268:True:=⟨⟩
theorem tw11457368373065572766:True:=⟨⟩
theorem tw18160407905700915961:True:=⟨⟩
theorem tw4153177840980907282:True:=⟨⟩
theorem tw1347981102219862973:True:=⟨⟩
theorem tw6101073613276933307:True:=⟨⟩
theorem tw7015457987144849253:True:=⟨⟩
theorem tw14821303702493876380:True:=⟨⟩
theorem tw16488360117977295117:True:=⟨⟩
theorem tw12963205460461797387:True:=⟨⟩
theorem tw11242855817617088244:True:=⟨⟩
theorem tw11503208285483668657:True:=⟨⟩
theorem tw1003417928413376487:True:=⟨⟩
theorem tw8476137688328821403:True:=⟨⟩
theorem tw15332402031950228187:True:=⟨⟩
theorem tw17463257838959626174:True:=⟨⟩
theorem tw11765659582801124951:True:=⟨⟩
theorem tw13744250245070969450:True:=⟨⟩
theorem tw4421194578387960051:True:=⟨⟩
theorem tw1748365360635766293:True:=⟨⟩
theorem tw16722352334569127578:True:=⟨⟩
theorem tw7639078390077189267:True:=⟨⟩
theorem tw2491731206178325469:True:=⟨⟩
theorem tw4165097343802965292:True:=⟨⟩
theorem tw6874748876866500292:True:=⟨⟩
theorem tw1042548399904961918:True:=⟨⟩
theorem tw5384091425522495876:True:=⟨⟩
theorem tw13450844210198420826:True:=⟨⟩
theorem tw17244363657561701594:True:=⟨⟩
theorem tw4354578052445839818:True:=⟨⟩
theorem tw17117311932890715346:True:=⟨⟩
theorem tw12247683208183675522:True:=⟨⟩
theorem tw10708786291761178941:True:=⟨⟩
end PySem.W.Fast
open PySem PySem.W PyProof.Rows
set_option maxRecDepth 100000 in
set_option maxHeartbeats 0 in
theorem PySem.Challenge.cw_sashiko_k58_texts_of_no_finds_holds : PySem.Challenge.rw_sashiko_k58_texts_of_no_finds.Holds := by
 w_on; o_law; k_head; (case hw=>w_witness2)
 k_fill
 refine L2.walk_ofK (l:=PySem.Challenge.rw_sashiko_k58_texts_of_no_finds) (n:=63) (k:=16) (x:="_law_script") (CX:=L2.CX0) (sp:=My.sp_law) rfl (by decide) rfl ⟨rfl,by decide,by decide⟩ (fun w h Y=>PySem.W.kIn_of Y) ?F ?S ?C
 case F =>
  intro w mg fa h KX G hmg
  have T:∃ t:My.Ad,My.Txt (L2.KOf KX) mg t:=by
   dsimp only [L2.KOf];refine' My.txt_mk KX G ?aC_ab ?pg_ab ?hd_ab ?po_ab ?sa_ab ?mk_ab ?kc_ab ?naF_columns_count ?naF_rows_count ?naF_facts ?naF_next_number ?naF_groups ?F_aL ?oi_ay ?of_ay ?ok_ay ?os_ay ?om_ay ?ox_ay ?a_aE ?F_aE ?a_av ?F_av ?a_ba ?F_ba ?a_aX ?F_aX ?a_aQ ?F_aQ ?a_ax ?F_ax ?a_aw ?F_aw ?a_ao ?F_ao ?a_ap ?F_ap ?a_aq ?F_aq ?a_ai ?F_ai ?a_tie ?F_tie ?a_an ?F_an ?a_aD ?F_aD ?a_aH ?F_aH ?a_ar ?i_ar ?F_ar ?a_ak ?i_ak ?F_ak ?a_aj ?i_aj ?F_aj ?a_ah ?i_ah ?F_ah ?a_ag ?i_ag ?F_ag ?a_am ?i_am ?F_am ?a_ad ?i_ad ?F_ad ?a_au ?i_au ?F_au ?a_ac ?i_ac ?F_ac ?a_af ?i_af ?F_af ?a_aB ?F_aB ?a_as ?F_as ?a_aK ?F_aK ?a_ae ?F_ae ?a_aI ?F_aI ?a_aC ?F_aC ?a_al ?F_al ?a_at ?F_at ?a_bc ?F_bc ?a_a2 ?F_a2 ?a_aF ?F_aF ?a_aR ?F_aR ?a_a7 ?F_a7 ?a_bb ?F_bb ?a_aZ ?F_aZ ?a_a3 ?F_a3 ?a_a0 ?F_a0 ?a_a4 ?F_a4 ?a_aO ?F_aO ?a_aW ?F_aW ?a_aG ?F_aG ?a_a1 ?F_a1 ?a_a6 ?F_a6 ?a_az ?F_az ?a_aP ?F_aP ?a_aA ?F_aA ?a_law ?F_law ?aX_aJ ?aX_ay ?aX_aM ?aX_aU ?aX_aT ?aX_aN ?aX_aV ?aX_a5 ?aX_a9 ?aX_aa ?bb ?bm ?bt ?ogs ?otk ?x_aM ?xg_BadSize ?sb_aM ?x_aU ?xg_BadBit ?sb_aU ?x_aT ?xg_NoCell ?sb_aT ?x_aN ?xg_NoLine ?sb_aN ?x_aV ?xg_NoStep ?sb_aV ?x_a5 ?xg_Known ?sb_a5 ?x_a9 ?xg_NoFact ?sb_a9 ?x_aa ?xg_BadText ?sb_aa ?kt_aa_aM ?kt_aa_aU ?kt_aa_ay ?kt_aa_a5 ?kt_aa_aT ?kt_aa_aN ?kt_aa_aV ?kt_aa_aa ?kv_aa ?bg ?br ?ba ?nx_Clash_ring ?xg_Clash ?sb_ay ?v_LONGEST_SIDE ?v_MOST_FIGURES ?z_aY ?z_int ?z_bool ?z_all ?z_len ?z_bd ?z_list ?z_a8 ?z_abs ?z_sum ?z_min ?z_str ?z_zip ?z_aS
   (case aC_ab | aX_aJ | aX_ay | aX_aM | aX_aU | aX_aT | aX_aN | aX_aV | aX_a5 | aX_a9 | aX_aa | a_aE | a_av | a_ba | a_aX | a_aQ | a_ax | a_aw | a_ao | a_ap | a_aq | a_ai | a_tie | a_an | a_aD | a_aH | a_aB | a_as | a_aK | a_ae | a_aI | a_aC | a_al | a_at | a_bc | a_a2 | a_aF | a_aR | a_a7 | a_bb | a_aZ | a_a3 | a_a0 | a_a4 | a_aO | a_aW | a_aG | a_a1 | a_a6 | a_az | a_aP | a_aA | a_law=>(unfold My.QNs; k_is))
   (case z_aY | z_int | z_bool | z_all | z_len | z_bd | z_list | z_a8 | z_abs | z_sum | z_min | z_str | z_zip | z_aS=>(unfold My.QNn; k_is))
   (case oi_ay | a_ar | a_ak | a_aj | a_ah | a_ag | a_am | a_ad | a_au | a_ac | a_af=>(unfold My.QFi; k_is))
   (case pg_ab | hd_ab | po_ab | sa_ab | mk_ab | kc_ab | of_ay | ok_ay | os_ay | om_ay | bb | bm | bt | ogs | otk | sb_aM | sb_aU | sb_aT | sb_aN | sb_aV | sb_a5 | sb_a9 | sb_aa | bg | br | ba | sb_ay | v_LONGEST_SIDE | v_MOST_FIGURES=>k_is)
   (case ox_ay=>(refine' L2.exi_mk ?xa ?xb ?xc ?xd ?xe ?xf; (case xa=>k_is); (case xb=>rfl); (case xc=>rfl); (case xd=>rfl); (case xe=>rfl); (case xf=>k_exc)))
   (case naF_columns_count | naF_rows_count | naF_facts | naF_next_number | naF_groups | nx_Clash_ring=>(unfold My.QFn; k_is))
   (case i_ar | i_ak | i_aj | i_ah | i_ag | i_am | i_ad | i_au | i_ac | i_af=>(unfold My.QIf; k_is))
   (case kt_aa_aM | kt_aa_aU | kt_aa_ay | kt_aa_a5 | kt_aa_aT | kt_aa_aN | kt_aa_aV | kt_aa_aa=>(unfold My.QKt; kit_is))
   (case x_aM | x_aU | x_aT | x_aN | x_aV | x_a5 | x_a9 | x_aa=>(unfold My.QXc; k_exc))
   (case F_aL | F_aE | F_av | F_ba | F_aX | F_aQ | F_ax | F_aw | F_ao | F_ap | F_aq | F_ai | F_tie | F_an | F_aD | F_aH | F_ar | F_ak | F_aj | F_ah | F_ag | F_am | F_ad | F_au | F_ac | F_af | F_aB | F_as | F_aK | F_ae | F_aI | F_aC | F_al | F_at | F_bc | F_a2 | F_aF | F_aR | F_a7 | F_bb | F_aZ | F_a3 | F_a0 | F_a4 | F_aO | F_aW | F_aG | F_a1 | F_a6 | F_az | F_aP | F_aA | F_law=>exact L2.fun_mk (by k_is) (by k_is) (by k_is))
   (case xg_BadSize | xg_BadBit | xg_NoCell | xg_NoLine | xg_NoStep | xg_Known | xg_NoFact | xg_BadText | xg_Clash=>exact ⟨by k_is,by k_is,by k_is,by k_is,by k_is⟩)
   (case kv_aa=>kit_is)
  obtain ⟨t,T⟩:=T;have e0:=hmg.symm.trans T.mg_law
  cases e0;exact ⟨t.d_law,T.F_law.bl fun _ _ _ _ _ _ _=>rfl,fun base _ _=>My.CJ T⟩
 case S=>exact fun K H a ns hl _ hS=>⟨a,ns,rfl,hS,hl,fun _=>rfl⟩
 case C=>exact fun _ _ _ _ z=>z
